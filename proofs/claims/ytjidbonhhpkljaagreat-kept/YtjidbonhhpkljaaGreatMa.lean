/- What the proof stands on, in short names. -/
import Derived.Below
import Derived.Conc.Beside
import Derived.Laws.Sem
import Derived.StepT
import GoSem.Dispatch
import Derived.Conc.Listed
import Derived.Calls
import Derived.Test.YtjidbonhhpkljaaGreatProg
import Derived.KernelRfl
import Derived.WalkKit
import Derived.Test.YtjidbonhhpkljaaGreatRows
import Derived.ProofKit
import Derived.Deep.QuietTactic
import Derived.BigQuiet
import Derived.Laws.BytesArg
import Derived.Deep.RegionWith
import Derived.ArgAppend
import Derived.Laws.CopyOwn
import Derived.Laws.BitsLemmas
import Derived.WalkLawsBesides
import Derived.Recover
import Derived.Laws.StructEq
set_option linter.all false
open Array renaming getElem?_eq_getElem->UU,getElem?_eq_none->Vl,getElem?_eq_some_iff->Ub,getElem?_modify->VV,getElem?_push->VB,getElem?_setIfInBounds->UP,range->Yp
open BitVec renaming ofInt->Xb
open Bool renaming and_eq_true->Uw,eq_iff_iff->XF,false->T7,false_eq_true->UB,true->Z
open False renaming elim->Yq
open Go renaming Addr->UJ,BinOp->Yx,Code->WV,Deferred->Wj,Event->Vm,Frame->Ut,Func->WC,FuncId->V1,GStep->Yt,IntKind->Wx,Item->WM,MapEntry->VP,Obj->Xv,Operand->U6,PanicEntry->Vr,Program->Uf,Result->XW,Sem->Wu,TypeId->Uh,Value->U,World->F,behindNumber->WA,doReturn->WZ,exitTo->Yh,info_parts->Ve,lt_of_block->Ue,maxLen->Uq,resolve->X6,results->UX,stepG->UM,tryRecover->Xp,typeInfo->XC,undef->Vk,underlying->Xq,unwind->Yi,zeroValue->Wn
open Go.Addr renaming add->Yr
open Go.Addr.mk renaming injEq->Wh
open Go.Builtin renaming append_->XX,firstCells->Xl,holdsCells->Xm,lenOf->Yl,mayShare->Yb,unsafeAdd_->Xn
open Go.ByteArray renaming toList_eq->XJ
open Go.Conc renaming G->Ug
open Go.Deferred renaming ofValue->XN
open Go.Extern renaming find->YB
open Go.Frame renaming enter->UY,finish->VW,round->WX
open Go.GStep renaming after->WQ
open Go.Instr renaming buildSlice->XO,checkKey->XT,endRound->Yc,fill->X7,findKey->Ym,makeSlice->XY,sameBits->Xz,sureAddr->Xd
open Go.IntKind renaming bits->Yg,i64->XM,signed->XU,u64->Wl,u8->Yu,wrap_i64->WY
open Go.Op.Complex renaming add->YU,arith->YS,cmp->YV,conv->YT,corrected->YY,mul->YW,product->YP,quo->Y7,quotient->YN,sub->YX
open Go.Proofs.Tryz renaming prog->T4
open Go.Region renaming schedule->XZ,wanted->UF
open Go.Result.halt renaming injEq->Y4
open Go.RowKit renaming Below->XS,intOf->US,wrap64->Vb
open Go.RowKit.Below renaming refl->Up
open Go.RuntimeError renaming error->Y1
open Go.Sem renaming run->Wt,runT->U4,run_bind->WJ
open Go.Unsupported renaming resourceLimit->YH,unsafePointer->Yz
open Go.Value renaming int->VY,slice->Vg
open Go.Value.slice renaming injEq->VA
open Go.World renaming cell?->Us,drewN_drewN->Xh,farLoad->X9,farStore->XA,freeze->VQ,frozen?->UQ,noCell->WU,setCell->Ya
open Go.World.grownBy renaming block->Wv,refl->YQ,size->Xo
open Go.stepG renaming apply->VN,exec->UI
open List renaming all_eq_true->Uz,append_assoc->UC,cons_append->Wd,drop_eq_getElem_cons->Wo,eq_nil_of_length_eq_zero->Vh,getD->Yw,length_append->Ua,length_cons->VI,length_drop->Xa,mem_append->U1,mem_cons->VM,mem_cons_self->Xs,mem_map->U7,mem_singleton->WI,take_of_length_le->UO,take_succ_eq_append_getElem->Uo
open MonadExceptOf renaming throw->YF
open Nat renaming add_assoc->U5,le_refl->T8,le_trans->Uy,lt_of_lt_of_le->Ud,lt_or_ge->Vy,mul_add->Ye,mul_comm->Xx,mul_le_mul_left->Xi,pow_add->Xk,pow_le_pow_right->VO,pow_succ->WL,zero_le->UE
open Option renaming map_eq_some_iff->Wq,map_some->V3,none->K,some->I
open Option.some renaming inj->Yk,injEq->U8
open Std.Legacy.Range renaming forIn_eq_forIn_range'->Vx
set_option maxRecDepth 100000
set_option maxHeartbeats 8000000
namespace Go.Proofs.YtjidbonhhpkljaaGreat
def X (p:Prop):Prop:=p
def X.o{p:Prop}(h:X p):p:=h
def af{p:Prop}(h:p):X p:=h
def Y{α:Sort _}{a:α}:a=a:=rfl
abbrev aO:U:=.slice K 0 0
abbrev aM(w:F)(b o:Nat)(v:U):Prop:=w.cell? ⟨b,o,K⟩=I v
abbrev aP(w w':F):Prop:=XS w.heap.size w w'
end Go.Proofs.YtjidbonhhpkljaaGreat
namespace Go.Proofs.YtjidbonhhpkljaaGreat
namespace Cc
open Go
abbrev Tp:=Nat->Question->Nat
def sh (a:Tp)(d:Nat)(w:F):F:={w with tape:=a,drawn:=d}
def rW {α:Type}:XW α->F
 | .ok _ w=>w
 | .halt _ w=>w
def Al (e:Tp)(d:Nat)(f:Tp)(c:Nat)(n:Nat):Prop:=∀a b,a<n->f (c+a) b=e (d+a) b
def Al.sub{b c:Tp}{d a n m:Nat}(h:Al b d c a n)(i:m<=n):Al b d c a m:=λe f g=>h e f (by omega)
def Al.refl(a:Tp)(d n:Nat):Al a d a d n:=λ_ _ _=>rfl
def pi:Halt->Bool
 | .panic _=>Z
 | .stuck _=>Z
 | .unsupported (.initOrder _)=>T7
 | .unsupported _=>Z
 |_=>T7
def pz:Xv:=.coro K
def jk:Xv->Bool
 | .loop _| .deferred _| .pending _ _| .coro _=>Z
 |_=>T7
def Gx {α:Type}(k:Xv->Wu α):Prop:=(∃s,k pz= .halt (.stuck s))\/((∀c,k (.loop c)=k pz)/\(∀b,k (.deferred b)=k pz)/\(∀a d,k (.pending a d)=k pz)/\∀e,k (.coro e)=k pz)
def Gx.bind{α e:Type}{k:Xv->Wu α}(h:Gx k)(f:α->Wu e):Gx λo=>(k o).bind f:=by
 rcases h with⟨s,h⟩|⟨a,b,c,d⟩
 ·exact .inl ⟨s,by dsimp only;rw[h];rfl⟩
 ·exact .inr ⟨λj=>by dsimp only;rw[a],λi=>by dsimp only;rw[b],λg l=>by dsimp only;rw[c],λm=>by dsimp only;rw[d]⟩
def Gx.S9{α:Type}{k:Xv->Wu α}(h:Gx k){x:Xv}(e:jk x=Z):(∃s,k pz= .halt (.stuck s))\/k x=k pz:=by
 rcases h with h|⟨a,b,c,d⟩
 ·exact .inl h
 ·cases x<;>first|(simp[jk] at e;done)|exact .inr (a _)|exact .inr (b _)|exact .inr (c _ _)|exact .inr (d _)
section
variable (P P':Uf)(O:Xv->Prop)
def Still{α:Type}(Q:α->Prop):Wu α->Prop
 | .pure d=>Q d
 | .load _ _ a=>∀v,Still Q (a v)
 | .store _ _ _ a=>Still Q a
 | .new b a=>O b/\∀c,Still Q (a c)
 | .shape _ a=>∀s,Still Q (a s)
 | .freeze _ _ a=>Still Q a
 | .frozen _ a=>∀e,Still Q (a e)
 | .getObj _ a=>(∀b,O b->Still Q (a b))/\Gx a
 | .setObj _ b a=>O b/\Still Q a
 | .choose _ a=>∀i,Still Q (a i)
 | .sys g a=>g= .env/\∀c,Still Q (a c)
 | .program a=>a P=a P'/\Still Q (a P)
 | .mark m a=>(Conc.Neutral m\/∃f,m= .extern f)/\Still Q a
 | .halt h=>pi h=Z
def Still.bind{α j:Type}{Q:α->Prop}{R:j->Prop}{f:α->Wu j}(k:∀a,Q a->Still P P' O R (f a)):∀{s:Wu α},Still P P' O Q s->Still P P' O R (s.bind f):=by
 intro s
 induction s with
 |pure a=>intro b;exact k a b
 |load m a d c=>intro b v;exact c v (b v)
 |store m a v d c=>intro b;exact c b
 |new g d c=>intro b;exact⟨b.1,λe=>c e (b.2 e)⟩
 |shape e d c=>intro b s;exact c s (b s)
 |freeze a h d c=>intro b;exact c b
 |frozen a d c=>intro b i;exact c i (b i)
 |getObj e d c=>intro b;exact⟨λg l=>c g (b.1 g l),b.2.bind f⟩
 |setObj e g d c=>intro b;exact⟨b.1,c b.2⟩
 |choose o d c=>intro b h;exact c h (b h)
 |sys n d c=>intro b;exact⟨b.1,λe=>c e (b.2 e)⟩
 |program d c=>intro b;exact⟨congrArg (·.bind f) b.1,c P b.2⟩
 |mark m d c=>intro b;exact⟨b.1,c b.2⟩
 |halt b=>intro b;exact b
def Still.mono{α:Type}{Q R:α->Prop}(j:∀a,Q a->R a):∀{s:Wu α},Still P P' O Q s->Still P P' O R s:=by
 intro s
 induction s with
 |pure a=>intro b;exact j a b
 |load m a d c=>intro b v;exact c v (b v)
 |store m a v d c=>intro b;exact c b
 |new f d c=>intro b;exact⟨b.1,λe=>c e (b.2 e)⟩
 |shape e d c=>intro b s;exact c s (b s)
 |freeze a g d c=>intro b;exact c b
 |frozen a d c=>intro b h;exact c h (b h)
 |getObj e d c=>intro b;exact⟨λf i=>c f (b.1 f i),b.2⟩
 |setObj e f d c=>intro b;exact⟨b.1,c b.2⟩
 |choose l d c=>intro b g;exact c g (b g)
 |sys k d c=>intro b;exact⟨b.1,λe=>c e (b.2 e)⟩
 |program d c=>intro b;exact⟨b.1,c P b.2⟩
 |mark m d c=>intro b;exact⟨b.1,c b.2⟩
 |halt b=>intro b;exact b
end
def Hp (O:Xv->Prop)(w:F):Prop:=∀(b:Nat) (a:Xv),w.heap[b]? =I a->O a\/a=pz
structure Plain(O:Xv->Prop):Prop where
 cells:∀c t f,O (.cells c t f)
 pending:∀c t,¬O (.pending c t)
 Ri:¬O pz
 loop:∃r,O (.loop r)
structure Un(w u:F):Prop where
 size:u.heap.size=w.heap.size
 at_:∀(b:Nat) (o:Xv),w.heap[b]? =I o->u.heap[b]? =I o\/(o=pz/\∃x,u.heap[b]? =I x/\jk x=Z)
 os:u.os=w.os
 output:u.output=w.output
structure rX(w u w' u':F):Prop where
 un:Un w' u'
 keep:∀b:Nat,w'.heap[b]? =I pz->w.heap[b]? =I pz/\u'.heap[b]? =u.heap[b]?
def Un.refl(w:F):Un w w:=⟨rfl,λb c a=>.inl a,rfl,rfl⟩
def Un.two{w u:F}(h:Un w u):rX w u w u:=⟨h,λb a=>⟨a,rfl⟩⟩
def rX.trans{w u w1 u1 c u2:F}(h:rX w u w1 u1)(b:rX w1 u1 c u2):rX w u c u2:=⟨b.un,λa i=>by
 obtain⟨d,e⟩:=b.keep a i;obtain⟨f,g⟩:=h.keep a d;exact⟨f,e.trans g⟩⟩
def Un.none{w u:F}(h:Un w u){b:Nat}(a:w.heap[b]? =K):u.heap[b]? =K:=by
 rw[Array.getElem?_eq_none_iff] at a ⊢;rw[h.size];exact a
def Un.o{w u:F}(h:Un w u){b:Nat}{o:Xv}(a:w.heap[b]? =I o)(c:o≠pz):u.heap[b]? =I o:=(h.at_ b o a).elim id λh=>absurd h.1 c
def Un.row{w u:F}(h:Un w u){b:Nat}{c:Array U}{t:Uh}{f:Nat×Nat}:w.heap[b]? =I (.cells c t f)↔u.heap[b]? =I (.cells c t f):=by
 constructor
 ·exact λa=>h.o a (by simp[pz])
 ·intro a;cases e:w.heap[b]? with
  |none=>rw[h.none e] at a;cases a
  |some i=>
   rcases h.at_ b i e with d|⟨_,j,d,g⟩
   ·rw[d] at a;exact a
   ·rw[d] at a;cases a;simp[jk] at g
def Un.cases{w u:F}(h:Un w u)(b:Nat):u.heap[b]? =w.heap[b]? \/(w.heap[b]? =I pz/\∃x,u.heap[b]? =I x/\jk x=Z):=by
 cases c:w.heap[b]? with
 |none=>exact .inl (h.none c)
 |some e=>
  rcases h.at_ b e c with a|⟨rfl,x,a,d⟩
  ·exact .inl a
  ·exact .inr ⟨rfl,x,a,d⟩
def Un.cell{w u:F}(h:Un w u)(a:UJ):u.cell? a=w.cell? a:=by
 unfold Us;rcases h.cases a.block with b|⟨b,e,c,d⟩
 ·rw[b]
 ·rw[b,c];cases e<;>first|rfl|(simp[jk] at d;done)
def Un.shape{w u:F}(h:Un w u)(r:Nat):u.shape? r=w.shape? r:=by
 unfold World.shape?;rcases h.cases r with a|⟨a,d,b,c⟩
 ·rw[a]
 ·rw[a,b];cases d<;>first|rfl|(simp[jk] at c;done)
def Un.frozen{w u:F}(h:Un w u)(a:UJ):u.frozen? a=w.frozen? a:=by
 unfold UQ;rcases h.cases a.block with b|⟨b,e,c,d⟩
 ·rw[b]
 ·rw[b,c];cases e<;>first|rfl|(simp[jk] at d;done)
def Un.modify{w u:F}(h:Un w u)(r:Nat)(f:Xv->Xv)(hc:∀c t z,∃n x y,f (.cells c t z)= .cells n x y)(l:∀o,(∀c t z,o≠.cells c t z)->f o=o):rX w u {w with heap:=w.heap.modify r f} {u with heap:=u.heap.modify r f}:=by
 have q:∀(h:Array Xv) (e:Nat),(h.modify r f)[e]? =(h[e]?).map λo=>if r=e then f o else o:=λh e=>by
  rw[VV]
  split
  ·rename_i a;subst a;simp
  ·rename_i a;simp[a]
 have v:∀d,jk d=Z->∀c t z,d≠.cells c t z:=λd j c t z a=>by rw[a] at j;simp[jk] at j
 refine⟨⟨by simp[h.size],λe o b=>?_,h.os,h.output⟩,λe b=>?_⟩
 ·simp only[q] at b ⊢;cases i:w.heap[e]? with
  |none=>rw[i] at b;cases b
  |some g=>
   rw[i] at b;rcases h.at_ e g i with a|⟨rfl,d,a,j⟩
   ·rw[a];exact .inl b
   ·have k:(if r=e then f pz else pz)=pz:=by split<;>first|rfl|exact l pz (λc t z=>by simp[pz])
    have m:(if r=e then f d else d)=d:=by split<;>first|rfl|exact l d (v d j)
    simp only[V3,k,U8] at b;exact .inr ⟨b.symm,d,by rw[a];simp[m],j⟩
 ·simp only[q] at b ⊢;cases i:w.heap[e]? with
  |none=>rw[i] at b;cases b
  |some g=>
   rw[i] at b;have A:g=pz:=by
    by_cases p:∃c t z,g= .cells c t z
    ·obtain⟨c,t,z,rfl⟩:=p;obtain⟨n,x,y,a⟩:=hc c t z;simp only[V3,a,U8] at b
     split at b<;>simp[pz] at b
    ·have k:(if r=e then f g else g)=g:=by split<;>first|rfl|exact l g (λc t z a=>p ⟨c,t,z,a⟩)
     simpa [k] using b
   subst A;refine⟨rfl,?_⟩;rcases h.at_ e pz i with a|⟨_,d,a,j⟩
   ·rw[a];have k:(if r=e then f pz else pz)=pz:=by split<;>first|rfl|exact l pz (λc t z=>by simp[pz])
    simp[k]
   ·rw[a];have m:(if r=e then f d else d)=d:=by split<;>first|rfl|exact l d (v d j)
    simp[m]
def Un.push{w u:F}(h:Un w u){o:Xv}(d:o≠pz):rX w u {w with heap:=w.heap.push o} {u with heap:=u.heap.push o}:=by
 refine⟨⟨by simp[h.size],λc e a=>?_,h.os,h.output⟩,λc a=>?_⟩
 ·simp only[VB,h.size] at a ⊢
  split
  ·rename_i b;rw[if_pos b] at a;exact .inl a
  ·rename_i b;rw[if_neg b] at a;exact h.at_ c e a
 ·simp only[VB,h.size] at a ⊢
  split at a
  ·cases a;exact absurd Y d
  ·rename_i b;rw[if_neg b];exact⟨a,rfl⟩
def Un.set{w u:F}(h:Un w u)(r:Nat){o:Xv}(d:o≠pz):rX w u {w with heap:=w.heap.setIfInBounds r o} {u with heap:=u.heap.setIfInBounds r o}:=by
 refine⟨⟨by simp[h.size],λc e a=>?_,h.os,h.output⟩,λc a=>?_⟩
 ·simp only[UP,h.size] at a ⊢
  split
  ·rename_i b;rw[if_pos b] at a;exact .inl a
  ·rename_i b;rw[if_neg b] at a;exact h.at_ c e a
 ·simp only[UP,h.size] at a ⊢
  split at a
  ·split at a
   ·cases a;exact absurd Y d
   ·cases a
  ·rename_i b;rw[if_neg b];exact⟨a,rfl⟩
structure Views(P P':Uf):Prop where
 load:∀(w u:F) at_ t a m,(∀c e f,w.heap[(at_:UJ).block]? =I (.cells c e f)↔u.heap[at_.block]? =I (.cells c e f))->u.viewLoad P' at_ t a m=w.viewLoad P at_ t a m
 touch:∀(w:F) at_ t a m v l,w.viewLoad P at_ t a m= .ok (v,l)->∀x∈l,x.block<w.heap.size
 store:∀(w u:F) at_ t a v m,(∀c e f,w.heap[(at_:UJ).block]? =I (.cells c e f)↔u.heap[at_.block]? =I (.cells c e f))->(∃why,w.viewStore P at_ t a v m= .error why/\u.viewStore P' at_ t a v m= .error why)\/∃c e f l,w.viewStore P at_ t a v m= .ok ({w with heap:=w.heap.setIfInBounds at_.block (.cells c e f)},l)/\u.viewStore P' at_ t a v m= .ok ({u with heap:=u.heap.setIfInBounds at_.block (.cells c e f)},l)/\∀x∈l,x.block<w.heap.size
def zT (n:Nat)(e:Vm):Prop:=match e.loc with
 | .obj b=>b<n
 | .cell a=>a.block<n
 | .mark m=>Conc.Neutral m\/∃f,m= .extern f
 |_=>True
def zT.mono{n m:Nat}(h:n<=m){e:Vm}(a:zT n e):zT m e:=by
 unfold zT at*
 split<;>simp_all<;>omega
def Ol {α:Type}(u:F):XW α->XW α
 | .ok a _=>.ok a u
 | .halt b _=>.halt b u
structure jS{α:Type}(P P':Uf)(O:Xv->Prop)(Q:α->Prop)(s:Wu α)(w:F)(es:Array Vm):Prop where
 tape:(rW (s.runT P w es).1).tape=w.tape
 drawn:w.drawn<=(rW (s.runT P w es).1).drawn
 size:w.heap.size<=(rW (s.runT P w es).1).heap.size
 os:(rW (s.runT P w es).1).os=w.os
 output:(rW (s.runT P w es).1).output=w.output
 hp:Hp O (rW (s.runT P w es).1)
 ok:∀a w',(s.runT P w es).1= .ok a w'->Q a
 halt:∀h w',(s.runT P w es).1= .halt h w'->pi h=Z
 evs:∀e∈(s.runT P w es).2,e∈es\/zT (rW (s.runT P w es).1).heap.size e
 shift:(∃y w',(s.runT P w es).1= .halt (.stuck y) w')\/∀ τ d u,Un w u->Al w.tape w.drawn τ d ((rW (s.runT P w es).1).drawn-w.drawn)->∃u',rX w u (rW (s.runT P w es).1) u'/\s.runT P' (sh τ d u) es=(Ol (sh τ (d+((rW (s.runT P w es).1).drawn-w.drawn)) u') (s.runT P w es).1,(s.runT P w es).2)
section
variable {α:Type}{P P':Uf}{O:Xv->Prop}{Q:α->Prop}{w w1:F}{es L9:Array Vm}{s s1:Wu α}
def jS.cons(n:Nat)(h:jS P P' O Q s1 w1 L9)(a:s.runT P w es=s1.runT P w1 L9)(i:w1.tape=w.tape)(l:w1.drawn=w.drawn+n)(r:w.heap.size<=w1.heap.size)(o:w1.os=w.os)(v:w1.output=w.output)
 (A:∀e∈L9,e∈es\/zT w1.heap.size e) (f:(∃y w',(s.runT P w es).1= .halt (.stuck y) w')\/∀b d u,Un w u->Al w.tape w.drawn b d n->∃u1,rX w u w1 u1/\s.runT P' (sh b d u) es=s1.runT P' (sh b (d+n) u1) L9):jS P P' O Q s w es:=by
 have D:=h.drawn;refine⟨by rw[a,h.tape,i],by rw[a];omega,by rw[a];exact Uy r h.size,by rw[a,h.os,o],by rw[a,h.output,v],by rw[a];exact h.hp,by rw[a];exact h.ok,by rw[a];exact h.halt,?_,?_⟩
 ·rw[a];intro e m;rcases h.evs e m with c|c
  ·exact(A e c).imp id (zT.mono h.size)
  ·exact .inr c
 ·rcases f with f|f
  ·exact .inl f
  ·rw[a];rcases h.shift with c|t
   ·exact .inl c
   ·refine .inr λb d u z g=>?_;have k:(rW (s1.runT P w1 L9).1).drawn-w.drawn=n+((rW (s1.runT P w1 L9).1).drawn-w1.drawn):=by omega
    obtain⟨u1,j,p⟩:=f b d u z (g.sub (by omega));obtain⟨u2,x,q⟩:=t b (d+n) u1 j.un (by
     intro B C E;have:=g (n+B) C (by omega);rw[i,l,U5,U5];exact this)
    exact⟨u2,j.trans x,by rw[p,q,k,U5]⟩
def jS.ends{x:Halt}(a:s.runT P w es=(.halt x w,es))(j:pi x=Z)(i:Hp O w)(c:(∃y,x= .stuck y)\/∀b d u,Un w u->s.runT P' (sh b d u) es=(.halt x (sh b d u),es)):jS P P' O Q s w es:=by
 refine⟨by rw[a];rfl,by rw[a];exact T8 _,by rw[a];exact T8 _,by rw[a];rfl,by rw[a];rfl,by rw[a];exact i,?_,?_,?_,?_⟩
 ·rw[a];intro l k f;cases f
 ·rw[a];intro f k e;cases e;exact j
 ·rw[a];exact λe h=>.inl h
 ·rw[a];rcases c with⟨y,rfl⟩|c
  ·exact .inl ⟨y,w,rfl⟩
  ·refine .inr λb d u g _=>⟨u,g.two,?_⟩;rw[c b d u g];simp[Ol,rW]
end
def Hp.push{O:Xv->Prop}{w:F}(h:Hp O w){o:Xv}(c:O o):Hp O {w with heap:=w.heap.push o}:=by
 intro b d a;simp only[VB] at a
 split at a
 ·cases a;exact .inl c
 ·exact h b d a
def Hp.set{O:Xv->Prop}{w:F}(h:Hp O w)(r:Nat){o:Xv}(c:O o):Hp O {w with heap:=w.heap.setIfInBounds r o}:=by
 intro b d a;simp only[UP] at a
 split at a
 ·split at a
  ·cases a;exact .inl c
  ·cases a
 ·exact h b d a
def Hp.modify{O:Xv->Prop}(g:Plain O){w:F}(h:Hp O w)(r:Nat)(f:Xv->Xv)(i:∀o,f o=o\/∃c t z,f o= .cells c t z):Hp O {w with heap:=w.heap.modify r f}:=by
 intro d k a;simp only[VV] at a
 split at a
 ·obtain⟨e,j,rfl⟩:=Wq.1 a;rcases i e with b|⟨c,t,z,b⟩
  ·rw[b];exact h d e j
  ·rw[b];exact .inl (g.cells c t z)
 ·exact h d k a
def Hp.sh{O:Xv->Prop}{w:F}(h:Hp O w)(a:Tp)(d:Nat):Hp O (sh a d w):=h
def sW{O:Xv->Prop}(d:Plain O){w:F}(h:Hp O w){a:UJ}(e:∀x t,w.heap[a.block]? ≠I (.view x t))(s:String):w.noCell a s= .stuck s:=by
 unfold WU
 split
 ·rename_i c t b;exact(h _ _ b).elim (λh=>absurd h (d.pending _ _)) (λh=>by cases h)
 ·rename_i c t b;exact absurd b (e _ _)
 ·rfl
def mM{n:Nat}{es:Array Vm}{e:Vm}(b:zT n e):∀x∈es.push e,x∈es\/zT n x:=λx c=>by
 rcases Array.mem_push.1 c with a|rfl
 ·exact .inl a
 ·exact .inr b
def H7{w:F}{a:UJ}{v:U}(h:w.cell? a=I v):a.block<w.heap.size:=by
 unfold Us at h;cases b:w.heap[a.block]? with
 |none=>rw[b] at h;cases h
 |some c=>exact(Ub.1 b).1
def Un.setCell{w u:F}(h:Un w u)(a:UJ)(v:U):rX w u (w.setCell a v) (u.setCell a v):=by
 unfold Ya;refine h.modify _ _ (λd e f=>⟨_,_,_,rfl⟩) λc b=>?_;cases c<;>first|rfl|exact absurd rfl (b _ _ _)
def Un.freeze{w u:F}(h:Un w u)(a:UJ)(n:Nat):rX w u (w.freeze a n) (u.freeze a n):=by
 unfold VQ
 split
 ·exact h.two
 ·refine h.modify _ _ (λd e f=>⟨_,_,_,rfl⟩) λc b=>?_;cases c<;>first|rfl|exact absurd rfl (b _ _ _)
def zO(w:F)(a:UJ):(∃x t,w.heap[a.block]? =I (.view x t))\/∀x t,w.heap[a.block]? ≠I (.view x t):=by
 by_cases b:∃x t,w.heap[a.block]? =I (.view x t)
 ·exact .inl b
 ·exact .inr λx t c=>b ⟨x,t,c⟩
def sP{w:F}{a x:UJ}{t:Uh}(h:w.heap[a.block]? =I (.view x t))(R:Uf)(m:Bool):w.farLoad R a m=match w.viewLoad R x t a m with| .ok r=>.ok r| .error b=>.error (.unsupported (.unsafePointer b)):=by
 unfold X9;rw[h];rfl
def kO{w:F}{a x:UJ}{t:Uh}(h:w.heap[a.block]? =I (.view x t))(R:Uf)(v:U)(m:Bool):w.farStore R a v m=match w.viewStore R x t a v m with| .ok r=>.ok r| .error b=>.error (.unsupported (.unsafePointer b)):=by
 unfold XA;rw[h];rfl
def BZ {w:F} {a:UJ} (h:∀x t,w.heap[a.block]? ≠I (.view x t)) (R:Uf) (m:Bool):w.farLoad R a m= .error (w.noCell a "load: no such cell"):=by
 unfold X9
 split
 ·rename_i b;exact absurd b (h _ _)
 ·rfl
def Ad {w:F} {a:UJ} (h:∀x t,w.heap[a.block]? ≠I (.view x t)) (R:Uf) (v:U) (m:Bool):w.farStore R a v m= .error (w.noCell a "store: no such cell"):=by
 unfold XA
 split
 ·rename_i b;exact absurd b (h _ _)
 ·rfl
def Hy{n:Nat}{es a:Array Vm}(b:∀e∈a,zT n e):∀x∈es++a,x∈es\/zT n x:=λx c=>(Array.mem_append.1 c).imp id (b x)
def Nq{α:Type}{P P':Uf}{O:Xv->Prop}(R:Plain O)(am:Views P P'){Q:α->Prop}(s:Wu α):∀(w:F) (es:Array Vm),Still P P' O Q s->Hp O w->jS P P' O Q s w es:=by
 induction s with
 |pure c=>
  intro w es i g;refine⟨rfl,T8 _,T8 _,rfl,rfl,g,λa1 j n=>?_,λn j h=>by simp[U4] at h,λh ar=>.inl ar,.inr λe d a b _=>⟨a,b.two,?_⟩⟩
  ·simp only[U4] at n;cases n;exact i
  ·simp[U4,Ol,rW]
 |load m c p u=>
  intro w es i g;cases q:w.cell? c with
  |some v=>
   have W:=H7 q;exact(u v w (es.push ⟨.cell c,T7,m == .atomic⟩) (i v) g).cons 0 (by simp only[U4,q]) Y Y (T8 _) Y Y (mM (by simpa [zT] using W)) (.inr λe d a b _=>⟨a,b.two,by
    have z:(sh e d a).cell? c=I v:=(b.cell c).trans q;simp only[U4,z];rfl⟩)
  |none=>
   rcases zO w c with⟨l,o,B⟩|B
   ·cases L:w.viewLoad P l o c (m == .atomic) with
    |ok ba=>
     obtain⟨v,S⟩:=ba;have t:∀(N:Uf) (j:F),j.cell? c=K->j.heap[c.block]? =I (.view l o)->j.viewLoad N l o c (m == .atomic)= .ok (v,S)->(Sem.load m c p).runT N j es=(p v).runT N j (es++S.toArray.map (⟨.cell ·,T7,m == .atomic⟩)):=by
      intro N j ab ad aq;simp only[U4,ab,sP ad,aq]
     refine(u v w _ (i v) g).cons 0 (t P w q B L) Y Y (T8 _) Y Y (Hy λh ar=>?_) (.inr λe d a b _=>⟨a,b.two,t P' (sh e d a) ((b.cell c).trans q) (b.o B (by simp[pz])) ?_⟩)
     ·obtain⟨D,V,rfl⟩:=Array.mem_map.1 ar;exact am.touch w l o c _ v S L D (by simpa using V)
     ·rw[<-L];exact am.load w (sh e d a) l o c _ λr h f=>b.row
    |error ao=>
     have t:∀(N:Uf) (j:F),j.cell? c=K->j.heap[c.block]? =I (.view l o)->j.viewLoad N l o c (m == .atomic)= .error ao->(Sem.load m c p).runT N j es=(.halt (.unsupported (.unsafePointer ao)) j,es):=by
      intro N j ab ad aq;simp only[U4,ab,sP ad,aq]
     exact jS.ends (t P w q B L) Y g (.inr λe d a b=>t P' (sh e d a) ((b.cell c).trans q) (b.o B (by simp[pz])) (by rw[<-L];exact am.load w (sh e d a) l o c _ λr h f=>b.row))
   ·exact jS.ends (x:=.stuck "load: no such cell") (by simp only[U4,q,BZ B,sW R g B]) Y g (.inl ⟨_,rfl⟩)
 |store m c v p u=>
  intro w es i g;have a9:(∀l,v≠.agg l)->(∀l,v≠.tuple l)->jS P P' O Q (.store m c v p) w es:=by
   intro ab ad;have t:∀(P:Uf) (j:F),(Sem.store m c v p).runT P j es=(match j.cell? c with
    |some _=>if j.frozen? c then(.halt (.unsupported (.unsafePointer "a write to bytes that a string shares")) j,es) else p.runT P (j.setCell c v) (es.push ⟨.cell c,Z,m == .atomic⟩)
    |none=>match j.farStore P c v (m == .atomic) with
     | .ok (bc,bb)=>p.runT P bc (es++bb.toArray.map (⟨.cell ·,Z,m == .atomic⟩))
     | .error n=>(.halt n j,es)):=by
    intro P j;cases v<;>first|exact absurd rfl (ab _)|exact absurd rfl (ad _)|rfl
   cases q:w.cell? c with
   |some l=>
    by_cases J:w.frozen? c=Z
    ·refine jS.ends (x:=.unsupported (.unsafePointer "a write to bytes that a string shares")) (by rw[t,q];simp only[J,if_true]) Y g (.inr λe d a b=>?_);have z:(sh e d a).cell? c=I l:=(b.cell c).trans q;have av:(sh e d a).frozen? c=Z:=(b.frozen c).trans J;rw[t,z];simp only[av,if_true]
    ·have ae:Hp O (w.setCell c v):=by
      unfold Ya;refine g.modify R _ _ λk=>?_;cases k<;>first|exact .inl rfl|exact .inr ⟨_,_,_,rfl⟩
     refine(u (w.setCell c v) (es.push ⟨.cell c,Z,m == .atomic⟩) i ae).cons 0 (by rw[t,q];simp only[J,if_false];rfl) rfl rfl (by simp[Ya]) rfl rfl (mM (by simpa [zT,Ya] using H7 q)) (.inr λe d a b _=>⟨a.setCell c v,b.setCell c v,?_⟩);have z:(sh e d a).cell? c=I l:=(b.cell c).trans q;have av:¬(sh e d a).frozen? c=Z:=λh=>J ((b.frozen c).symm.trans h);rw[t,z];simp only[av,if_false];rfl
   |none=>
    rcases zO w c with⟨l,o,B⟩|B
    ·have T:=λa (b:Un w a)=>am.store w a l o c v (m == .atomic) λr h f=>b.row;rcases T w (Un.refl w) with⟨ao,C,-⟩|⟨r,h,f,S,C,-,L⟩
     ·refine jS.ends (x:=.unsupported (.unsafePointer ao)) (by rw[t,q];simp only[kO B,C]) Y g (.inr λe d a b=>?_);have z:(sh e d a).cell? c=K:=(b.cell c).trans q;have aw:(sh e d a).heap[c.block]? =I (.view l o):=b.o B (by simp[pz]);rcases T (sh e d a) ⟨b.size,b.at_,b.os,b.output⟩ with⟨bd,E,al⟩|⟨r,h,f,S,E,-⟩
      ·rw[C] at E;cases E;rw[t,z];simp only[kO aw,al]
      ·rw[C] at E;cases E
     ·have ae:Hp O {w with heap:=w.heap.setIfInBounds l.block (.cells r h f)}:=g.set _ (R.cells _ _ _);refine(u {w with heap:=w.heap.setIfInBounds l.block (.cells r h f)} (es++S.toArray.map (⟨.cell ·,Z,m == .atomic⟩)) i ae).cons 0 (by rw[t,q];simp only[kO B,C]) Y Y (by simp) Y Y (Hy λD V=>?_) (.inr λe d a b _=>?_)
      ·obtain⟨y,a8,rfl⟩:=Array.mem_map.1 V;have:=L y (by simpa using a8);simpa [zT] using this
      ·have z:(sh e d a).cell? c=K:=(b.cell c).trans q;have aw:(sh e d a).heap[c.block]? =I (.view l o):=b.o B (by simp[pz]);rcases T (sh e d a) ⟨b.size,b.at_,b.os,b.output⟩ with⟨bd,E,al⟩|⟨a2,a3,a4,be,E,al,-⟩
       ·rw[C] at E;cases E
       ·rw[C] at E;have az:=Except.ok.inj E;simp only[Prod.mk.injEq] at az;obtain⟨a5,rfl⟩:=az;refine⟨{a with heap:=a.heap.setIfInBounds l.block (.cells a2 a3 a4)},?_,?_⟩
        ·rw[a5];exact b.set l.block (by simp[pz])
        ·rw[t,z];simp only[kO aw,al];rfl
    ·exact jS.ends (x:=.stuck "store: no such cell") (by rw[t,q];simp only[Ad B,sW R g B]) Y g (.inl ⟨_,rfl⟩)
  cases v with
  |agg l=>exact jS.ends (x:=.stuck "store: not the value of one cell") Y Y g (.inl ⟨_,rfl⟩)
  |tuple l=>exact jS.ends (x:=.stuck "store: not the value of one cell") Y Y g (.inl ⟨_,rfl⟩)
  |_=>exact a9 (λl n=>by cases n) (λl n=>by cases n)
 |new k p u=>
  intro w es i g;have X:k≠pz:=λh=>R.Ri (h▸i.1);exact(u w.heap.size {w with heap:=w.heap.push k} es (i.2 _) (g.push i.1)).cons 0 Y Y Y (by simp) Y Y (λh n=>.inl n) (.inr λe d a b _=>⟨{a with heap:=a.heap.push k},b.push X,by
   show(p a.heap.size).runT P' _ es=_;rw[b.size];rfl⟩)
 |shape x p u=>intro w es i g;exact(u (w.shape? x) w es (i _) g).cons 0 Y Y Y (T8 _) Y Y (λh n=>.inl n) (.inr λe d a b _=>⟨a,b.two,by
  show(p (a.shape? x)).runT P' (sh e d a) es=_;rw[b.shape];rfl⟩)
 |freeze c G p u=>
  intro w es i g;have ae:Hp O (w.freeze c G):=by
   unfold VQ
   split
   ·exact g
   ·refine g.modify R _ _ λk=>?_;cases k<;>first|exact .inl rfl|exact .inr ⟨_,_,_,rfl⟩
  have C:(w.freeze c G).tape=w.tape/\(w.freeze c G).drawn=w.drawn/\(w.freeze c G).heap.size=w.heap.size/\(w.freeze c G).os=w.os/\(w.freeze c G).output=w.output:=by
   unfold VQ;split<;>simp
  exact(u (w.freeze c G) es i ae).cons 0 Y C.1 C.2.1 (by rw[C.2.2.1];exact T8 _) C.2.2.2.1 C.2.2.2.2 (λh n=>.inl n) (.inr λe d a b _=>⟨a.freeze c G,b.freeze c G,by
   have:(sh e d a).freeze c G=sh e d (a.freeze c G):=by unfold VQ;split<;>rfl
   simp only[U4,this];rfl⟩)
 |frozen c p u=>intro w es i g;exact(u (w.frozen? c) w es (i _) g).cons 0 Y Y Y (T8 _) Y Y (λh n=>.inl n) (.inr λe d a b _=>⟨a,b.two,by
  show(p (a.frozen? c)).runT P' (sh e d a) es=_;rw[b.frozen];rfl⟩)
 |getObj x p u=>
  intro w es i g;cases A:w.heap[x]? with
  |none=>exact jS.ends (x:=.stuck "getObj: no such block") (by simp only[U4,A]) Y g (.inl ⟨_,rfl⟩)
  |some k=>
   have W:x<w.heap.size:=(Ub.1 A).1;by_cases q:∃r o y,k= .cells r o y
   ·obtain⟨r,o,y,rfl⟩:=q;exact jS.ends (x:=.stuck "getObj: a row of cells") (by simp only[U4,A]) Y g (.inl ⟨_,rfl⟩)
   ·have t:∀(P:Uf) (j:F) (k:Xv),(∀r o y,k≠.cells r o y)->j.heap[x]? =I k->(Sem.getObj x p).runT P j es=(p k).runT P j (es.push ⟨.obj x,T7,k.isChan⟩):=by
     intro P j k q ap;cases k<;>first|exact absurd rfl (q _ _ _)|simp only[U4,ap]
    have z:∀r o y,k≠.cells r o y:=λr o y h=>q ⟨r,o,y,h⟩;have T:Still P P' O Q (p k)\/∃D,p k= .halt (.stuck D):=by
     rcases g x k A with n|rfl
     ·exact .inl (i.1 k n)
     ·rcases i.2 with⟨D,n⟩|⟨n,-⟩
      ·exact .inr ⟨D,n⟩
      ·obtain⟨S,L⟩:=R.loop;exact .inl (by rw[<-n S];exact i.1 _ L)
    rcases T with T|⟨D,V⟩
    ·refine(u k w _ T g).cons 0 (t P w k z A) Y Y (T8 _) Y Y (mM (by simpa [zT] using W)) ?_;by_cases X:k=pz
     ·subst X;by_cases a0:∃D,p pz= .halt (.stuck D)
      ·obtain⟨D,V⟩:=a0;exact .inl ⟨D,w,by rw[t P w pz z A,V];rfl⟩
      ·refine .inr λe d a b _=>⟨a,b.two,?_⟩;rcases b.at_ x pz A with h|⟨_,l,h,U⟩
       ·exact t P' (sh e d a) pz z h
       ·rw[t P' (sh e d a) l (λr o y h=>by rw[h] at U;simp[jk] at U) h,(i.2.S9 U).resolve_left a0];cases l<;>first|rfl|(simp[jk] at U;done)
     ·exact .inr λe d a b _=>⟨a,b.two,t P' (sh e d a) k z (b.o A X)⟩
    ·have H:(Sem.getObj x p).runT P w es=(.halt (.stuck D) w,es.push ⟨.obj x,T7,k.isChan⟩):=by rw[t P w k z A,V];rfl
     refine⟨by rw[H];rfl,by rw[H];exact T8 _,by rw[H];exact T8 _,by rw[H];rfl,by rw[H];rfl,by rw[H];exact g,?_,?_,?_,.inl ⟨D,w,by rw[H]⟩⟩
     ·rw[H];intro c j n;cases n
     ·rw[H];intro n j h;cases h;rfl
     ·rw[H];exact mM (n:=w.heap.size) (by simpa [zT] using W)
 |setObj x k p u=>
  intro w es i g;cases A:w.heap[x]? with
  |none=>exact jS.ends (x:=.stuck "setObj: no such block") (by simp only[U4,A]) Y g (.inl ⟨_,rfl⟩)
  |some M=>
   have W:x<w.heap.size:=(Ub.1 A).1;by_cases q:∃r o y,M= .cells r o y
   ·obtain⟨r,o,y,rfl⟩:=q;exact jS.ends (x:=.stuck "setObj: a row of cells") (by simp only[U4,A]) Y g (.inl ⟨_,rfl⟩)
   ·have t:∀(P:Uf) (j:F) (M:Xv),(∀r o y,M≠.cells r o y)->j.heap[x]? =I M->(Sem.setObj x k p).runT P j es=p.runT P {j with heap:=j.heap.setIfInBounds x k} (es.push ⟨.obj x,Z,k.isChan⟩):=by
     intro P j M q ap;cases M<;>first|exact absurd rfl (q _ _ _)|simp only[U4,ap]
    have X:k≠pz:=λh=>R.Ri (h▸i.1);refine(u {w with heap:=w.heap.setIfInBounds x k} _ i.2 (g.set x i.1)).cons 0 (t P w M (λr o y h=>q ⟨r,o,y,h⟩) A) Y Y (by simp) Y Y (mM (by simpa [zT] using W)) (.inr λe d a b _=>⟨{a with heap:=a.heap.setIfInBounds x k},b.set x X,?_⟩);rcases b.at_ x M A with h|⟨_,l,h,U⟩
    ·exact t P' (sh e d a) M (λr o y h=>q ⟨r,o,y,h⟩) h
    ·exact t P' (sh e d a) l (λr o y h=>by rw[h] at U;simp[jk] at U) h
 |choose aa p u=>
  intro w es i g;by_cases J:aa.forced=Z
  ·exact(u 0 w es (i _) g).cons 0 (by simp only[U4,J,if_true]) Y Y (T8 _) Y Y (λh n=>.inl n) (.inr λe d a b _=>⟨a,b.two,by simp only[U4,J,if_true];rfl⟩)
  ·refine(u (aa.cut (w.tape w.drawn aa)) {w with drawn:=w.drawn+1} es (i _) g).cons 1 (by simp only[U4,J,if_false];rfl) rfl rfl (T8 _) rfl rfl (λh n=>.inl n) (.inr λe d a b a6=>⟨a,⟨⟨b.size,b.at_,b.os,b.output⟩,λa1 a7=>⟨a7,rfl⟩⟩,?_⟩);have:=a6 0 aa (by omega);simp only[Nat.add_zero] at this;simp only[U4,J,if_false];have h:(sh e d a).tape (sh e d a).drawn aa=w.tape w.drawn aa:=this;rw[h];rfl
 |sys r p u=>
  intro w es i g;obtain⟨rfl,i⟩:=i;exact(u (.strings w.os.env) w (es.push ⟨.output,Z,T7⟩) (i _) g).cons 0 Y Y Y (T8 _) Y Y (mM (by simp[zT])) (.inr λe d a b _=>⟨a,b.two,by
   show(p (.strings a.os.env)).runT P' (sh e d a) _=_;rw[b.os];rfl⟩)
 |program p u=>
  intro w es i g;exact(u P w es i.2 g).cons 0 Y Y Y (T8 _) Y Y (λh n=>.inl n) (.inr λe d a b _=>⟨a,b.two,by
   show(p P').runT P' (sh e d a) es=_;rw[<-i.1];rfl⟩)
 |mark m p u=>intro w es i g;exact(u w _ i.2 g).cons 0 Y Y Y (T8 _) Y Y (mM i.1) (.inr λe d a b _=>⟨a,b.two,rfl⟩)
 |halt l=>intro w es i g;exact jS.ends (x:=l) Y i g (.inr λe d a b=>rfl)
structure Twin(P P':Uf):Prop where
 info:∀t,P'.info? t=P.info? t
 tJ:∀t,P'.underlying t=P.underlying t
 rt:P'.rt=P.rt
 cells:∀t,P'.cellsOf t=P.cellsOf t
 bytes:∀t,P'.bytesOf t=P.bytesOf t
 depth:P'.depth=P.depth
 jj:∀d e c o u n,liesAt P' d e c o u n=liesAt P d e c o u n
 cellAt:∀d e c o b,cellAtBytes P' d e c o b=cellAtBytes P d e c o b
 BL:∀d t o,byteOfCell P' d t o=byteOfCell P d t o
 SQ:∀d t,P'.eqGuardType d t=P.eqGuardType d t
 IG:∀t,P'.stoodInHeld t=P.stoodInHeld t
 M2:∀d t,P'.holdsPacked d t=P.holdsPacked d t
 yp:P'.globals=P.globals
 godebug:P'.godebug=P.godebug
 TP:P'.types=P.types
 Q9:∀f:Nat,P'.funcs[f]? =P.funcs[f]? \/∃fn fn':WC,P.funcs[f]? =I fn/\P'.funcs[f]? =I fn'/\fn'.name=fn.name/\fn.body.isNone=T7/\fn'.body.isNone=T7
section
variable {P P':Uf}{O:Xv->Prop}{α β:Type}
abbrev St(P P':Uf)(O:Xv->Prop)(s:Wu α):Prop:=Still P P' O (λ_=>True) s
def iO{Q:α->Prop}{R:β->Prop}{s:Wu α}{f:α->Wu β}(c:Still P P' O Q s)(b:∀a,Q a->Still P P' O R (f a)):Still P P' O R (s >>= f):=Still.bind P P' O b c
def ag{R:β->Prop}{s:Wu α}{f:α->Wu β}(c:St P P' O s)(b:∀a,Still P P' O R (f a)):Still P P' O R (s >>= f):=Still.bind P P' O (λa _=>b a) c
def bV{Q:α->Prop}{c:Prop} [Decidable c]{s t:Wu α}(a:Still P P' O Q s)(b:Still P P' O Q t):Still P P' O Q (if c then s else t):=by split<;>assumption
def TA{Q:α->Prop}{s:Wu α}(a:Still P P' O Q s):St P P' O s:=a.mono P P' O (λ_ _=>trivial)
def cC{Q:α->Prop}{f:Uf->Wu α}(h:f P=f P')(a:Still P P' O Q (f P)):Still P P' O Q (program >>= f):=⟨h,a⟩
def aA{Q:α->Prop}(s:String):Still P P' O Q (stuck s):=rfl
def aZ{Q:α->Prop}(u:Unsupported)(h:pi (.unsupported u)=Z):Still P P' O Q (unsupported u):=h
def oQ{Q:α->Prop}(v:U):Still P P' O Q (goPanic v):=rfl
def tE(a:UJ)(m:Mode):St P P' O (load a m):=λ_=>trivial
def NN(a:UJ)(v:U)(m:Mode):St P P' O (store a v m):=trivial
def gO(r:Nat):St P P' O (shape r):=λ_=>trivial
def uV(a:UJ):St P P' O (frozen a):=λ_=>trivial
def Bm(a:UJ)(n:Nat):St P P' O (freeze a n):=trivial
def cW(q:Question):St P P' O (choose q):=λ_=>trivial
def jE{R:β->Prop}(r:Nat){f:Xv->Wu β}(a:∀o,O o->Still P P' O R (f o))(b:Gx f):Still P P' O R (getObj r >>= f):=⟨a,b⟩
def pU{f:Xv->Wu β}{s:String}(h:f pz= .halt (.stuck s)):Gx f:=.inl ⟨s,h⟩
def Ih{f:Xv->Wu β}(h1:∀r,f (.loop r)=f pz)(a:∀d,f (.deferred d)=f pz)(b:∀c t,f (.pending c t)=f pz)(e:∀x,f (.coro x)=f pz):Gx f:=.inr ⟨h1,a,b,e⟩
def l9(r:Nat){o:Xv}(h:O o):St P P' O (setObj r o):=⟨h,trivial⟩
def l8{o:Xv}(h:O o):St P P' O (newObj o):=⟨h,λ_=>trivial⟩
def Bp:St P P' O (mark .noRoom):=⟨.inl Y,trivial⟩
def zu(n:Nat):St P P' O (askRoom n):=by unfold askRoom;split;exact Bp;exact trivial
def oN(v:U):St P P' O (asIntOf v):=by unfold asIntOf;split<;>first|exact trivial|exact aA _|exact rfl
def k9(v:U):St P P' O (asInt v):=ag (oN v) (λ_=>trivial)
def uR(v:U):St P P' O (asBool v):=by unfold asBool;split<;>first|exact trivial|exact aA _
def qm(v:U):St P P' O (asString v):=by unfold asString;split<;>first|exact trivial|exact aA _
def zq(v:U):St P P' O (asAgg v):=by unfold asAgg;split<;>first|exact trivial|exact aA _
def bN(a:Twin P P')(t:Uh):St P P' O (XC t):=by
 unfold XC;refine cC (by rw[a.info]) ?_
 split
 ·exact trivial
 ·exact aA _
def aI(a:Twin P P')(t:Uh):St P P' O (Xq t):=by
 unfold Xq;refine cC (by rw[a.tJ]) ?_
 split
 ·exact trivial
 ·exact aA _
def fJ(a:Twin P P')(t:Uh):St P P' O (Wn t):=by
 unfold Wn;refine ag (bN a t) λb=>?_
 split
 ·exact trivial
 ·exact aZ _ Y
def bU(a:Twin P P')(t:Uh):St P P' O (sizeOf t):=ag (bN a t) (λ_=>trivial)
def ET(a:Twin P P')(t:Uh):St P P' O (isAgg t):=by
 unfold isAgg;refine ag (aI a t) λb=>?_
 split<;>exact trivial
def sx(a:Twin P P')(t:Uh):St P P' O (typeStr t):=by
 unfold typeStr;refine ag (bN a t) λb=>?_;dsimp only
 split
 ·exact aZ _ Y
 ·exact trivial
def uT(a:Twin P P')(t:Uh):St P P' O (elemOf t):=by
 unfold elemOf;refine ag (aI a t) λb=>?_
 split
 ·exact trivial
 ·exact aA _
theorem oh(a:UJ):∀(n i:Nat) (b:Array U),St P P' O (loadCellsFrom a i n b)
 |0,i,b=>trivial
 |n+1,i,b=>ag (tE _ _) (λv=>oh a n (i+1) (b.push v))
def oR(a:UJ)(n:Nat):St P P' O (loadCells a n):=oh a n 0 #[]
theorem jq(a:UJ):∀(vs:List U) (i:Nat),St P P' O (storeCells a vs i)
 | [],i=>trivial
 |v::b,i=>ag (NN _ _ _) (λ_=>jq a b (i+1))
def jN(a:Plain O)(e:Uh)(c:Array U):St P P' O (newRow e c):=ag (l8 (a.cells c e (0,0))) (λ_=>trivial)
def Bo(a:Plain O)(e:Uh)(v:U):St P P' O (newVar e v):=jN a e v.cells
def gW(a:Twin P P')(t:Uh)(cs:Array U)(off:Nat):St P P' O (part t cs off):=by
 unfold part;refine ag (ET a t) λb=>?_
 split
 ·exact ag (bU a t) λ_=>trivial
 ·split
  ·exact trivial
  ·exact aA _
def oS(b:Twin P P')(t:Uh)(a:UJ):St P P' O (loadVar t a):=by
 unfold loadVar;refine ag (ET b t) λc=>?_
 split
 ·exact ag (bU b t) λ_=>ag (oR _ _) λ_=>trivial
 ·exact tE _ _
def v9(b:Twin P P')(t:Uh)(a:UJ)(v:U):St P P' O (storeVar t a v):=by
 unfold storeVar;refine ag (bU b t) λc=>?_;dsimp only
 split
 ·exact ag (aA _) λ_=>jq _ _ _
 ·exact jq _ _ _
def bQ(a:Twin P P')(b:Plain O){Q:α->Prop}(e:RuntimeError):Still P P' O Q (runtimePanic e):=by
 unfold runtimePanic;refine cC ?_ ?_
 ·dsimp only;rw[a.rt];cases e<;>first|rfl|(simp only[typeHandle,a.yp])
 ·dsimp only;cases e with
  |typeAssertion f d c m=>exact ag (uT a _) λ_=>ag (Bo b _ _) λ_=>oQ _
  |panicNil=>exact ag (uT a _) λ_=>ag (Bo b _ _) λ_=>oQ _
  |_=>exact oQ _
def og(b:Twin P P')(a:Plain O)(v:U):St P P' O (asAddr v):=by
 unfold asAddr
 split
 ·exact trivial
 ·exact bQ b a _
 ·exact aA _
def mR(b:Twin P P')(a:Plain O){Q:α->Prop}(k:Wx)(x y:Int)(c:BoundsCode):Still P P' O Q (boundsPanic k x y c):=by
 unfold boundsPanic;dsimp only
 split
 ·exact ag (ag (cW _) λ_=>trivial) λ_=>bQ b a _
 ·exact ag trivial λ_=>bQ b a _
def Br(b:Twin P P')(a:Plain O)(r:Nat):St P P' O (viewAt r):=by unfold viewAt;((try dsimp only);repeat' first|exact gO _|(refine jE _ (λ_ _=>?_) ?_)|exact Ih (λ_=>rfl) (λ_=>rfl) (λ_ _=>rfl) (λ_=>rfl)|assumption|(refine ag ?_ (λ_=>?_))|(refine bV ?_ ?_)|intro _|split|(dsimp only)|exact trivial)
def vZ(b:Twin P P')(a:Plain O)(r:Nat):St P P' O (numberAt r):=by unfold numberAt;((try dsimp only);repeat' first|exact gO _|(refine jE _ (λ_ _=>?_) ?_)|exact Ih (λ_=>rfl) (λ_=>rfl) (λ_ _=>rfl) (λ_=>rfl)|assumption|(refine ag ?_ (λ_=>?_))|(refine bV ?_ ?_)|intro _|split|(dsimp only)|exact trivial)
def ed(b:Twin P P')(a:Plain O)(n:UJ):St P P' O (WA n):=by unfold WA;((try dsimp only);repeat' first|exact vZ b a _|assumption|(refine ag ?_ (λ_=>?_))|intro _|split|(dsimp only)|exact trivial)
def Bq(c:Twin P P')(b:Plain O)(a:UJ):St P P' O (noView a):=by unfold noView;((try dsimp only);repeat' first|(refine aZ _ ?_;rfl)|exact Br c b _|assumption|(refine ag ?_ (λ_=>?_))|(refine bV ?_ ?_)|intro _|split|(dsimp only)|exact trivial)
def om(c:Twin P P')(b:Plain O)(a:UJ):St P P' O (markStringish a):=by unfold markStringish;((try dsimp only);repeat' first|exact gO _|exact Bm _ _|assumption|(refine ag ?_ (λ_=>?_))|intro _|split|(dsimp only)|exact trivial)
def CP(c:Twin P P')(b:Plain O)(a:UJ):St P P' O (stringish a):=by unfold stringish;((try dsimp only);repeat' first|exact gO _|exact uV _|assumption|(refine ag ?_ (λ_=>?_))|(refine bV ?_ ?_)|intro _|split|(dsimp only)|exact trivial)
def EV(d:Twin P P')(c:Plain O)(a b:UJ):St P P' O (mayBeOne a b):=by unfold mayBeOne;((try dsimp only);repeat' first|exact gO _|exact CP d c _|assumption|(refine ag ?_ (λ_=>?_))|intro _|split|(dsimp only)|exact trivial)
def v8(d:Twin P P')(c:Plain O)(a b:UJ):St P P' O (sameAddr a b):=by unfold sameAddr;((try dsimp only);repeat' first|exact uV _|exact cW _|(refine aZ _ ?_;rfl)|exact EV d c _ _|exact Bq d c _|assumption|(refine ag ?_ (λ_=>?_))|(refine bV ?_ ?_)|intro _|split|(dsimp only)|exact trivial)
def zE(d:Twin P P')(c:Plain O)(a b:Option UJ):St P P' O (samePointer a b):=by unfold samePointer;((try dsimp only);repeat' first|exact v8 d c _ _|assumption|intro _|split|(dsimp only)|exact trivial)
def qV(b:Twin P P')(c:Plain O)(a:UJ):St P P' O (byteOf a):=by
 unfold byteOf;dsimp only
 split
 ·exact trivial
 ·refine cC (by simp only[b.cells,b.bytes,b.BL,b.depth]) ?_
  ((try dsimp only);repeat' first|exact aA _|exact gO _|exact Bq b c _|assumption|(refine ag ?_ (λ_=>?_))|(refine bV ?_ ?_)|intro _|split|(dsimp only)|exact trivial)
def KI(e:Twin P P')(d:Plain O)(a:UJ)(c b:Nat):St P P' O (partAt a c b):=by unfold partAt;((try dsimp only);repeat' first|exact qV e d _|assumption|(refine ag ?_ (λ_=>?_))|intro _|split|(dsimp only)|exact trivial)
def rN(b:Twin P P')(c:Plain O)(a:UJ)(f:Field):St P P' O (fieldPlace a f):=by unfold fieldPlace;((try dsimp only);repeat' first|exact bU b _|exact KI b c _ _ _|assumption|(refine ag ?_ (λ_=>?_))|(refine bV ?_ ?_)|intro _|split|(dsimp only)|exact trivial)
def zG(b:Twin P P')(c:Plain O)(a:UJ)(u:Uh)(n:Nat):St P P' O (variablesAt a u n):=by
 unfold variablesAt;refine cC (by simp only[b.cells,b.jj,b.depth]) ?_
 ((try dsimp only);repeat' first|exact gO _|assumption|(refine ag ?_ (λ_=>?_))|intro _|split|(dsimp only)|exact trivial)
def CL(e:Twin P P')(d:Plain O)(a:UJ)(b:ByteArray)(n:Nat):St P P' O (loadBytes a b n):=by
 induction n generalizing a b with
 |zero=>exact trivial
 |succ n c=>unfold loadBytes;((try dsimp only);repeat' first|exact aA _|exact tE _ _|exact c _ _|assumption|(refine ag ?_ (λ_=>?_))|intro _|split|(dsimp only)|exact trivial)
theorem CK{γ:Type}{f:α->γ->Wu (ForInStep γ)}:∀(l:List α) (b:γ),(∀x b,St P P' O (f x b))->St P P' O (forIn l b f)
 | [],b,a=>by simp only[List.forIn_nil];exact trivial
 |x::l,b,a=>by
  simp only[List.forIn_cons];refine ag (a x b) λs=>?_;cases s with
  |done b=>exact trivial
  |yield b=>exact CK l b a
def oP{γ:Type}{f:α->γ->Wu (ForInStep γ)}(l:Array α)(b:γ)(h:∀x b,St P P' O (f x b)):St P P' O (forIn l b f):=by
 rw[<-Array.forIn_toList];exact CK _ _ h
def qX{γ:Type}{f:Nat->γ->Wu (ForInStep γ)}(n:Nat)(b:γ)(h:∀x b,St P P' O (f x b)):St P P' O (forIn [0:n] b f):=by
 rw[Vx];exact CK _ _ h
theorem IE(g:α->Wu β):∀(l:List α),(∀x,St P P' O (g x))->St P P' O (l.mapM g)
 | [],a=>by rw[List.mapM_nil];exact trivial
 |x::l,a=>by
  rw[List.mapM_cons];exact ag (a x) λ_=>ag (IE g l a) λ_=>trivial
def ID(g:α->Wu β)(l:Array α)(h:∀x,St P P' O (g x)):St P P' O (l.mapM g):=by
 rw[Array.mapM_eq_mapM_toList];exact ag (IE g _ h) λ_=>trivial
theorem EQ{γ:Type}(g:γ->α->Wu γ):∀(l:List α) (b:γ),(∀b x,St P P' O (g b x))->St P P' O (l.foldlM g b)
 | [],b,a=>trivial
 |x::l,b,a=>by
  rw[List.foldlM_cons];exact ag (a b x) λ_=>EQ g l _ a
def lm(v:U):St P P' O (Xd v):=by unfold Xd;split<;>first|exact trivial|exact aA _
def ND(a:Twin P P')(b:Plain O)(e:Uh)(h:Bool)(v:U):St P P' O (Instr.alloc e h v):=by unfold Instr.alloc;((try dsimp only);repeat' first|exact fJ a _|exact v9 a _ _ _|exact jN b _ _|assumption|(refine ag ?_ (λ_=>?_))|intro _|split|(dsimp only)|exact trivial)
def RH(b:Twin P P')(a:Plain O)(e:Uh)(v:U):St P P' O (Instr.box e v):=by unfold Instr.box;((try dsimp only);repeat' first|exact jN a _ _|assumption|(refine ag ?_ (λ_=>?_))|intro _|split|(dsimp only)|exact trivial)
def NF(a:Twin P P')(b:Plain O)(t:Uh)(ps:Array (Nat×U)):St P P' O (Instr.build t ps):=by
 unfold Instr.build;refine ag (fJ a t) λe=>?_;dsimp only;refine ag (aI a t) λd=>?_
 split
 ·refine ag (ID _ _ λf=>ag (bU a _) λ_=>trivial) λc=>?_
  ((try dsimp only);repeat' first|exact aI a _|exact fJ a _|exact bU a _|exact aA _|assumption|(refine ag ?_ (λ_=>?_))|intro _|split|(dsimp only)|exact trivial)
 ·((try dsimp only);repeat' first|exact aI a _|exact fJ a _|exact bU a _|exact aA _|assumption|(refine ag ?_ (λ_=>?_))|intro _|split|(dsimp only)|exact trivial)
 ·exact aA _
def At(a:Twin P P')(b:Plain O)(t:Uh)(n:Nat)(ps:Array (Nat×U)):St P P' O (XO t n ps):=by unfold XO;((try dsimp only);repeat' first|exact aI a _|exact fJ a _|exact bU a _|exact aA _|(refine aZ _ ?_;rfl)|exact jN b _ _|assumption|(refine ag ?_ (λ_=>?_))|(refine bV ?_ ?_)|intro _|split|(dsimp only)|exact trivial)
def KG(a:Twin P P')(b:Plain O)(t:Uh)(v:U):St P P' O (Instr.loadAt t v):=by unfold Instr.loadAt;((try dsimp only);repeat' first|exact oS a _ _|exact lm _|assumption|(refine ag ?_ (λ_=>?_))|intro _|split|(dsimp only)|exact trivial)
def G2(b:Twin P P')(c:Plain O)(t:Uh)(a v:U):St P P' O (Instr.storeAt t a v):=by unfold Instr.storeAt;((try dsimp only);repeat' first|exact v9 b _ _ _|exact lm _|assumption|(refine ag ?_ (λ_=>?_))|intro _|split|(dsimp only)|exact trivial)
def GX(b:Twin P P')(c:Plain O)(t:Uh)(a:U)(f:Nat):St P P' O (Instr.fieldAt t a f):=by unfold Instr.fieldAt;((try dsimp only);repeat' first|exact aI b _|exact aA _|exact lm _|exact rN b c _ _|assumption|(refine ag ?_ (λ_=>?_))|intro _|split|(dsimp only)|exact trivial)
def GY(b:Twin P P')(c:Plain O)(t:Uh)(a i:U):St P P' O (Instr.indexAt t a i):=by unfold Instr.indexAt;((try dsimp only);repeat' first|exact aI b _|exact bU b _|exact aA _|(refine aZ _ ?_;rfl)|exact oN _|exact mR b c _ _ _ _|exact lm _|assumption|(refine ag ?_ (λ_=>?_))|(refine bV ?_ ?_)|intro _|split|(dsimp only)|exact trivial)
def Aw(b:Twin P P')(a:Plain O)(x:U)(y:Nat)(c:BoundsCode):St P P' O (Instr.sliceBound x y c):=by unfold Instr.sliceBound;((try dsimp only);repeat' first|exact oN _|exact mR b a _ _ _ _|assumption|(refine ag ?_ (λ_=>?_))|(refine bV ?_ ?_)|intro _|split|(dsimp only)|exact trivial)
def qx(e:Twin P P')(d:Plain O)(s:Bool)(l c:Nat)(a b m:Option U):St P P' O (Instr.sliceBounds s l c a b m):=by unfold Instr.sliceBounds;((try dsimp only);repeat' first|exact aA _|exact Aw e d _ _ _|assumption|(refine ag ?_ (λ_=>?_))|intro _|split|(dsimp only)|exact trivial)
def NM(c:Twin P P')(d:Plain O)(t:Uh)(x:U)(a b m:Option U):St P P' O (Instr.slice t x a b m):=by unfold Instr.slice;((try dsimp only);repeat' first|exact aI c _|exact bU c _|exact aA _|exact og c d _|exact qx c d _ _ _ _ _ _|assumption|(refine ag ?_ (λ_=>?_))|(refine bV ?_ ?_)|intro _|split|(dsimp only)|exact trivial)
def G1(c:Twin P P')(d:Plain O)(t:Uh)(x:U)(a b m:Option U):St P P' O (Instr.sliceAt t x a b m):=by unfold Instr.sliceAt;((try dsimp only);repeat' first|exact aI c _|exact bU c _|exact qx c d _ _ _ _ _ _|exact NM c d _ _ _ _ _|exact lm _|assumption|(refine ag ?_ (λ_=>?_))|intro _|split|(dsimp only)|exact trivial)
def uX(a:Twin P P')(b:Plain O)(t:Uh)(x:U):St P P' O (Instr.makeInterface t x):=by unfold Instr.makeInterface;((try dsimp only);repeat' first|exact aI a _|exact aA _|assumption|(refine ag ?_ (λ_=>?_))|intro _|split|(dsimp only)|exact trivial)
def CM(c:Twin P P')(d:Plain O)(t:Uh)(a b:U):St P P' O (XY t a b):=by unfold XY;((try dsimp only);repeat' first|exact bN c _|exact aI c _|exact fJ c _|exact bU c _|exact aA _|exact bQ c d _|exact cW _|exact k9 _|exact jN d _ _|exact zu _|assumption|(refine ag ?_ (λ_=>?_))|(refine bV ?_ ?_)|intro _|split|(dsimp only)|exact trivial)
def G0(b:Twin P P')(d:Plain O)(a:∀e c,O (.map e c))(t:Uh)(r:Option U):St P P' O (Instr.makeMap t r):=by unfold Instr.makeMap;((try dsimp only);repeat' first|exact aI b _|exact aA _|exact k9 _|exact l8 (a _ _)|assumption|(refine ag ?_ (λ_=>?_))|intro _|split|(dsimp only)|exact trivial)
def NI(a:Twin P P')(b:Plain O)(t:Uh)(x:U)(f:Nat):St P P' O (Instr.field t x f):=by unfold Instr.field;((try dsimp only);repeat' first|exact aI a _|exact aA _|exact zq _|exact gW a _ _ _|assumption|(refine ag ?_ (λ_=>?_))|intro _|split|(dsimp only)|exact trivial)
def NJ(a:Twin P P')(b:Plain O)(t:Uh)(x i:U):St P P' O (Instr.index t x i):=by unfold Instr.index;((try dsimp only);repeat' first|exact aI a _|exact bU a _|exact aA _|exact oN _|exact mR a b _ _ _ _|exact gW a _ _ _|assumption|(refine ag ?_ (λ_=>?_))|(refine bV ?_ ?_)|intro _|split|(dsimp only)|exact trivial)
def GW(v:U)(i:Nat):St P P' O (Instr.extract v i):=by
 unfold Instr.extract
 split
 ·split
  ·exact trivial
  ·exact aA _
 ·exact aA _
def EX(a:Twin P P'):St P P' O Instr.panicnil:=by
 unfold Instr.panicnil;refine ag ⟨rfl,λ_=>trivial⟩ λb=>?_
 split
 ·dsimp only;exact cC (by rw[a.godebug]) trivial
 ·exact aA _
def NK(a:Twin P P')(b:Plain O)(x:U):St P P' O (Instr.panic x):=by unfold Instr.panic;((try dsimp only);repeat' first|exact aA _|exact bQ a b _|exact oQ _|exact EX a|assumption|(refine ag ?_ (λ_=>?_))|(refine bV ?_ ?_)|intro _|split|(dsimp only)|exact trivial)
end
section
variable {P P':Uf}{O:Xv->Prop}{α β:Type}
def vX(a:Yx)(k:Wx)(x y:Int):St P P' O (Op.intArith a k x y):=by unfold Op.intArith;split<;>first|exact trivial|exact aA _
def KF(b:Twin P P')(a:Plain O)(c:Yx)(k:Wx)(x y:Int):St P P' O (Op.intDiv c k x y):=by unfold Op.intDiv;((try dsimp only);repeat' first|exact aA _|exact bQ b a _|assumption|(refine bV ?_ ?_)|intro _|split|(dsimp only)|exact trivial)
def zy(a:Yx)(k:Wx)(x y:Int):St P P' O (Op.intBits a k x y):=by unfold Op.intBits;dsimp only;split<;>first|exact trivial|exact aA _
def KE(a:Yx)(x y:Int):St P P' O (Op.intCmp a x y):=by unfold Op.intCmp;split<;>first|exact trivial|exact aA _
def NL(b:Twin P P')(a:Plain O)(c:Yx)(k:Wx)(x:Int)(d:Wx)(y:Int):St P P' O (Op.shift c k x d y):=by unfold Op.shift;((try dsimp only);repeat' first|exact aA _|exact bQ b a _|assumption|(refine bV ?_ ?_)|intro _|split|(dsimp only)|exact trivial)
def rP(a:Yx)(k:FloatKind)(x y:Nat):St P P' O (Op.floatArith a k x y):=by
 unfold Op.floatArith;dsimp only
 split
 all_goals first|exact ag (aA _) λ_=>(by split<;>first|exact trivial|exact ag (cW _) λ_=>trivial)|exact ag trivial λ_=>(by split<;>first|exact trivial|exact ag (cW _) λ_=>trivial)
def vW(a:Yx)(k:FloatKind)(x y:Nat):St P P' O (Op.floatCmp a k x y):=by unfold Op.floatCmp;dsimp only;split<;>first|exact trivial|exact aA _
def wW(s:FloatKind)(b:Nat)(d:FloatKind):St P P' O (Conv.floatToFloat s b d):=by
 unfold Conv.floatToFloat
 (try dsimp only)
 repeat' first|exact trivial|exact aA _|exact cW _|refine ag ?_ (λ_=>?_)|intro _|split|dsimp only
def qW(a:Yx)(k:FloatKind)(x y:Nat):St P P' O (YS a k x y):=by
 unfold YS;refine ag (rP _ _ _ _) λ_=>?_
 split<;>first|exact trivial|exact aA _
def CH(a:Yx)(k:FloatKind)(x y:Nat):St P P' O (YV a k x y):=by
 unfold YV;exact ag (vW _ _ _ _) λ_=>uR _
def lg(s:FloatKind)(b:Nat)(d:FloatKind):St P P' O (YT s b d):=by
 unfold YT
 split
 ·exact trivial
 ·refine ag (wW _ _ _) λ_=>?_
  split<;>first|exact trivial|exact aA _
def NG(a b c d:Nat):St P P' O (YP a b c d):=by
 unfold YP YX YW YU
 repeat' first|exact trivial|exact qW _ _ _ _|refine ag ?_ (λ_=>?_)
def NH(a b c d:Nat):St P P' O (YN a b c d):=by
 unfold YN YY YX YW YU Y7
 repeat' first|exact qW _ _ _ _|exact CH _ _ _ _|refine ag ?_ (λ_=>?_)|split|dsimp only|exact trivial
def CI(e:Yx)(k:FloatKind)(a b c d:Nat):St P P' O (Op.complexOp e k a b c d):=by
 unfold Op.complexOp
 split
 all_goals first
  |exact ag (qW _ _ _ _) λ_=>ag (qW _ _ _ _) λ_=>trivial
  |exact ag (CH _ _ _ _) λ_=>ag (CH _ _ _ _) λ_=>trivial
  |exact aA _
  |(refine ag (lg _ _ _) λ_=>ag (lg _ _ _) λ_=>ag (lg _ _ _) λ_=>ag (lg _ _ _) λ_=>?_;dsimp only
    split
    ·exact ag (NG _ _ _ _) λ_=>ag (lg _ _ _) λ_=>ag (lg _ _ _) λ_=>trivial
    ·exact ag (NH _ _ _ _) λ_=>ag (lg _ _ _) λ_=>ag (lg _ _ _) λ_=>trivial)
def we(a:Yx)(x y:ByteArray):St P P' O (Op.stringOp a x y):=by
 unfold Op.stringOp
 repeat' first|exact trivial|exact aA _|exact aZ _ Y|split|dsimp only
def NO(a:UnOp)(x:U):St P P' O (Op.unary a x):=by
 unfold Op.unary
 repeat' first|exact trivial|exact aA _|exact aZ _ Y|exact vX _ _ _ _|exact zy _ _ _ _|split|dsimp only
def tF(c:Twin P P')(d:Plain O)(a b:UJ):St P P' O (Op.twoPlaces a b):=by
 unfold Op.twoPlaces;refine cC (by rw[c.yp]) ?_
 ((try dsimp only);repeat' first|(refine aZ _ ?_;rfl)|exact qV c d _|assumption|(refine ag ?_ (λ_=>?_))|(refine bV ?_ ?_)|intro _|split|(dsimp only)|exact trivial)
def GO(d:Twin P P')(c:Plain O)(k:Wx)(a b:UJ):St P P' O (Op.addrSub k a b):=by unfold Op.addrSub;((try dsimp only);repeat' first|exact tF d c _ _|assumption|(refine ag ?_ (λ_=>?_))|intro _|split|(dsimp only)|exact trivial)
def GM(d:Twin P P')(c:Plain O)(k:Yx)(a b:UJ):St P P' O (Op.addrCmp k a b):=by unfold Op.addrCmp;((try dsimp only);repeat' first|(refine aZ _ ?_;rfl)|exact tF d c _ _|assumption|(refine ag ?_ (λ_=>?_))|intro _|split|(dsimp only)|exact trivial)
def GN(b:Twin P P')(c:Plain O)(k:Wx)(a:UJ)(n:Int):St P P' O (Op.addrMod k a n):=by unfold Op.addrMod;((try dsimp only);repeat' first|exact bN b _|exact gO _|(refine aZ _ ?_;rfl)|exact qV b c _|assumption|(refine ag ?_ (λ_=>?_))|(refine bV ?_ ?_)|intro _|split|(dsimp only)|exact trivial)
def tG(b:Twin P P')(k:Plain O)(o:Array Uh)(t:Uh)(d:Array U):St P P' O (Xn o t d):=by
 have f:∀s:String,St P P' O (stuck s:Wu U):=λs=>aA s;unfold Xn;obtain⟨h⟩:=d;rcases h with _|⟨a,_|⟨p,_|⟨q,h⟩⟩⟩
 case cons.cons.nil=>
  cases a with
  |pointer n=>
   dsimp only;refine ag (k9 _) λl=>?_
   split
   ·((try dsimp only);repeat' first|exact aA _|exact gO _|(refine aZ _ ?_;rfl)|exact k9 _|exact Br b k _|assumption|(refine ag ?_ (λ_=>?_))|(refine bV ?_ ?_)|intro _|split|(dsimp only)|exact trivial)
   ·have g:St P P' O (match n with
     |some a=>do
      let i <-shape a.block
      match i with
       |some (e,j)=>do
        let c <-program
        match cellAtBytes c c.depth e (j/c.cellsOf e) a.off l with
         |some m=>pure (Value.pointer (I {block:=a.block,off:=m,spot:=a.spot}))
         |none=>unsupported (Yz "Add")
       |x=>unsupported (Yz "Add")
     |x=>unsupported (Yz "Add"):Wu U):=by
     split
     ·refine ag (gO _) λs=>?_
      split
      ·refine cC (by simp only[b.cells,b.cellAt,b.depth]) ?_
       ((try dsimp only);repeat' first|exact aA _|exact gO _|(refine aZ _ ?_;rfl)|exact k9 _|assumption|(refine ag ?_ (λ_=>?_))|(refine bV ?_ ?_)|intro _|split|(dsimp only)|exact trivial)
      ·exact aZ _ Y
     ·exact aZ _ Y
    split
    ·exact ag (aZ _ Y) λ_=>g
    ·exact g
  |_=>exact f _
 all_goals exact f _
def EL(c:∀a b,O (.number a b))(a:UJ)(l:Bool):St P P' O (asNumber a l):=ag (l8 (c _ _)) λ_=>trivial
def qu(c:Twin P P')(d:Plain O)(e:∀a b,O (.number a b))(t:Uh)(x y:U):St P P' O (movedNumber t x y):=by unfold movedNumber;((try dsimp only);repeat' first|exact aI c _|(refine aZ _ ?_;rfl)|exact tG c d _ _ _|exact ed c d _|exact EL e _ _|assumption|(refine ag ?_ (λ_=>?_))|(refine bV ?_ ?_)|intro _|split|(dsimp only)|exact trivial)
def wX(b:Twin P P')(a:Plain O)(t:Uh)(x y:U):St P P' O (movedPointer t x y):=by unfold movedPointer;((try dsimp only);repeat' first|(refine aZ _ ?_;rfl)|exact tG b a _ _ _|exact vZ b a _|assumption|(refine ag ?_ (λ_=>?_))|(refine bV ?_ ?_)|intro _|split|(dsimp only)|exact trivial)
theorem zw(a:Twin P P')(b:Plain O):∀(d:Nat) (t:Uh) (x y:U),St P P' O (Op.equalIn d t x y)
 |0,t,x,y=>aZ _ Y
 |d+1,t,x,y=>by
  have c:=zw a b d;unfold Op.equalIn;refine ag (aI a t) λh=>?_
  split
  all_goals first
   |exact trivial
   |exact aA _
   |exact aZ _ Y
   |exact zE a b _ _
   |exact bV trivial (aA _)
   |(refine ag (ed a b _) λe=>?_;refine ag (ed a b _) λf=>?_;dsimp only;refine cC (by rw[a.yp]) ?_
     ((try dsimp only);repeat' first|exact bN a _|exact aI a _|exact bU a _|exact aA _|exact bQ a b _|exact cW _|(refine aZ _ ?_;rfl)|exact gW a _ _ _|exact qV a b _|assumption|(refine ag ?_ (λ_=>?_))|(refine bV ?_ ?_)|intro _|split|(dsimp only)|exact trivial))
   |(refine ag (bU a _) λg=>?_
     ((try dsimp only);repeat' first|exact bN a _|exact aI a _|exact bU a _|exact aA _|exact bQ a b _|exact cW _|(refine aZ _ ?_;rfl)|exact gW a _ _ _|exact v8 a b _ _|assumption|(refine ag ?_ (λ_=>?_))|(refine bV ?_ ?_)|intro _|split|(dsimp only)|exact trivial))
   |skip
  ·refine bV trivial ?_;refine ag (bN a _) λinfo=>?_;dsimp only
   split
   ·refine cC (by simp only[a.M2]) ?_;refine cC (by simp only[a.depth]) ?_
    ((try dsimp only);repeat' first|exact bN a _|exact aI a _|exact bU a _|exact aA _|exact bQ a b _|exact cW _|(refine aZ _ ?_;rfl)|exact gW a _ _ _|exact sx a _|assumption|(refine ag ?_ (λ_=>?_))|(refine bV ?_ ?_)|intro _|split|(dsimp only)|exact trivial)
   ·exact c _ _ _
  ·refine cC (by rw[a.IG]) ?_
   ((try dsimp only);repeat' first|exact bN a _|exact aI a _|exact bU a _|exact aA _|exact bQ a b _|exact cW _|(refine aZ _ ?_;rfl)|exact gW a _ _ _|exact c _ _ _|assumption|(refine oP _ _ (λ_ _=>?_))|(refine qX _ _ (λ_ _=>?_))|(refine ag ?_ (λ_=>?_))|(refine bV ?_ ?_)|intro _|split|(dsimp only)|exact trivial)
  ·((try dsimp only);repeat' first|exact bN a _|exact aI a _|exact bU a _|exact aA _|exact bQ a b _|exact cW _|(refine aZ _ ?_;rfl)|exact gW a _ _ _|exact c _ _ _|assumption|(refine oP _ _ (λ_ _=>?_))|(refine qX _ _ (λ_ _=>?_))|(refine ag ?_ (λ_=>?_))|(refine bV ?_ ?_)|intro _|split|(dsimp only)|exact trivial)
def EO(b:Twin P P')(a:Plain O)(t:Uh)(x y:U):St P P' O (Op.equal t x y):=zw b a _ t x y
theorem oO(a:Twin P P')(c:Plain O):∀(d:Nat) (t:Uh) (x y:U),St P P' O (Op.eqGuardIn d t x y)
 |0,t,x,y=>aZ _ Y
 |d+1,t,x,y=>by
  have b:=oO a c d;unfold Op.eqGuardIn;refine ag (aI a t) λe=>?_
  split
  ·exact trivial
  ·((try dsimp only);repeat' first|exact aI a _|exact bU a _|(refine aZ _ ?_;rfl)|exact gW a _ _ _|exact b _ _ _|assumption|(refine oP _ _ (λ_ _=>?_))|(refine qX _ _ (λ_ _=>?_))|(refine ag ?_ (λ_=>?_))|(refine bV ?_ ?_)|intro _|split|(dsimp only)|exact trivial)
  ·((try dsimp only);repeat' first|exact aI a _|exact bU a _|(refine aZ _ ?_;rfl)|exact gW a _ _ _|exact b _ _ _|assumption|(refine oP _ _ (λ_ _=>?_))|(refine qX _ _ (λ_ _=>?_))|(refine ag ?_ (λ_=>?_))|(refine bV ?_ ?_)|intro _|split|(dsimp only)|exact trivial)
  ·exact trivial
def GV(c:Twin P P')(d:Plain O)(e:Yx)(t:Uh)(x y:U6)(a b:U):St P P' O (eqGuard e t x y a b):=by
 unfold eqGuard;refine bV trivial ?_
 split
 ·((try dsimp only);repeat' first|(refine aZ _ ?_;rfl)|exact oO c d _ _ _ _|assumption|(refine ag ?_ (λ_=>?_))|(refine bV ?_ ?_)|intro _|split|(dsimp only)|exact trivial)
 ·refine cC (by simp only[c.SQ]) ?_;refine cC (by simp only[c.depth]) ?_
  ((try dsimp only);repeat' first|(refine aZ _ ?_;rfl)|exact oO c d _ _ _ _|assumption|(refine ag ?_ (λ_=>?_))|(refine bV ?_ ?_)|intro _|split|(dsimp only)|exact trivial)
 ·exact trivial
def NE(c:Twin P P')(d:Plain O)(e:∀a b,O (.number a b))(f:Yx)(t:Uh)(x y:U):St P P' O (binOp f t x y):=by
 unfold binOp
 split
 all_goals first
  |exact NL c d _ _ _ _ _
  |exact we _ _ _
  |exact aZ _ Y
  |exact aA _
  |exact qu c d e _ _ _
  |exact ag (EO c d _ _ _) λ_=>trivial
  |(refine bV (aA _) ?_
    split<;>first|exact vX _ _ _ _|exact KF c d _ _ _ _|exact zy _ _ _ _|exact KE _ _ _|exact rP _ _ _ _|exact vW _ _ _ _)
  |exact bV (aA _) (CI _ _ _ _ _ _)
  |(refine ag (aI c _) λg=>?_
    split<;>first|exact wX c d _ _ _|exact qu c d e _ _ _)
  |exact ag (ed c d _) λ_=>ag (ed c d _) λ_=>GO c d _ _ _
  |exact ag (ed c d _) λ_=>ag (ed c d _) λ_=>GM c d _ _ _
  |exact ag (ed c d _) λ_=>GN c d _ _ _
end
section
variable {P P':Uf}{O:Xv->Prop}{α β:Type}
theorem qs(a:Twin P P')(b:Plain O)(e:Bool):∀(n:Nat) (t:Uh) (v:U),St P P' O (XT e n t v)
 |0,t,v=>aZ _ Y
 |n+1,t,v=>by
  have c:=qs a b e n;unfold XT;refine ag (aI a t) λd=>?_
  split
  ·((try dsimp only);repeat' first|exact bN a _|exact aI a _|exact bU a _|exact aA _|exact bQ a b _|(refine aZ _ ?_;rfl)|exact gW a _ _ _|exact c _ _|exact sx a _|assumption|(refine ag ?_ (λ_=>?_))|(refine bV ?_ ?_)|intro _|split|(dsimp only)|exact trivial)
  ·((try dsimp only);repeat' first|exact bN a _|exact aI a _|exact bU a _|exact aA _|exact bQ a b _|(refine aZ _ ?_;rfl)|exact gW a _ _ _|exact c _ _|assumption|(refine oP _ _ (λ_ _=>?_))|(refine qX _ _ (λ_ _=>?_))|(refine ag ?_ (λ_=>?_))|(refine bV ?_ ?_)|intro _|split|(dsimp only)|exact trivial)
  ·((try dsimp only);repeat' first|exact bN a _|exact aI a _|exact bU a _|exact aA _|exact bQ a b _|(refine aZ _ ?_;rfl)|exact gW a _ _ _|exact c _ _|assumption|(refine oP _ _ (λ_ _=>?_))|(refine qX _ _ (λ_ _=>?_))|(refine ag ?_ (λ_=>?_))|(refine bV ?_ ?_)|intro _|split|(dsimp only)|exact trivial)
  all_goals first|exact trivial|exact aA _
theorem rO(b:Twin P P')(a:Plain O)(t:Uh)(k:U):∀(es:List VP) (i:Nat),St P P' O (Instr.findAsking t k es i)
 | [],i=>trivial
 |e::es,i=>by
  unfold Instr.findAsking;refine ag (EO b a _ _ _) λc=>?_
  split
  ·exact trivial
  ·exact rO b a t k es (i+1)
def zx(a:Twin P P')(b:Plain O)(t:Uh)(k:U)(es:List VP):St P P' O (Ym t k es):=by unfold Ym;((try dsimp only);repeat' first|exact aI a _|exact rO a b _ _ _ _|assumption|(refine ag ?_ (λ_=>?_))|intro _|split|(dsimp only)|exact trivial)
def KH(a:Twin P P')(b:Plain O)(t:Uh)(x i:U)(c:Bool):St P P' O (Instr.lookup t x i c):=by unfold Instr.lookup;((try dsimp only);repeat' first|exact aI a _|exact fJ a _|exact aA _|(refine jE _ (λ_ _=>?_) ?_)|exact pU Y|exact zx a b _ _ _|exact qs a b _ _ _ _|assumption|(refine ag ?_ (λ_=>?_))|intro _|split|(dsimp only)|exact trivial)
def CN(a:Twin P P')(b:Plain O)(d:∀e c,O (.map e c))(t:Uh)(m k v:U):St P P' O (Instr.mapUpdate t m k v):=by unfold Instr.mapUpdate Instr.keyThatStays;((try dsimp only);repeat' first|exact aI a _|exact aA _|exact bQ a b _|exact cW _|(refine jE _ (λ_ _=>?_) ?_)|exact pU Y|exact zx a b _ _ _|exact qs a b _ _ _ _|exact l9 _ (d _ _)|assumption|(refine ag ?_ (λ_=>?_))|(refine bV ?_ ?_)|intro _|split|(dsimp only)|exact trivial)
def uS(e:Twin P P')(d:Plain O)(x:U):St P P' O (Conv.bytesToString x):=by
 unfold Conv.bytesToString
 split
 ·exact trivial
 ·refine ag (oR _ _) λc=>?_;dsimp only;refine ag (oP _ _ λb a=>?_) λ_=>trivial
  split
  ·exact trivial
  ·exact aA _
 ·exact aA _
def xy(b:Twin P P')(t:Uh):Still P P' O (λd=>P.underlying t=I d) (Xq t):=by
 unfold Xq;refine cC (by rw[b.tJ]) ?_
 split
 ·rename_i d a;exact a
 ·exact aA _
def FN (P:Uf)(s d:Uh):Bool:=match P.underlying s,P.underlying d with
 |some (.int _),I (.int _)=>Z
 |some (.slice a),I .string=>match P.underlying a with|some (.int .u8)=>Z|_=>T7
 |some (.slice _),I (.slice _)=>Z
 |_,_=>T7
def EU(x:U):St P P' O (Yl x):=by unfold Yl;split<;>first|exact trivial|exact aA _
def kQ(s n:Nat)(x:U):St P P' O (Xl s n x):=by unfold Xl;split<;>first|exact trivial|exact oR _ _|exact aA _
def Av(a:UJ)(c:Nat):St P P' O (Xm a c):=by unfold Xm;refine ag (gO _) λs=>?_;split<;>exact trivial
def EW(f:Twin P P')(e:Plain O)(a b c:Nat)(d:Option UJ)(x:U):St P P' O (Yb a b c d x):=by unfold Yb;((try dsimp only);repeat' first|exact uV _|exact Av _ _|assumption|(refine ag ?_ (λ_=>?_))|(refine bV ?_ ?_)|intro _|split|(dsimp only)|exact trivial)
def PY(a:Twin P P')(d:Plain O)(c:Array Uh)(t:Uh)(b:Array U):St P P' O (Builtin.copy_ c t b):=by unfold Builtin.copy_;((try dsimp only);repeat' first|exact aI a _|exact bU a _|exact aA _|exact jq _ _ _|exact EU _|exact kQ _ _ _|assumption|(refine ag ?_ (λ_=>?_))|intro _|split|(dsimp only)|exact trivial)
def RI(b:Twin P P')(d:Plain O)(c:Array Uh)(t:Uh)(a:Array U):St P P' O (Builtin.len_ c t a):=by unfold Builtin.len_;((try dsimp only);repeat' first|exact aI b _|exact aA _|(refine jE _ (λ_ _=>?_) ?_)|exact pU Y|assumption|(refine ag ?_ (λ_=>?_))|intro _|split|(dsimp only)|exact trivial)
def P3(x y:U):St P P' O (Builtin.min2 x y):=by
 unfold Builtin.min2
 repeat' first|exact aA _|exact aZ _ Y|exact cW _|exact we _ _ _|exact uR _|refine ag ?_ (λ_=>?_)|split|dsimp only|exact trivial
def RJ(c:Array Uh)(t:Uh)(a:Array U):St P P' O (Builtin.min_ c t a):=by
 unfold Builtin.min_
 split
 ·exact aA _
 ·exact EQ _ _ _ λb d=>P3 b d
def wZ(a:Twin P P')(b:Plain O)(g:Array Uh)(t:Uh)(c:Array U):St P P' O (Builtin.unsafeString_ g t c):=by
 have d:∀s:String,St P P' O (stuck s:Wu U):=λs=>aA s;unfold Builtin.unsafeString_;obtain⟨e⟩:=c;rcases e with _|⟨f,_|⟨h,_|⟨i,e⟩⟩⟩
 case cons.cons.nil=>
  cases f with
  |pointer j=>
   dsimp only
   ((try dsimp only);repeat' first|exact aA _|exact bQ a b _|exact Bm _ _|(refine aZ _ ?_;rfl)|exact k9 _|exact uT a _|exact zG a b _ _ _|exact CL a b _ _ _|assumption|(refine ag ?_ (λ_=>?_))|(refine bV ?_ ?_)|intro _|split|(dsimp only)|exact trivial)
  |_=>exact d _
 all_goals exact d _
end
end Cc
namespace Rl
section
structure mj where
 g:Nat
 b:Nat->Bool
structure aU(G:mj) where
 f:Nat->Option Nat
 inj:∀a b c,f a=I c->f b=I c->a=b
 OV:∀a b,f a=I b->(a<G.g↔b<G.g)
variable {G:mj}
def aU.le(ρ σ:aU G):Prop:=∀a b,ρ.f a=I b->σ.f a=I b
def aU.le.refl(ρ:aU G):ρ.le ρ:=λ_ _ a=>a
def aU.le.trans{ρ σ a:aU G}(h:ρ.le σ)(b:σ.le a):ρ.le a:=λd e c=>b _ _ (h _ _ c)
structure QO(ρ:aU G)(r r':Nat):Prop where
 left:ρ.f r=K
 right:∀b,ρ.f b≠I r'
 gl:G.g<=r
 gr:G.g<=r'
def aU.ext(ρ:aU G)(r r':Nat)(h:QO ρ r r'):aU G where
 f:=λb=>if b=r then I r' else ρ.f b
 inj:=λc b e a d=>by
  split at a<;>split at d
  ·omega
  ·cases a;exact absurd d (h.right b)
  ·cases d;exact absurd a (h.right c)
  ·exact ρ.inj c b e a d
 OV:=λc b a=>by
  have:=h.gl;have:=h.gr
  split at a
  ·cases a;omega
  ·exact ρ.OV c b a
def aU.Mc{ρ:aU G}{r r':Nat}(h:QO ρ r r'):ρ.le (ρ.ext r r' h):=λc d a=>by
 unfold aU.ext;dsimp only
 split
 ·rename_i b;subst b;rw[h.left] at a;cases a
 ·exact a
def aU.xk(ρ:aU G)(r r':Nat)(h:QO ρ r r'):(ρ.ext r r' h).f r=I r':=by simp[aU.ext]
def cN (ρ:aU G)(a a':UJ):Prop:=ρ.f a.block=I a'.block/\a.off=a'.off/\a.spot=a'.spot
def cN.mono{ρ σ:aU G}{a a':UJ}(b:ρ.le σ)(h:cN ρ a a'):cN σ a a':=⟨b _ _ h.1,h.2⟩
def cN.add{ρ:aU G}{a a':UJ}(h:cN ρ a a')(n:Nat):cN ρ (a.add n) (a'.add n):=by
 unfold Yr
 split
 ·exact h
 ·exact⟨h.1,by show a.off+n=a'.off+n;rw[h.2.1],rfl⟩
def nF (ρ:aU G)(b:Fn)(c:Fn):Prop:=∀a:Fn->Fn->Prop,(∀(f:V1) (d:G.b f=Z),a (.func f) (.func f))->a b c
def nF.func{ρ:aU G}(f:V1)(h:G.b f=Z):nF ρ (.func f) (.func f):=λb a=>a f h
def nF.ind{ρ:aU G}{c:∀(a:Fn) (b:Fn),nF ρ a b->Prop}(func:∀(f:V1) (h:G.b f=true),c _ _ (nF.func f h)){a:Fn}{b:Fn}(h:nF ρ a b):c a b h:=(h (λa b=>nF ρ a b/\∀h,c a b h) (λf h=>⟨nF.func f h,λ_=>func f h⟩)).2 h
def nF.mono{ρ σ:aU G}{f f':Fn}(a:ρ.le σ)(h:nF ρ f f'):nF σ f f':=by
 cases h using nF.ind with
 |func f h=>exact .func f h
def ax (ρ:aU G)(y:U)(z:U):Prop:=∀a:U->U->Prop,(∀(p:Bool),a (.bool p) (.bool p))->(∀(u:Wx) (g:Int),a (.int u g) (.int u g))->(∀(s:ByteArray),a (.string s) (.string s))->(a (.pointer K) (.pointer K))->(∀{h i:UJ} (e:cN ρ h i),a (.pointer (I h)) (.pointer (I i)))->(∀(g j:Nat),a (.slice K g j) (.slice K g j))->(∀{h i:UJ} (e:cN ρ h i) (g j:Nat),a (.slice (I h) g j) (.slice (I i) g j))->(a (.map K) (.map K))->(∀{k l:Nat} (e:ρ.f k=I l),a (.map (I k)) (.map (I l)))->(a (.chan K) (.chan K))->(∀{k l:Nat} (e:ρ.f k=I l),a (.chan (I k)) (.chan (I l)))->(∀{f q:Fn} {c d m n:Array U} (A:nF ρ f q) (r:c.size=d.size) (t:∀b (e:b<c.size) (o:b<d.size),a c[b] d[b]) (B:m.size=n.size) (C:∀b (e:b<m.size) (o:b<n.size),a m[b] n[b]),a (.func f c m) (.func q d n))->(a .nilFunc .nilFunc)->(∀(w:Uh) {v x:U} (e:a v x),a (.iface w v) (.iface w x))->(a .nilIface .nilIface)->(∀{c d:Array U} (r:c.size=d.size) (t:∀b (e:b<c.size) (o:b<d.size),a c[b] d[b]),a (.agg c) (.agg d))->(∀{c d:Array U} (r:c.size=d.size) (t:∀b (e:b<c.size) (o:b<d.size),a c[b] d[b]),a (.tuple c) (.tuple d))->a y z
def ax.bool{ρ:aU G}(b:Bool):ax ρ (.bool b) (.bool b):=λc a l m n o p q r s d e f g h i j k=>a b
def ax.int{ρ:aU G}(k:Wx)(n:Int):ax ρ (.int k n) (.int k n):=λb c a m o p q r s t d e f g h i j l=>a k n
def ax.string{ρ:aU G}(s:ByteArray):ax ρ (.string s) (.string s):=λb c l a m n o p q r d e f g h i j k=>a s
def ax.de{ρ:aU G}:ax ρ (.pointer K) (.pointer K):=λb c l m a n o p q r d e f g h i j k=>a
def ax.ptr{ρ:aU G}{a a':UJ}(h:cN ρ a a'):ax ρ (.pointer (I a)) (.pointer (I a')):=λc d n o p b q r s t e f g i j k l m=>b h
def ax.jV{ρ:aU G}(n c:Nat):ax ρ (.slice K n c) (.slice K n c):=λb d m o p q a r s t e f g h i j k l=>a n c
def ax.sl{ρ:aU G}{a a':UJ}(h:cN ρ a a')(n c:Nat):ax ρ (.slice (I a) n c) (.slice (I a') n c):=λd e p q r s t b u v f g i j k l m o=>b h n c
def ax.kE{ρ:aU G}:ax ρ (.map K) (.map K):=λb c l m n o p q a r d e f g h i j k=>a
def ax.map{ρ:aU G}{r r':Nat}(h:ρ.f r=I r'):ax ρ (.map (I r)) (.map (I r')):=λb c m n o p q s t a d e f g i j k l=>a h
def ax.iM{ρ:aU G}:ax ρ (.chan K) (.chan K):=λb c k l m n o p q r a d e f g h i j=>a
def ax.chan{ρ:aU G}{r r':Nat}(h:ρ.f r=I r'):ax ρ (.chan (I r)) (.chan (I r')):=λb c l m n o p q s t d a e f g i j k=>a h
def ax.func{ρ:aU G}{f f':Fn}{x a y b:Array U}(D:nF ρ f f')(E:x.size=a.size)(F:∀i (h:i<x.size) (C:i<a.size),ax ρ x[i] a[i])(H:y.size=b.size)(I:∀i (h:i<y.size) (C:i<b.size),ax ρ y[i] b[i]):ax ρ (.func f x y) (.func f' a b):=λj k s t u v w z A B l m c n o p q r=>c D E (λd e g=>F d e g j k s t u v w z A B l m c n o p q r) H (λd e g=>I d e g j k s t u v w z A B l m c n o p q r)
def ax.nilFunc{ρ:aU G}:ax ρ .nilFunc .nilFunc:=λb c k l m n o p q r d e f a g h i j=>a
def ax.iface{ρ:aU G}(t:Uh){v b:U}(h:ax ρ v b):ax ρ (.iface t v) (.iface t b):=λc d m n o p q r s u e f g i a j k l=>a t (h c d m n o p q r s u e f g i a j k l)
def ax.nilIface{ρ:aU G}:ax ρ .nilIface .nilIface:=λb c k l m n o p q r d e f g h a i j=>a
def ax.agg{ρ:aU G}{x a:Array U}(v:x.size=a.size)(w:∀i (h:i<x.size) (B:i<a.size),ax ρ x[i] a[i]):ax ρ (.agg x) (.agg a):=λc d n o p q r s t u e f g j k l b m=>b v (λy z A=>w y z A c d n o p q r s t u e f g j k l b m)
def ax.tuple{ρ:aU G}{x a:Array U}(v:x.size=a.size)(w:∀i (h:i<x.size) (B:i<a.size),ax ρ x[i] a[i]):ax ρ (.tuple x) (.tuple a):=λc d n o p q r s t u e f g j k l m b=>b v (λy z A=>w y z A c d n o p q r s t u e f g j k l m b)
def ax.ind{ρ:aU G}{j:∀(p:U) (q:U),ax ρ p q->Prop}(bool:∀(b:Bool),j _ _ (ax.bool b))(int:∀(k:Wx) (n:Int),j _ _ (ax.int k n))(string:∀(s:ByteArray),j _ _ (ax.string s))(de:j _ _ (ax.de))(ptr:∀{a a':UJ} (h:cN ρ a a'),j _ _ (ax.ptr h))(jV:∀(n c:Nat),j _ _ (ax.jV n c))(sl:∀{a a':UJ} (h:cN ρ a a') (n c:Nat),j _ _ (ax.sl h n c))(kE:j _ _ (ax.kE))(map:∀{r r':Nat} (h:ρ.f r=some r'),j _ _ (ax.map h))(iM:j _ _ (ax.iM))(chan:∀{r r':Nat} (h:ρ.f r=some r'),j _ _ (ax.chan h))(func:∀{f f':Fn} {x o y B:Array U} (w:nF ρ f f') (m:x.size=o.size) (l:∀i (h:i<x.size) (A:i<o.size),ax ρ x[i] o[i]) (z:y.size=B.size) (u:∀i (h:i<y.size) (A:i<B.size),ax ρ y[i] B[i]),(∀d e g,j _ _ (l d e g))->(∀d e g,j _ _ (u d e g))->j _ _ (ax.func w m l z u))(nilFunc:j _ _ (ax.nilFunc))(iface:∀(t:Uh) {v C:U} (h:ax ρ v C),(j _ _ h)->j _ _ (ax.iface t h))(nilIface:j _ _ (ax.nilIface))(agg:∀{x o:Array U} (m:x.size=o.size) (l:∀i (h:i<x.size) (A:i<o.size),ax ρ x[i] o[i]),(∀d e g,j _ _ (l d e g))->j _ _ (ax.agg m l))(tuple:∀{x o:Array U} (m:x.size=o.size) (l:∀i (h:i<x.size) (A:i<o.size),ax ρ x[i] o[i]),(∀d e g,j _ _ (l d e g))->j _ _ (ax.tuple m l)){p:U}{q:U}(h:ax ρ p q):j p q h:=(h (λp q=>ax ρ p q/\∀h,j p q h) (λb=>⟨ax.bool b,λ_=>bool b⟩) (λk n=>⟨ax.int k n,λ_=>int k n⟩) (λs=>⟨ax.string s,λ_=>string s⟩) (⟨ax.de,λ_=>de⟩) (λh=>⟨ax.ptr h,λ_=>ptr h⟩) (λn c=>⟨ax.jV n c,λ_=>jV n c⟩) (λh n c=>⟨ax.sl h n c,λ_=>sl h n c⟩) (⟨ax.kE,λ_=>kE⟩) (λh=>⟨ax.map h,λ_=>map h⟩) (⟨ax.iM,λ_=>iM⟩) (λh=>⟨ax.chan h,λ_=>chan h⟩) (λw m l z u=>⟨ax.func w m (λd e g=>(l d e g).1) z (λd e g=>(u d e g).1),λ_=>func w m (λd e g=>(l d e g).1) z (λd e g=>(u d e g).1) (λd e g=>(l d e g).2 _) (λd e g=>(u d e g).2 _)⟩) (⟨ax.nilFunc,λ_=>nilFunc⟩) (λt {v} {C} h=>⟨ax.iface t h.1,λ_=>iface t h.1 (h.2 _)⟩) (⟨ax.nilIface,λ_=>nilIface⟩) (λm l=>⟨ax.agg m (λd e g=>(l d e g).1),λ_=>agg m (λd e g=>(l d e g).1) (λd e g=>(l d e g).2 _)⟩) (λm l=>⟨ax.tuple m (λd e g=>(l d e g).1),λ_=>tuple m (λd e g=>(l d e g).1) (λd e g=>(l d e g).2 _)⟩)).2 h
def bg (ρ:aU G)(x b:Array U):Prop:=x.size=b.size/\∀a (c:a<x.size) (d:a<b.size),ax ρ x[a] b[a]
def ax.mono{ρ σ:aU G}(c:ρ.le σ){v f:U}(h:ax ρ v f):ax σ v f:=by
 induction h using ax.ind with
 |ptr h=>exact .ptr (h.mono c)
 |sl h m g=>exact .sl (h.mono c) m g
 |map h=>exact .map (c _ _ h)
 |chan h=>exact .chan (c _ _ h)
 |func i d _ j _ k l=>exact .func (i.mono c) d (λb h a=>k b h a) j (λb h a=>l b h a)
 |iface n _ e=>exact .iface n e
 |agg d _ e=>exact .agg d (λb h a=>e b h a)
 |tuple d _ e=>exact .tuple d (λb h a=>e b h a)
 |_=>first|exact .bool _|exact .int _ _|exact .string _|exact .de|exact .jV _ _|exact .kE|exact .iM|exact .nilFunc|exact .nilIface
def bg.mono{ρ σ:aU G}(d:ρ.le σ){x a:Array U}(h:bg ρ x a):bg σ x a:=⟨h.1,λe b c=>(h.2 e b c).mono d⟩
def bg.nil(ρ:aU G):bg ρ #[] #[]:=⟨rfl,λb a=>by simp at a⟩
def bg.push{ρ:aU G}{x b:Array U}{v a:U}(h:bg ρ x b)(c:ax ρ v a):bg ρ (x.push v) (b.push a):=by
 refine⟨by simp[h.1],λd e f=>?_⟩;simp only[Array.getElem_push];have:=h.1
 split
 ·rw[dif_pos (by omega)];exact h.2 d _ _
 ·rw[dif_neg (by omega)];exact c
def bg.append{ρ:aU G}{x b y e:Array U}(h:bg ρ x b)(d:bg ρ y e):bg ρ (x++y) (b++e):=by
 have c:=h.1;have f:=d.1;refine⟨by simp[c,f],λa g i=>?_⟩;simp only[Array.getElem_append]
 split
 ·rw[dif_pos (by omega)];exact h.2 a _ _
 ·rw[dif_neg (by omega)];have:a-x.size=a-b.size:=by rw[c]
  simp only[this];exact d.2 (a-b.size) (by simp at g;omega) (by simp at i;omega)
def bg.get{ρ:aU G}{x a:Array U}(h:bg ρ x a)(i:Nat):(x[i]? =K/\a[i]? =K)\/∃v c,x[i]? =I v/\a[i]? =I c/\ax ρ v c:=by
 have d:=h.1;by_cases b:i<x.size
 ·exact .inr ⟨_,_,UU b,UU (by omega),h.2 i b (by omega)⟩
 ·exact .inl ⟨Vl (by omega),Vl (by omega)⟩
def bg.set{ρ:aU G}{x d:Array U}(h:bg ρ x d){v c:U}(g:ax ρ v c)(i:Nat):bg ρ (x.setIfInBounds i v) (d.setIfInBounds i c):=by
 refine⟨by simp[h.1],λb e f=>?_⟩;by_cases a:i=b
 ·subst a;simp only[Array.getElem_setIfInBounds_self];exact g
 ·rw[Array.getElem_setIfInBounds_ne (by simpa using e) a,Array.getElem_setIfInBounds_ne (by simpa using f) a];exact h.2 b _ _
def bg.extract{ρ:aU G}{x a:Array U}(h:bg ρ x a)(i j:Nat):bg ρ (x.extract i j) (a.extract i j):=by
 refine⟨by simp[h.1],λd b c=>?_⟩;simp only[Array.getElem_extract];exact h.2 _ _ _
def ax.cells{ρ:aU G}{v a:U}(h:ax ρ v a):bg ρ v.cells a.cells:=by
 cases h using ax.ind with
 |agg c d=>exact⟨c,d⟩
 |_=>exact⟨rfl,λe b f=>by
  have:e=0:=by simp[Value.cells] at b;omega
  subst this
  first|exact .bool _|exact .int _ _|exact .string _|exact .de|exact .ptr ‹_› |exact .jV _ _|exact .sl ‹_› _ _|exact .kE|exact .map ‹_› |exact .iM|exact .chan ‹_› |exact .func ‹_› ‹_› ‹_› ‹_› ‹_› |exact .nilFunc|exact .iface _ ‹_› |exact .nilIface|exact .tuple ‹_› ‹_›⟩
structure sG(ρ:aU G)(e e':VP):Prop where
 key:ax ρ e.key e'.key
 val:ax ρ e.val e'.val
 born:e.born=e'.born
def sG.mono{ρ σ:aU G}(a:ρ.le σ){e e':VP}(h:sG ρ e e'):sG σ e e':=⟨h.key.mono a,h.val.mono a,h.born⟩
def dK (ρ:aU G)(r:Xv)(t:Xv):Prop:=∀a:Xv->Xv->Prop,(∀{b l:Array U} (g:bg ρ b l) (c:Uh) (m:Nat×Nat),a (.cells b c m) (.cells l c m))->(∀{d e:Array VP} (w:d.size=e.size) (g:∀f (u:f<d.size) (v:f<e.size),sG ρ d[f] e[f]) (n:Nat),a (.map d n) (.map e n))->(∀(p:Nat) {j k:Array U} (g:bg ρ j k) (b:Bool) (s q:Nat) (c:Bool),a (.chan p j b s q c) (.chan p k b s q c))->(∀{h i:UJ} (g:cN ρ h i) (o:Bool),a (.number h o) (.number i o))->a r t
def dK.cells{ρ:aU G}{c b:Array U}(h:bg ρ c b)(t:Uh)(a:Nat×Nat):dK ρ (.cells c t a) (.cells b t a):=λe d f g i=>d h t a
def dK.map{ρ:aU G}{es a:Array VP}(c:es.size=a.size)(h:∀i (h1:i<es.size) (j:i<a.size),sG ρ es[i] a[i])(k:Nat):dK ρ (.map es k) (.map a k):=λd e b f g=>b c h k
def dK.chan{ρ:aU G}(n:Nat){b b':Array U}(h:bg ρ b b')(c:Bool)(s r:Nat)(t:Bool):dK ρ (.chan n b c s r t) (.chan n b' c s r t):=λd e f a g=>a n h c s r t
def dK.number{ρ:aU G}{a a':UJ}(h:cN ρ a a')(l:Bool):dK ρ (.number a l) (.number a' l):=λc d e f b=>b h l
def dK.ind{ρ:aU G}{f:∀(d:Xv) (e:Xv),dK ρ d e->Prop}(cells:∀{c o:Array U} (h:bg ρ c o) (t:Uh) (g:Nat×Nat),f _ _ (dK.cells h t g))(map:∀{es m:Array VP} (j:es.size=m.size) (h:∀i (h1:i<es.size) (p:i<m.size),sG ρ es[i] m[i]) (k:Nat),f _ _ (dK.map j h k))(chan:∀(n:Nat) {b b':Array U} (h:bg ρ b b') (c:Bool) (s r:Nat) (t:Bool),f _ _ (dK.chan n h c s r t))(number:∀{a a':UJ} (h:cN ρ a a') (l:Bool),f _ _ (dK.number h l)){d:Xv}{e:Xv}(h:dK ρ d e):f d e h:=(h (λd e=>dK ρ d e/\∀h,f d e h) (λh t g=>⟨dK.cells h t g,λ_=>cells h t g⟩) (λj h k=>⟨dK.map j h k,λ_=>map j h k⟩) (λn {b} {b'} h c s r t=>⟨dK.chan n h c s r t,λ_=>chan n h c s r t⟩) (λh l=>⟨dK.number h l,λ_=>number h l⟩)).2 h
def dK.mono{ρ σ:aU G}(a:ρ.le σ){o o':Xv}(h:dK ρ o o'):dK σ o o':=by
 cases h using dK.ind with
 |cells h b d=>exact .cells (h.mono a) b d
 |map g h j=>exact .map g (λi e f=>(h i e f).mono a) j
 |chan l h c s m b=>exact .chan l (h.mono a) c s m b
 |number h k=>exact .number (h.mono a) k
structure eK(ρ:aU G)(bu:Nat)(w w':F):Prop where
 gl:G.g<=w.heap.size
 gr:G.g<=w'.heap.size
 at_:∀b b',ρ.f b=I b'->∃o o',w.heap[b]? =I o/\w'.heap[b']? =I o'/\dK ρ o o'
 tape:∀i q,i<bu->w.tape (w.drawn+i) q=w'.tape (w'.drawn+i) q
def pO:Halt->Bool
 | .stuck _=>Z
 | .unsupported (.initOrder _)=>T7
 | .unsupported _=>Z
 |_=>T7
def lF (ρ:aU G)(d:Halt)(e:Halt):Prop:=∀b:Halt->Halt->Prop,(∀{v c:U} (a:ax ρ v c),b (.panic v) (.panic c))->(∀(a:Halt) (f:pO a=Z),b a a)->b d e
def lF.panic{ρ:aU G}{v a:U}(h:ax ρ v a):lF ρ (.panic v) (.panic a):=λc b d=>b h
def lF.same{ρ:aU G}(h:Halt)(b:pO h=Z):lF ρ h h:=λc d a=>a h b
def lF.ind{ρ:aU G}{c:∀(a:Halt) (b:Halt),lF ρ a b->Prop}(panic:∀{v e:U} (h:ax ρ v e),c _ _ (lF.panic h))(same:∀(h:Halt) (d:pO h=true),c _ _ (lF.same h d)){a:Halt}{b:Halt}(h:lF ρ a b):c a b h:=(h (λa b=>lF ρ a b/\∀h,c a b h) (λh=>⟨lF.panic h,λ_=>panic h⟩) (λh d=>⟨lF.same h d,λ_=>same h d⟩)).2 h
end
section
variable {G:mj}{bu:Nat}
def an {α β:Type}(P P':Uf)(A:aU G->α->β->Prop)(y:aU G)(z:Wu α)(C:Wu β):Prop:=∀d:aU G->Wu α->Wu β->Prop,(∀{a:aU G} {e:α} {l:β} (f:A a e l),d a (.pure e) (.pure l))->(∀{a:aU G} {m:Mode} {e i:UJ} {b:U->Wu α} {c:U->Wu β} (p:cN a e i) (f:∀v o,ax a v o->d a (b v) (c o)),d a (.load m e b) (.load m i c))->(∀{a:aU G} {m:Mode} {e i:UJ} {v o:U} {b:Wu α} {c:Wu β} (p:cN a e i) (D:ax a v o) (f:d a b c),d a (.store m e v b) (.store m i o c))->(∀{a:aU G} {j k:Xv} {b:Nat->Wu α} {c:Nat->Wu β} (x:dK a j k) (f:∀g h (w:QO a g h),d (a.ext g h w) (b g) (c h)),d a (.new j b) (.new k c))->(∀{a:aU G} {g h:Nat} {b:Option (Uh×Nat)->Wu α} {c:Option (Uh×Nat)->Wu β} (q:a.f g=I h) (f:∀s,d a (b s) (c s)),d a (.shape g b) (.shape h c))->(∀{a:aU G} {e i:UJ} {n:Nat} {b:Wu α} {c:Wu β} (p:cN a e i) (f:d a b c),d a (.freeze e n b) (.freeze i n c))->(∀{a:aU G} {e i:UJ} {b:Bool->Wu α} {c:Bool->Wu β} (p:cN a e i) (f:∀l,d a (b l) (c l)),d a (.frozen e b) (.frozen i c))->(∀{a:aU G} {g h:Nat} {b:Xv->Wu α} {c:Xv->Wu β} (q:a.f g=I h) (f:∀j k,dK a j k->d a (b j) (c k)),d a (.getObj g b) (.getObj h c))->(∀{a:aU G} {g h:Nat} {j k:Xv} {b:Wu α} {c:Wu β} (q:a.f g=I h) (x:dK a j k) (f:d a b c),d a (.setObj g j b) (.setObj h k c))->(∀{a:aU G} {r:Question} {b:Nat->Wu α} {c:Nat->Wu β} (f:∀n,d a (b n) (c n)),d a (.choose r b) (.choose r c))->(∀{a:aU G} {b:Uf->Wu α} {c:Uf->Wu β} (f:d a (b P) (c P')),d a (.program b) (.program c))->(∀{a:aU G} {b:Wu α} {c:Wu β} (f:d a b c),d a (.mark .noRoom b) (.mark .noRoom c))->(∀{a:aU G} {t u:Halt} (f:lF a t u),d a (.halt t) (.halt u))->d y z C
def an.pure{α β:Type}{P P':Uf}{A:aU G->α->β->Prop}{ρ:aU G}{a:α}{b:β}(h:A ρ a b):an P P' A ρ (.pure a) (.pure b):=λd c j k l m n o p q e f g i=>c h
def an.load{α β:Type}{P P':Uf}{A:aU G->α->β->Prop}{ρ:aU G}{m:Mode}{a a':UJ}{k:U->Wu α}{k':U->Wu β}(t:cN ρ a a')(h:∀v c,ax ρ v c->an P P' A ρ (k v) (k' c)):an P P' A ρ (.load m a k) (.load m a' k'):=λd e b l n o p q r s f g i j=>b t (λu w x=>h u w x d e b l n o p q r s f g i j)
def an.store{α β:Type}{P P':Uf}{A:aU G->α->β->Prop}{ρ:aU G}{m:Mode}{a a':UJ}{v c:U}{k:Wu α}{k':Wu β}(t:cN ρ a a')(u:ax ρ v c)(h:an P P' A ρ k k'):an P P' A ρ (.store m a v k) (.store m a' c k'):=λd e l b n o p q r s f g i j=>b t u (h d e l b n o p q r s f g i j)
def an.new{α β:Type}{P P':Uf}{A:aU G->α->β->Prop}{ρ:aU G}{o o':Xv}{k:Nat->Wu α}{k':Nat->Wu β}(t:dK ρ o o')(h:∀r r' (s:QO ρ r r'),an P P' A (ρ.ext r r' s) (k r) (k' r')):an P P' A ρ (.new o k) (.new o' k'):=λb c i j a l m n p q d e f g=>a t (λu v w=>h u v w b c i j a l m n p q d e f g)
def an.shape{α β:Type}{P P':Uf}{A:aU G->α->β->Prop}{ρ:aU G}{r r':Nat}{k:Option (Uh×Nat)->Wu α}{k':Option (Uh×Nat)->Wu β}(q:ρ.f r=I r')(h:∀s,an P P' A ρ (k s) (k' s)):an P P' A ρ (.shape r k) (.shape r' k'):=λb c i j l a m n o p d e f g=>a q (λt=>h t b c i j l a m n o p d e f g)
def an.freeze{α β:Type}{P P':Uf}{A:aU G->α->β->Prop}{ρ:aU G}{a a':UJ}{n:Nat}{k:Wu α}{k':Wu β}(s:cN ρ a a')(h:an P P' A ρ k k'):an P P' A ρ (.freeze a n k) (.freeze a' n k'):=λc d j l m o b p q r e f g i=>b s (h c d j l m o b p q r e f g i)
def an.frozen{α β:Type}{P P':Uf}{A:aU G->α->β->Prop}{ρ:aU G}{a a':UJ}{k:Bool->Wu α}{k':Bool->Wu β}(s:cN ρ a a')(h:∀b,an P P' A ρ (k b) (k' b)):an P P' A ρ (.frozen a k) (.frozen a' k'):=λd e l m n o p c q r f g i j=>c s (λt=>h t d e l m n o p c q r f g i j)
def an.getObj{α β:Type}{P P':Uf}{A:aU G->α->β->Prop}{ρ:aU G}{r r':Nat}{k:Xv->Wu α}{k':Xv->Wu β}(s:ρ.f r=I r')(h:∀o o',dK ρ o o'->an P P' A ρ (k o) (k' o')):an P P' A ρ (.getObj r k) (.getObj r' k'):=λb c i j l m n p a q d e f g=>a s (λt u v=>h t u v b c i j l m n p a q d e f g)
def an.setObj{α β:Type}{P P':Uf}{A:aU G->α->β->Prop}{ρ:aU G}{r r':Nat}{o o':Xv}{k:Wu α}{k':Wu β}(t:ρ.f r=I r')(s:dK ρ o o')(h:an P P' A ρ k k'):an P P' A ρ (.setObj r o k) (.setObj r' o' k'):=λb c i j l m n p q a d e f g=>a t s (h b c i j l m n p q a d e f g)
def an.choose{α β:Type}{P P':Uf}{A:aU G->α->β->Prop}{ρ:aU G}{q:Question}{k:Nat->Wu α}{k':Nat->Wu β}(h:∀n,an P P' A ρ (k n) (k' n)):an P P' A ρ (.choose q k) (.choose q k'):=λb c g i j l m o p r a d e f=>a (λs=>h s b c g i j l m o p r a d e f)
def an.program{α β:Type}{P P':Uf}{A:aU G->α->β->Prop}{ρ:aU G}{k:Uf->Wu α}{k':Uf->Wu β}(h:an P P' A ρ (k P) (k' P')):an P P' A ρ (.program k) (.program k'):=λb c g i j l m n o p d a e f=>a (h b c g i j l m n o p d a e f)
def an.room{α β:Type}{P P':Uf}{A:aU G->α->β->Prop}{ρ:aU G}{k:Wu α}{k':Wu β}(h:an P P' A ρ k k'):an P P' A ρ (.mark .noRoom k) (.mark .noRoom k'):=λb c g i j l m n o p d e a f=>a (h b c g i j l m n o p d e a f)
def an.halt{α β:Type}{P P':Uf}{A:aU G->α->β->Prop}{ρ:aU G}{x a:Halt}(h:lF ρ x a):an P P' A ρ (.halt x) (.halt a):=λc d i j k l m n o p e f g b=>b h
def an.ind{α β:Type}{P P':Uf}{A:aU G->α->β->Prop}{d:∀(l:aU G) (p:Wu α) (t:Wu β),an P P' A l p t->Prop}(pure:∀{ρ:aU G} {a:α} {b:β} (h:A ρ a b),d ρ (.pure a) (.pure b) (an.pure h))(load:∀{ρ:aU G} {m:Mode} {a a':UJ} {k:U->Wu α} {k':U->Wu β} (g:cN ρ a a') (h:∀v u,ax ρ v u->an P P' A ρ (k v) (k' u)),(∀c e f,d _ _ _ (h c e f))->d ρ (.load m a k) (.load m a' k') (an.load g h))(store:∀{ρ:aU G} {m:Mode} {a a':UJ} {v u:U} {k:Wu α} {k':Wu β} (g:cN ρ a a') (w:ax ρ v u) (h:an P P' A ρ k k'),(d _ _ _ h)->d ρ (.store m a v k) (.store m a' u k') (an.store g w h))(new:∀{ρ:aU G} {o o':Xv} {k:Nat->Wu α} {k':Nat->Wu β} (j:dK ρ o o') (h:∀r r' (z:QO ρ r r'),an P P' A (ρ.ext r r' z) (k r) (k' r')),(∀c e f,d _ _ _ (h c e f))->d ρ (.new o k) (.new o' k') (an.new j h))(shape:∀{ρ:aU G} {r r':Nat} {k:Option (Uh×Nat)->Wu α} {k':Option (Uh×Nat)->Wu β} (i:ρ.f r=some r') (h:∀s,an P P' A ρ (k s) (k' s)),(∀c,d _ _ _ (h c))->d ρ (.shape r k) (.shape r' k') (an.shape i h))(freeze:∀{ρ:aU G} {a a':UJ} {n:Nat} {k:Wu α} {k':Wu β} (g:cN ρ a a') (h:an P P' A ρ k k'),(d _ _ _ h)->d ρ (.freeze a n k) (.freeze a' n k') (an.freeze g h))(frozen:∀{ρ:aU G} {a a':UJ} {k:Bool->Wu α} {k':Bool->Wu β} (g:cN ρ a a') (h:∀b,an P P' A ρ (k b) (k' b)),(∀c,d _ _ _ (h c))->d ρ (.frozen a k) (.frozen a' k') (an.frozen g h))(getObj:∀{ρ:aU G} {r r':Nat} {k:Xv->Wu α} {k':Xv->Wu β} (i:ρ.f r=some r') (h:∀o o',dK ρ o o'->an P P' A ρ (k o) (k' o')),(∀c e f,d _ _ _ (h c e f))->d ρ (.getObj r k) (.getObj r' k') (an.getObj i h))(setObj:∀{ρ:aU G} {r r':Nat} {o o':Xv} {k:Wu α} {k':Wu β} (i:ρ.f r=some r') (j:dK ρ o o') (h:an P P' A ρ k k'),(d _ _ _ h)->d ρ (.setObj r o k) (.setObj r' o' k') (an.setObj i j h))(choose:∀{ρ:aU G} {q:Question} {k:Nat->Wu α} {k':Nat->Wu β} (h:∀n,an P P' A ρ (k n) (k' n)),(∀c,d _ _ _ (h c))->d ρ (.choose q k) (.choose q k') (an.choose h))(program:∀{ρ:aU G} {k:Uf->Wu α} {k':Uf->Wu β} (h:an P P' A ρ (k P) (k' P')),(d _ _ _ h)->d ρ (.program k) (.program k') (an.program h))(room:∀{ρ:aU G} {k:Wu α} {k':Wu β} (h:an P P' A ρ k k'),(d _ _ _ h)->d ρ (.mark .noRoom k) (.mark .noRoom k') (an.room h))(halt:∀{ρ:aU G} {x y:Halt} (h:lF ρ x y),d ρ (.halt x) (.halt y) (an.halt h)){l:aU G}{p:Wu α}{t:Wu β}(h:an P P' A l p t):d l p t h:=(h (λl p t=>an P P' A l p t/\∀h,d l p t h) (λh=>⟨an.pure h,λ_=>pure h⟩) (λg h=>⟨an.load g (λc e f=>(h c e f).1),λ_=>load g (λc e f=>(h c e f).1) (λc e f=>(h c e f).2 _)⟩) (λg w h=>⟨an.store g w h.1,λ_=>store g w h.1 (h.2 _)⟩) (λj h=>⟨an.new j (λc e f=>(h c e f).1),λ_=>new j (λc e f=>(h c e f).1) (λc e f=>(h c e f).2 _)⟩) (λi h=>⟨an.shape i (λc=>(h c).1),λ_=>shape i (λc=>(h c).1) (λc=>(h c).2 _)⟩) (λg h=>⟨an.freeze g h.1,λ_=>freeze g h.1 (h.2 _)⟩) (λg h=>⟨an.frozen g (λc=>(h c).1),λ_=>frozen g (λc=>(h c).1) (λc=>(h c).2 _)⟩) (λi h=>⟨an.getObj i (λc e f=>(h c e f).1),λ_=>getObj i (λc e f=>(h c e f).1) (λc e f=>(h c e f).2 _)⟩) (λi j h=>⟨an.setObj i j h.1,λ_=>setObj i j h.1 (h.2 _)⟩) (λh=>⟨an.choose (λc=>(h c).1),λ_=>choose (λc=>(h c).1) (λc=>(h c).2 _)⟩) (λh=>⟨an.program h.1,λ_=>program h.1 (h.2 _)⟩) (λh=>⟨an.room h.1,λ_=>room h.1 (h.2 _)⟩) (λh=>⟨an.halt h,λ_=>halt h⟩)).2 h
section
variable {P P':Uf}{α β γ δ:Type}{A:aU G->α->β->Prop}{B:aU G->γ->δ->Prop}
def an.bind{ρ:aU G}{s:Wu α}{s':Wu β}{f:α->Wu γ}{f':β->Wu δ}(h:an P P' A ρ s s')(d:∀ σ a b,ρ.le σ->A σ a b->an P P' B σ (f a) (f' b)):an P P' B ρ (s.bind f) (s'.bind f'):=by
 induction h using an.ind with
 |pure h=>exact d _ _ _ (aU.le.refl _) h
 |load g _ c=>exact .load g (λv r j=>c v r j d)
 |store g j _ c=>exact .store g j (c d)
 |new i _ c=>exact .new i (λp q e=>c p q e (λσ a b l k=>d σ a b ((aU.Mc e).trans l) k))
 |shape e _ c=>exact .shape e (λs=>c s d)
 |freeze g _ c=>exact .freeze g (c d)
 |frozen g _ c=>exact .frozen g (λb=>c b d)
 |getObj e _ c=>exact .getObj e (λn o i=>c n o i d)
 |setObj e i _ c=>exact .setObj e i (c d)
 |choose _ c=>exact .choose (λm=>c m d)
 |program _ c=>exact .program (c d)
 |room _ c=>exact .room (c d)
 |halt h=>exact .halt h
end
def kr (σ:aU G)(e:Vm):Prop:=match e.loc with
 | .cell b=>∃a,σ.f a=I b.block
 | .obj c=>∃a,σ.f a=I c
 | .mark .noRoom=>True
 |_=>False
def kr.mono{ρ σ:aU G}(c:ρ.le σ){e:Vm}(h:kr ρ e):kr σ e:=by
 unfold kr at*
 split<;>simp_all
 ·obtain⟨a,b⟩:=h;exact⟨a,c _ _ b⟩
 ·obtain⟨a,b⟩:=h;exact⟨a,c _ _ b⟩
structure Fr(ρ σ:aU G)(w w1:F):Prop where
 le:ρ.le σ
 os:w1.os=w.os
 output:w1.output=w.output
 tape:w1.tape=w.tape
 drawn:w.drawn<=w1.drawn
 size:w.heap.size<=w1.heap.size
 keep:∀b',(∀b,σ.f b≠I b')->b'<w.heap.size->w1.heap[b']? =w.heap[b']?
 fresh:∀b b',σ.f b=I b'->ρ.f b=I b'\/w.heap.size<=b'
 all:∀b',w.heap.size<=b'->b'<w1.heap.size->∃b,σ.f b=I b'
def Fr.refl(ρ:aU G)(w:F):Fr ρ ρ w w:=⟨aU.le.refl _,rfl,rfl,rfl,T8 _,T8 _,λ_ _ _=>rfl,λ_ _ a=>.inl a,λ_ c b=>absurd b (by omega)⟩
def Fr.trans{ρ σ k:aU G}{w g j:F}(h:Fr ρ σ w g)(a:Fr σ k g j):Fr ρ k w j:=
 ⟨h.le.trans a.le,a.os.trans h.os,a.output.trans h.output,a.tape.trans h.tape,Uy h.drawn a.drawn,Uy h.size a.size,
  λb d i=>(a.keep b d (Ud i h.size)).trans (h.keep b (λc l=>d c (a.le _ _ l)) i),
  λc b d=>by
   rcases a.fresh c b d with e|e
   ·exact h.fresh c b e
   ·exact .inr (Uy h.size e),
  λb e m=>by
   rcases Vy b g.heap.size with f|f
   ·obtain⟨c,d⟩:=h.all b e f;exact⟨c,a.le _ _ d⟩
   ·exact a.all b f m⟩
def Result.drawn{α:Type}:XW α->Nat
 | .ok _ a=>a.drawn
 | .halt _ a=>a.drawn
def I2{α:Type}(a:Ask α):∀w:F,w.drawn<=(w.ask a).2.drawn:=by
 induction a with
 |done a=>intro w;exact T8 _
 |ask e d c b=>
  intro w;unfold World.ask;dsimp only
  split
  ·exact b _ w
  ·exact Uy (Nat.le_succ _) (b _ {w with drawn:=w.drawn+1})
def KL(w:F)(c:Sys):w.drawn<=(w.sys c).2.drawn:=by
 have a:=I2 (Kernel.perform c w.os) w;unfold World.sys;generalize w.ask (Kernel.perform c w.os)=d at a;obtain⟨⟨b,e⟩,f⟩:=d;cases b<;>first|exact a|exact T8 _
def Hg{P:Uf}{w c:F}{a k:UJ}{u:Uh}{v:U}{b:Bool}{l:List UJ}(h:w.viewStore P a u k v b= .ok (c,l)):c.drawn=w.drawn:=by
 unfold World.viewStore at h;simp only[bind,Except.bind,pure,Except.pure,throw,throwThe,YF] at h
 repeat' split at h
 all_goals first
  |(cases h;rfl)
  |(cases h;done)
  |(simp at h;done)
def Jv{P:Uf}{w c:F}{a:UJ}{v:U}{b:Bool}{l:List UJ}(h:w.farStore P a v b= .ok (c,l)):c.drawn=w.drawn:=by
 unfold XA at h
 split at h
 ·split at h
  ·rename_i d;cases h;exact Hg d
  ·cases h
 ·cases h
def Km{α:Type}(P:Uf)(s:Wu α):∀(w:F) (es:Array Vm),w.drawn<=Result.drawn (s.runT P w es).1:=by
 induction s with
 |pure c=>intro w es;exact T8 _
 |load m c b a=>
  intro w es;simp only[U4]
  split
  ·exact a _ w _
  ·split
   ·exact a _ w _
   ·exact T8 _
 |store m c v b a=>
  intro w es;have k:∀d:F,d.drawn=w.drawn->w.drawn<=Result.drawn (b.runT P d es).1:=λd h=>by rw[<-h];exact a d _
  cases v<;>simp only[U4]<;>first|exact T8 _|skip
  all_goals
   split
   ·split
    ·exact T8 _
    ·exact a (w.setCell c _) _
   ·split
    ·rename_i i;have:=Jv i;rw[<-this];exact a _ _
    ·exact T8 _
 |new e b a=>intro w es;simp only[U4];exact a _ {w with heap:=w.heap.push e} _
 |shape f b a=>intro w es;simp only[U4];exact a _ w _
 |freeze c j b a=>intro w es;simp only[U4];exact Uy (by unfold VQ;split<;>exact T8 _) (a (w.freeze c j) _)
 |frozen c b a=>intro w es;simp only[U4];exact a _ w _
 |getObj f b a=>intro w es;simp only[U4];split<;>first|exact T8 _|exact a _ w _
 |setObj f e b a=>intro w es;simp only[U4];split<;>first|exact T8 _|exact a {w with heap:=w.heap.setIfInBounds f e} _
 |choose l b a=>
  intro w es;simp only[U4]
  split
  ·exact a _ w _
  ·exact Uy (Nat.le_succ _) (a _ {w with drawn:=w.drawn+1} _)
 |sys g b a=>intro w es;simp only[U4];exact Uy (KL w g) (a _ (w.sys g).2 _)
 |program b a=>intro w es;simp only[U4];exact a _ w _
 |mark m b a=>intro w es;simp only[U4];exact a w _
 |halt h=>intro w es;exact T8 _
def jO (es:Array Vm):Prop:=∀a∈es,a.loc≠.output
def jO.push{es:Array Vm}(h:jO es){e:Vm}(b:e.loc≠.output):jO (es.push e):=λc a=>by
 rcases Array.mem_push.1 a with a|rfl
 ·exact h c a
 ·exact b
def fV {α β:Type}(A:aU G->α->β->Prop)(ρ:aU G)(t:Nat)(w':F)(v:XW α×Array Vm)(w:XW β×Array Vm):Prop:=∀e:XW α×Array Vm->XW β×Array Vm->Prop,(∀{b:aU G} {g:Nat} {f:α} {j:β} {a d:F} {c h:Array Vm} (p:A b f j) (s:eK b g a d) (r:Fr ρ b w' d) (q:∀l∈h,kr b l) (n:a.drawn+g=t) (m:jO c),e (.ok f a,c) (.ok j d,h))->(∀{b:aU G} {g:Nat} {i k:Halt} {a d:F} {c h:Array Vm} (u:lF b i k) (s:eK b g a d) (r:Fr ρ b w' d) (q:∀l∈h,kr b l) (n:a.drawn+g=t) (m:jO c),e (.halt i a,c) (.halt k d,h))->(∀{b:aU G} {f:α} {j:β} {a:F} {c:Array Vm} {o:XW β×Array Vm} (p:A b f j) (n:t<a.drawn) (m:jO c),e (.ok f a,c) o)->(∀{b:aU G} {i k:Halt} {a:F} {c:Array Vm} {o:XW β×Array Vm} (u:lF b i k) (n:t<a.drawn) (m:jO c),e (.halt i a,c) o)->e v w
def fV.ok{α β:Type}{A:aU G->α->β->Prop}{ρ:aU G}{t:Nat}{w':F}{σ:aU G}{b1:Nat}{a:α}{b:β}{c w1':F}{es d:Array Vm}(g:A σ a b)(l:eK σ b1 c w1')(i:Fr ρ σ w' w1')(h:∀e∈d,kr σ e)(k:c.drawn+b1=t)(j:jO es):fV A ρ t w' (.ok a c,es) (.ok b w1',d):=λm f n o p=>f g l i h k j
def fV.halt{α β:Type}{A:aU G->α->β->Prop}{ρ:aU G}{t:Nat}{w':F}{σ:aU G}{b1:Nat}{x c:Halt}{a w1':F}{es b:Array Vm}(k:lF σ x c)(j:eK σ b1 a w1')(g:Fr ρ σ w' w1')(f:∀e∈b,kr σ e)(i:a.drawn+b1=t)(h:jO es):fV A ρ t w' (.halt x a,es) (.halt c w1',b):=λl m d n o=>d k j g f i h
def fV.over{α β:Type}{A:aU G->α->β->Prop}{ρ:aU G}{t:Nat}{w':F}{σ:aU G}{a:α}{b:β}{c:F}{es:Array Vm}{r:XW β×Array Vm}(e:A σ a b)(g:t<c.drawn)(f:jO es):fV A ρ t w' (.ok a c,es) r:=λh i j d k=>d e g f
def fV.od{α β:Type}{A:aU G->α->β->Prop}{ρ:aU G}{t:Nat}{w':F}{σ:aU G}{x f:Halt}{a:F}{es:Array Vm}{r:XW β×Array Vm}(e:lF σ x f)(d:t<a.drawn)(c:jO es):fV A ρ t w' (.halt x a,es) r:=λg h i j b=>b e d c
def fV.ind{α β:Type}{A:aU G->α->β->Prop}{ρ:aU G}{t:Nat}{w':F}{o:∀(m:XW α×Array Vm) (n:XW β×Array Vm),fV A ρ t w' m n->Prop}(ok:∀{σ:aU G} {b1:Nat} {a:α} {b:β} {f w1':F} {es p:Array Vm} (g:A σ a b) (k:eK σ b1 f w1') (j:Fr ρ σ w' w1') (i:∀e∈p,kr σ e) (d:f.drawn+b1=t) (c:jO es),o (.ok a f,es) (.ok b w1',p) (fV.ok g k j i d c))(halt:∀{σ:aU G} {b1:Nat} {x q:Halt} {f w1':F} {es p:Array Vm} (l:lF σ x q) (k:eK σ b1 f w1') (j:Fr ρ σ w' w1') (i:∀e∈p,kr σ e) (d:f.drawn+b1=t) (c:jO es),o (.halt x f,es) (.halt q w1',p) (fV.halt l k j i d c))(over:∀{σ:aU G} {a:α} {b:β} {f:F} {es:Array Vm} {r:XW β×Array Vm} (g:A σ a b) (d:t<f.drawn) (c:jO es),o (.ok a f,es) r (fV.over g d c))(od:∀{σ:aU G} {x q:Halt} {f:F} {es:Array Vm} {r:XW β×Array Vm} (l:lF σ x q) (d:t<f.drawn) (c:jO es),o (.halt x f,es) r (fV.od l d c)){m:XW α×Array Vm}{n:XW β×Array Vm}(h:fV A ρ t w' m n):o m n h:=(h (λm n=>fV A ρ t w' m n/\∀h,o m n h) (λg k j i d c=>⟨fV.ok g k j i d c,λ_=>ok g k j i d c⟩) (λl k j i d c=>⟨fV.halt l k j i d c,λ_=>halt l k j i d c⟩) (λg d c=>⟨fV.over g d c,λ_=>over g d c⟩) (λl d c=>⟨fV.od l d c,λ_=>od l d c⟩)).2 h
def fV.after{α β:Type}{A:aU G->α->β->Prop}{ρ σ:aU G}{t:Nat}{w' w1':F}{r:XW α×Array Vm}{r':XW β×Array Vm}(i:Fr ρ σ w' w1')(h:fV A σ t w1' r r'):fV A ρ t w' r r':=by
 cases h using fV.ind with
 |ok c f e d b a=>exact .ok c f (i.trans e) d b a
 |halt g f e d b a=>exact .halt g f (i.trans e) d b a
 |over c b a=>exact .over c b a
 |od g b a=>exact .od g b a
def fV.left{α β:Type}{A:aU G->α->β->Prop}{ρ l:aU G}{t e:Nat}{w' k:F}{r:XW α×Array Vm}{r' j:XW β×Array Vm}(h:fV A ρ t w' r r')(b:e<Result.drawn r.1):fV A l e k r j:=by
 cases h using fV.ind with
 |ok c i g f _ a=>exact .over c b a
 |halt d i g f _ a=>exact .od d b a
 |over c _ a=>exact .over c b a
 |od d _ a=>exact .od d b a
def eK.lt{ρ:aU G}{w w':F}(h:eK ρ bu w w'){b b':Nat}(d:ρ.f b=I b'):b<w.heap.size/\b'<w'.heap.size:=by
 obtain⟨e,f,a,c,-⟩:=h.at_ b b' d;exact⟨(Ub.1 a).1,(Ub.1 c).1⟩
structure Qu(w W:F)(b:Nat)(o:Xv):Prop where
 at_:W.heap[b]? =I o
 other:∀c,c≠b->W.heap[c]? =w.heap[c]?
 size:W.heap.size=w.heap.size
 tape:W.tape=w.tape
 drawn:W.drawn=w.drawn
 os:W.os=w.os
 output:W.output=w.output
def eK.upd{ρ:aU G}{w w' W W':F}(h:eK ρ bu w w'){b b':Nat}(i:ρ.f b=I b'){o o':Xv}(q:dK ρ o o')(c:Qu w W b o)(d:Qu w' W' b' o'):eK ρ bu W W':=by
 refine⟨by rw[c.size];exact h.gl,by rw[d.size];exact h.gr,λe a f=>?_,λr u p=>by rw[c.tape,c.drawn,d.tape,d.drawn];exact h.tape r u p⟩;by_cases g:e=b
 ·subst g;have:a=b':=by rw[i] at f;cases f;rfl
  subst this;exact⟨o,o',c.at_,d.at_,q⟩
 ·have j:a≠b':=λk=>g (ρ.inj e b a f (by rw[k];exact i));obtain⟨s,t,l,m,n⟩:=h.at_ e a f;exact⟨s,t,(c.other e g).trans l,(d.other a j).trans m,n⟩
def Qu.fr{ρ:aU G}{w' W':F}{b b':Nat}(e:ρ.f b=I b'){o':Xv}(h:Qu w' W' b' o'):Fr ρ ρ w' W':=
 ⟨aU.le.refl _,h.os,h.output,h.tape,by rw[h.drawn];exact T8 _,by rw[h.size];exact T8 _,λa f _=>h.other a (λc=>f b (by rw[c];exact e)),λ_ _ h=>.inl h,λ_ g d=>absurd d (by rw[h.size];omega)⟩
def wj{w:F}{a:UJ}{c:Array U}{t:Uh}{b:Nat×Nat}(h:w.heap[a.block]? =I (.cells c t b))(v:U):Qu w (w.setCell a v) a.block (.cells (if a.spot.isSome then c else c.setIfInBounds a.off v) t b):=by
 refine⟨?_,λc d=>?_,by simp[Ya],rfl,rfl,rfl,rfl⟩
 ·simp[Ya,VV,h]
 ·simp[Ya,VV,Ne.symm d]
def zL{w:F}{a:UJ}{n:Nat}(b:n≠0){c:Array U}{t:Uh}{d:Nat×Nat}(h:w.heap[a.block]? =I (.cells c t d)):Qu w (w.freeze a n) a.block (.cells c t (if d.1==d.2 then(a.off,a.off+n) else(min d.1 a.off,max d.2 (a.off+n)))):=by
 obtain⟨g,f⟩:=d;refine⟨?_,λc e=>?_,by simp[VQ,b],by simp[VQ,b],by simp[VQ,b],by simp[VQ,b],by simp[VQ,b]⟩
 ·simp[VQ,b,VV,h]
 ·simp[VQ,b,VV,Ne.symm e]
def iQ{w:F}{a:UJ}{n:Nat}(b:n≠0){o:Xv}(h:w.heap[a.block]? =I o)(f:∀c t d,o≠.cells c t d):Qu w (w.freeze a n) a.block o:=by
 refine⟨?_,λc e=>?_,by simp[VQ,b],by simp[VQ,b],by simp[VQ,b],by simp[VQ,b],by simp[VQ,b]⟩
 ·simp only[VQ,b,if_false,VV,h];cases o<;>first|rfl|exact absurd rfl (f _ _ _)
 ·simp[VQ,b,VV,Ne.symm e]
def zM{w:F}{r:Nat}(o:Xv)(h:r<w.heap.size):Qu w {w with heap:=w.heap.setIfInBounds r o} r o:=
 ⟨by simp[UP,h],λb a=>by simp[Array.getElem?_setIfInBounds_ne (Ne.symm a)],by simp,rfl,rfl,rfl,rfl⟩
def nZ {ρ:aU G} {w w':F} (h:eK ρ bu w w') {a a':UJ} (n:cN ρ a a'):(w.cell? a=K/\w'.cell? a'=K/\(∀P b,w.farLoad P a b= .error (.stuck "load: no such cell"))/\(∀P b,w'.farLoad P a' b= .error (.stuck "load: no such cell"))/\(∀P v b,w.farStore P a v b= .error (.stuck "store: no such cell"))/\(∀P v b,w'.farStore P a' v b= .error (.stuck "store: no such cell")))\/
 ∃c i t j v k,w.heap[a.block]? =I (.cells c t j)/\w'.heap[a'.block]? =I (.cells i t j)/\bg ρ c i/\w.cell? a=I v/\w'.cell? a'=I k/\ax ρ v k:=by
 obtain⟨s,u,d,e,r⟩:=h.at_ _ _ n.1;have o:=n.2.1;have f:=n.2.2;cases r using dK.ind with
 |cells p t j=>
  rename_i c i;cases g:a.spot with
  |some x=>
   rw[g] at f;exact .inl ⟨by simp[Us,d,g],by simp[Us,e,<-f],λP b=>by simp[X9,WU,d],λP b=>by simp[X9,WU,e],λP v b=>by simp[XA,WU,d],λP v b=>by simp[XA,WU,e]⟩
  |none=>
   rw[g] at f;rcases p.get a.off with⟨l,m⟩|⟨v,k,l,m,q⟩
   ·exact .inl ⟨by simp[Us,d,g,l],by simp[Us,e,<-f,<-o,m],λP b=>by simp[X9,WU,d],λP b=>by simp[X9,WU,e],λP v b=>by simp[XA,WU,d],λP v b=>by simp[XA,WU,e]⟩
   ·exact .inr ⟨c,i,t,j,v,k,d,e,p,by simp[Us,d,g,l],by simp[Us,e,<-f,<-o,m],q⟩
 |_=>exact .inl ⟨by simp[Us,d],by simp[Us,e],λP b=>by simp[X9,WU,d],λP b=>by simp[X9,WU,e],λP v b=>by simp[XA,WU,d],λP v b=>by simp[XA,WU,e]⟩
def yl{ρ:aU G}{w w':F}(h:eK ρ bu w w'){a a':UJ}(d:cN ρ a a'):w.frozen? a=w'.frozen? a':=by
 obtain⟨j,k,b,c,f⟩:=h.at_ _ _ d.1;have e:=d.2.1;cases f using dK.ind with
 |cells i l g=>simp[UQ,b,c,e]
 |_=>simp[UQ,b,c]
def KB{ρ:aU G}{w w':F}(h:eK ρ bu w w'){r r':Nat}(e:ρ.f r=I r'):w.shape? r=w'.shape? r':=by
 obtain⟨g,i,a,b,c⟩:=h.at_ _ _ e;cases c using dK.ind with
 |cells d j f=>simp[World.shape?,a,b,d.1]
 |_=>simp[World.shape?,a,b]
def eK.fresh{ρ:aU G}{w w':F}(h:eK ρ bu w w'):QO ρ w.heap.size w'.heap.size:=by
 refine⟨?_,λc a=>?_,h.gl,h.gr⟩
 ·cases b:ρ.f w.heap.size with
  |none=>rfl
  |some d=>have:=(h.lt b).1;omega
 ·have:=(h.lt a).2;omega
def eK.new{ρ:aU G}{w w':F}(h:eK ρ bu w w'){o o':Xv}(j:dK ρ o o'):eK (ρ.ext w.heap.size w'.heap.size h.fresh) bu {w with heap:=w.heap.push o} {w' with heap:=w'.heap.push o'}/\Fr ρ (ρ.ext w.heap.size w'.heap.size h.fresh) w' {w' with heap:=w'.heap.push o'}:=by
 have e:=aU.Mc h.fresh;refine⟨⟨by have:=h.gl;simp;omega,by have:=h.gr;simp;omega,λf b a=>?_,h.tape⟩,⟨e,rfl,rfl,rfl,T8 _,by simp,λb a k=>by simp[VB,Nat.ne_of_lt k],λf b a=>?_,λb g d=>⟨w.heap.size,by
  have c:b=w'.heap.size:=by simp at d;omega
  rw[c];exact aU.xk _ _ _ _⟩⟩⟩
 ·unfold aU.ext at a;dsimp only at a
  split at a
  ·rename_i c;cases a;subst c;exact⟨o,o',by simp,by simp,j.mono e⟩
  ·obtain⟨l,m,g,d,i⟩:=h.at_ f b a;have:=h.lt a;exact⟨l,m,by simp[VB,Nat.ne_of_lt this.1];simpa using g,by simp[VB,Nat.ne_of_lt this.2];simpa using d,i.mono e⟩
 ·unfold aU.ext at a;dsimp only at a
  split at a
  ·cases a;exact .inr (T8 _)
  ·exact .inl a
def mG{σ:aU G}{es:Array Vm}(h:∀e∈es,kr σ e){e:Vm}(b:kr σ e):∀x∈es.push e,kr σ x:=λx a=>by
 rcases Array.mem_push.1 a with a|rfl
 ·exact h x a
 ·exact b
def an.runs{P P':Uf}{α β:Type}{A:aU G->α->β->Prop}{ρ:aU G}{s:Wu α}{s':Wu β}(h:an P P' A ρ s s'):∀(w w':F) (es g:Array Vm) (bu:Nat),eK ρ bu w w'->(∀e∈g,kr ρ e)->jO es->fV A ρ (w.drawn+bu) w' (s.runT P w es) (s'.runT P' w' g):=by
 induction h using an.ind with
 |pure h=>intro w w' es g bu a b c;exact .ok h a (Fr.refl _ _) b Y c
 |load i _ d=>
  intro w w' es g bu a b c;rcases nZ a i with⟨j,f,o,R,-⟩|⟨D,O,r,t,v,n,-,-,-,j,f,o⟩
  ·simp only[U4,j,f,o,R];exact .halt (.same _ Y) a (Fr.refl _ _) b Y c
  ·simp only[U4,j,f];exact d v n o w w' _ _ _ a (mG b ⟨_,i.1⟩) (c.push (by simp))
 |store i ao _ d=>
  intro w w' es g bu a b c;rename_i ρ m k y v n q C _;have V:(∀x,v≠.agg x)->(∀x,v≠.tuple x)->(∀x,n≠.agg x)->(∀x,n≠.tuple x)->fV A ρ (w.drawn+bu) w' ((Sem.store m k v q).runT P w es) ((Sem.store m y n C).runT P' w' g):=by
   intro a2 a3 a4 a5;have ae:=yl a i;rcases nZ a i with⟨j,f,-,-,o,R⟩|⟨D,O,r,t,ba,bb,aq,ar,ab,j,f,o⟩
   ·have I:(Sem.store m k v q).runT P w es=(.halt (.stuck "store: no such cell") w,es):=by cases v<;>first|exact absurd Y (a2 _)|exact absurd Y (a3 _)|simp only[U4,j,o]
    have J:(Sem.store m y n C).runT P' w' g=(.halt (.stuck "store: no such cell") w',g):=by cases n<;>first|exact absurd Y (a4 _)|exact absurd Y (a5 _)|simp only[U4,f,R]
    rw[I,J];exact .halt (.same _ Y) a (Fr.refl _ _) b Y c
   ·cases ap:w.frozen? k with
    |true=>
     rw[ap] at ae;have I:(Sem.store m k v q).runT P w es=(.halt (.unsupported (.unsafePointer "a write to bytes that a string shares")) w,es):=by cases v<;>simp_all [U4]
     have J:(Sem.store m y n C).runT P' w' g=(.halt (.unsupported (.unsafePointer "a write to bytes that a string shares")) w',g):=by cases n<;>simp_all [U4]
     rw[I,J];exact .halt (.same _ Y) a (Fr.refl _ _) b Y c
    |false=>
     rw[ap] at ae;have I:(Sem.store m k v q).runT P w es=q.runT P (w.setCell k v) (es.push ⟨.cell k,Z,m == .atomic⟩):=by cases v<;>simp_all [U4]
     have J:(Sem.store m y n C).runT P' w' g=C.runT P' (w'.setCell y n) (g.push ⟨.cell y,Z,m == .atomic⟩):=by cases n<;>simp_all [U4]
     rw[I,J];have L:dK ρ (.cells (if k.spot.isSome then D else D.setIfInBounds k.off v) r t) (.cells (if y.spot.isSome then O else O.setIfInBounds y.off n) r t):=by
      rw[<-i.2.1,<-i.2.2];refine .cells ?_ r t
      split
      ·exact ab
      ·exact ab.set ao _
     have z:=wj ar n;exact fV.after (z.fr i.1) (d _ _ _ _ _ (a.upd i.1 L (wj aq v) z) (mG b ⟨_,i.1⟩) (c.push (by simp)))
  cases ao using ax.ind with
  |agg az a0=>simp only[U4];exact .halt (.same _ Y) a (Fr.refl _ _) b Y c
  |tuple az a0=>simp only[U4];exact .halt (.same _ Y) a (Fr.refl _ _) b Y c
  |_=>exact V (by simp) (by simp) (by simp) (by simp)
 |new T _ d=>
  intro w w' es g bu a b c;obtain⟨j,f⟩:=a.new T;simp only[U4];exact fV.after f (d _ _ a.fresh _ _ _ _ _ j (λe aw=>(b e aw).mono f.le) c)
 |shape l _ d=>
  intro w w' es g bu a b c;simp only[U4];rw[KB a l];exact d _ w w' _ _ _ a b c
 |freeze i _ d=>
  intro w w' es g bu a b c;rename_i ρ k y H q C _;simp only[U4];by_cases p:H=0
  ·subst p;simp only[VQ,if_pos];exact d w w' _ _ _ a b c
  ·obtain⟨X,aa,j,f,o⟩:=a.at_ _ _ i.1;have av:w.drawn=(w.freeze k H).drawn:=by unfold VQ;split<;>rfl
   rw[av];cases o using dK.ind with
   |cells S r t=>
    have z:=zL (n:=H) p f;have L:dK ρ _ _:=.cells S r (if t.1==t.2 then(k.off,k.off+H) else(min t.1 k.off,max t.2 (k.off+H)));have am:=zL (n:=H) p j;rw[i.2.1] at am L;exact fV.after (z.fr i.1) (d _ _ _ _ _ (a.upd i.1 L am z) b c)
   |map U K a1=>exact fV.after ((iQ p f (λ_ _ _ e=>by cases e)).fr i.1) (d _ _ _ _ _ (a.upd i.1 (.map U K a1) (iQ p j (λ_ _ _ e=>by cases e)) (iQ p f (λ_ _ _ e=>by cases e))) b c)
   |chan D E Q s N r=>exact fV.after ((iQ p f (λ_ _ _ e=>by cases e)).fr i.1) (d _ _ _ _ _ (a.upd i.1 (.chan D E Q s N r) (iQ p j (λ_ _ _ e=>by cases e)) (iQ p f (λ_ _ _ e=>by cases e))) b c)
   |number E W=>exact fV.after ((iQ p f (λ_ _ _ e=>by cases e)).fr i.1) (d _ _ _ _ _ (a.upd i.1 (.number E W) (iQ p j (λ_ _ _ e=>by cases e)) (iQ p f (λ_ _ _ e=>by cases e))) b c)
 |frozen i _ d=>
  intro w w' es g bu a b c;simp only[U4];rw[yl a i];exact d _ w w' _ _ _ a b c
 |getObj l _ d=>
  intro w w' es g bu a b c;obtain⟨X,aa,j,f,o⟩:=a.at_ _ _ l;cases o using dK.ind with
  |cells S r t=>
   simp only[U4,j,f];exact .halt (.same _ Y) a (Fr.refl _ _) b Y c
  |map U K q=>
   simp only[U4,j,f];exact d _ _ (.map U K q) w w' _ _ _ a (mG b ⟨_,l⟩) (c.push (by simp))
  |chan D E Q s N r=>
   simp only[U4,j,f];exact d _ _ (.chan D E Q s N r) w w' _ _ _ a (mG b ⟨_,l⟩) (c.push (by simp))
  |number E W=>
   simp only[U4,j,f];exact d _ _ (.number E W) w w' _ _ _ a (mG b ⟨_,l⟩) (c.push (by simp))
 |setObj l T _ d=>
  intro w w' es g bu a b c;rename_i ρ N a9 X aa q C _;obtain⟨a7,a8,j,f,o⟩:=a.at_ _ _ l;cases o using dK.ind with
  |cells S r t=>
   simp only[U4,j,f];exact .halt (.same _ Y) a (Fr.refl _ _) b Y c
  |_=>
   simp only[U4,j,f];have al:=a.lt l;have z:=zM (w:=w') aa al.2;exact fV.after (z.fr l) (d _ _ _ _ _ (a.upd l T (zM X al.1) z) (mG b ⟨_,l⟩) (c.push (by simp)))
 |choose _ d=>
  intro w w' es g bu a b c;rename_i ρ u q C _;simp only[U4]
  split
  ·exact d 0 w w' _ _ _ a b c
  ·cases bu with
   |zero=>
    have K:=Km P (q (u.cut (w.tape w.drawn u))) {w with drawn:=w.drawn+1} es;have l:=d (u.cut (w.tape w.drawn u)) {w with drawn:=w.drawn+1} {w' with tape:=λM x=>w.tape (w.drawn+1+(M-w'.drawn)) x} es g (Result.drawn ((q (u.cut (w.tape w.drawn u))).runT P {w with drawn:=w.drawn+1} es).1) ⟨a.gl,a.gr,a.at_,λM x _=>by simp⟩ b c;exact l.left K
   |succ bu=>
    have ad:=a.tape 0 u (by omega);simp only[Nat.add_zero] at ad;rw[ad];have V:=d (u.cut (w'.tape w'.drawn u)) {w with drawn:=w.drawn+1} {w' with drawn:=w'.drawn+1} es g bu ⟨a.gl,a.gr,a.at_,λM u a6=>by
     have:=a.tape (1+M) u (by omega);simpa [U5] using this⟩ b c
    have e:w.drawn+(bu+1)=w.drawn+1+bu:=by omega
    rw[e];exact fV.after (σ:=ρ) (w1':={w' with drawn:=w'.drawn+1}) ⟨aU.le.refl _,rfl,rfl,rfl,by simp,T8 _,λ_ _ _=>rfl,λ_ _ h=>.inl h,λ_ j f=>absurd f (by simp;omega)⟩ V
 |program _ d=>intro w w' es g bu a b c;simp only[U4];exact d w w' _ _ _ a b c
 |room _ d=>intro w w' es g bu a b c;simp only[U4];exact d w w' _ _ _ a (mG b trivial) (c.push (by simp))
 |halt h=>intro w w' es g bu a b c;exact .halt h a (Fr.refl _ _) b Y c
end
section
variable {G:mj}
structure wF(P P':Uf):Prop where
 info:∀t,P'.info? t=P.info? t
 tJ:∀t,P'.underlying t=P.underlying t
 rt:P'.rt=P.rt
 zero:∀t i v,P.info? t=I i->i.zero=I v->∀(G:mj) (ρ:aU G),ax ρ v v
def ja (ρ:aU G)(e:List U)(f:List U):Prop:=∀a:List U->List U->Prop,(a [] [])->(∀{v d:U} {b c:List U} (g:ax ρ v d) (h:a b c),a (v::b) (d::c))->a e f
def ja.nil{ρ:aU G}:ja ρ [] []:=λb a c=>a
def ja.cons{ρ:aU G}{v c:U}{l b:List U}(h:ax ρ v c)(f:ja ρ l b):ja ρ (v::l) (c::b):=λd e a=>a h (f d e a)
def ja.ind{ρ:aU G}{d:∀(a:List U) (b:List U),ja ρ a b->Prop}(nil:d _ _ (ja.nil))(cons:∀{v f:U} {l e:List U} (h:ax ρ v f) (c:ja ρ l e),(d _ _ c)->d _ _ (ja.cons h c)){a:List U}{b:List U}(h:ja ρ a b):d a b h:=(h (λa b=>ja ρ a b/\∀h,d a b h) (⟨ja.nil,λ_=>nil⟩) (λh c=>⟨ja.cons h c.1,λ_=>cons h c.1 (c.2 _)⟩)).2 h
theorem Im{ρ:aU G}:∀(l a:List U),l.length=a.length->(∀i (h:i<l.length) (e:i<a.length),ax ρ l[i] a[i])->ja ρ l a
 | [],[],_,_=>.nil
 | [],_::_,h,_=>by simp at h
 |_::_,[],h,_=>by simp at h
 |v::l,f::a,h,b=>.cons (b 0 (by simp) (by simp)) (Im l a (by simpa using h) (λi c d=>b (i+1) (by simpa using c) (by simpa using d)))
def bg.toList{ρ:aU G}{x a:Array U}(h:bg ρ x a):ja ρ x.toList a.toList:=
 Im _ _ (by simpa using h.1) (λd b c=>by simpa using h.2 d (by simpa using b) (by simpa using c))
def ja.toArray{ρ:aU G}{l c:List U}(h:ja ρ l c):bg ρ l.toArray c.toArray:=by
 induction h using ja.ind with
 |nil=>exact bg.nil _
 |cons f _ b=>
  refine⟨by simpa using b.1,λa d e=>?_⟩;cases a with
  |zero=>exact f
  |succ a=>exact b.2 a (by simpa using d) (by simpa using e)
def iX {α:Type}(_:aU G)(a b:α):Prop:=a=b
section
variable {P P':Uf}{α β γ δ:Type}{A:aU G->α->β->Prop}{B:aU G->γ->δ->Prop}{ρ:aU G}
def an.bindM{s:Wu α}{s':Wu β}{f:α->Wu γ}{f':β->Wu δ}(h:an P P' A ρ s s')(c:∀ σ a b,ρ.le σ->A σ a b->an P P' B σ (f a) (f' b)):an P P' B ρ (s >>= f) (s' >>= f'):=h.bind c
def an.aC{a:α}{b:β}(h:A ρ a b):an P P' A ρ (Pure.pure a) (Pure.pure b):=.pure h
def an.stuck{w:String}:an P P' A ρ (Go.stuck w) (Go.stuck w):=.halt (.same _ Y)
def an.dA{u:Unsupported}(a:pO (.unsupported u)=Z:=by rfl):an P P' A ρ (Go.unsupported u) (Go.unsupported u):=.halt (.same _ a)
def an.panics{v a:U}(h:ax ρ v a):an P P' A ρ (Go.goPanic v) (Go.goPanic a):=.halt (.panic h)
def an.asks{k:Uf->Wu α}{k':Uf->Wu β}(h:an P P' A ρ (k P) (k' P')):an P P' A ρ (Go.program >>= k) (Go.program >>= k'):=.program h
def fR(S:wF P P')(t:Uh):an P P' (λ_ (i a:TypeInfo)=>i=a/\P.info? t=I i) ρ (XC t) (XC t):=by
 unfold XC;refine .asks ?_;rw[S.info];cases b:P.info? t with
 |none=>exact .stuck
 |some i=>exact .aC ⟨rfl,rfl⟩
def aV(S:wF P P')(t:Uh):an P P' (λ_ (i a:TypeDesc)=>i=a/\P.underlying t=I i) ρ (Xq t) (Xq t):=by
 unfold Xq;refine .asks ?_;rw[S.tJ];cases b:P.underlying t with
 |none=>exact .stuck
 |some i=>exact .aC ⟨rfl,rfl⟩
def cZ(S:wF P P')(t:Uh):an P P' (iX (α:=Nat)) ρ (sizeOf t) (sizeOf t):=by
 unfold sizeOf;exact(fR S t).bindM (λd b c _ a=>.aC (by rw[a.1];rfl))
def jL(S:wF P P')(t:Uh):an P P' ax ρ (Wn t) (Wn t):=by
 unfold Wn;refine(fR S t).bindM (λe a f _ b=>?_);obtain⟨rfl,c⟩:=b;cases d:a.zero with
 |none=>exact .dA
 |some v=>exact .aC (S.zero t a v c d _ e)
def Iw(S:wF P P')(t:Uh):an P P' (iX (α:=Bool)) ρ (isAgg t) (isAgg t):=by
 unfold isAgg;refine(aV S t).bindM (λe b c _ a=>?_);obtain⟨rfl,d⟩:=a
 split<;>exact .aC Y
theorem o9:∀(n:Nat) {ρ:aU G} {a a':UJ} (i:Nat) {b c:Array U},cN ρ a a'->bg ρ b c->an P P' bg ρ (loadCellsFrom a i n b) (loadCellsFrom a' i n c)
 |0,ρ,a,a',i,b,c,e,d=>.aC d
 |n+1,ρ,a,a',i,b,c,e,d=>.load (e.add i) (λv g f=>o9 n (i+1) e (d.push f))
def vN{a a':UJ}(n:Nat)(b:cN ρ a a'):an P P' bg ρ (loadCells a n) (loadCells a' n):=o9 n 0 b (bg.nil _)
theorem j3:∀(vs d:List U) {ρ:aU G} {a a':UJ} (i:Nat),cN ρ a a'->ja ρ vs d->an P P' (iX (α:=Unit)) ρ (storeCells a vs i) (storeCells a' d i)
 | [],[],ρ,a,a',i,c,b=>.aC Y
 | [],_::_,ρ,a,a',i,c,b=>by cases b using ja.ind
 |_::_,[],ρ,a,a',i,c,b=>by cases b using ja.ind
 |v::g,j::h,ρ,a,a',i,c,b=>by
  cases b using ja.ind with
  |cons f e=>exact .store (c.add i) f (j3 g h (i+1) c e)
def A6(S:wF P P'){a a':UJ}(t:Uh)(d:cN ρ a a'):an P P' ax ρ (loadVar t a) (loadVar t a'):=by
 unfold loadVar;refine(Iw S t).bindM (λk c f e b=>?_);cases b;cases c
 ·exact .load (d.mono e) (λv j h=>.pure h)
 ·refine(cZ S t).bindM (λi c f g b=>?_);cases b;exact(vN _ (d.mono (e.trans g))).bindM (λi c f _ b=>.aC (.agg b.1 b.2))
def Gr(S:wF P P'){a a':UJ}(t:Uh){v g:U}(e:cN ρ a a')(h:ax ρ v g):an P P' (iX (α:=Unit)) ρ (storeVar t a v) (storeVar t a' g):=by
 unfold storeVar;refine(cZ S t).bindM (λk i j b d=>?_);cases d;have c:=h.cells;rw[<-c.1]
 split
 ·exact an.stuck.bindM (A:=iX (α:=PUnit)) (λl i j f d=>j3 _ _ 0 (e.mono (b.trans f)) (c.mono (b.trans f)).toList)
 ·exact j3 _ _ 0 (e.mono b) (c.mono b).toList
def qh(t:Uh){c a:Array U}(h:bg ρ c a):an P P' cN ρ (newRow t c) (newRow t a):=by
 unfold newRow;exact .new (.cells h t (0,0)) (λd e b=>.pure ⟨aU.xk _ _ _ b,rfl,rfl⟩)
def Ep(t:Uh){v a:U}(h:ax ρ v a):an P P' cN ρ (newVar t v) (newVar t a):=qh t h.cells
def lI(S:wF P P')(t:Uh){c f:Array U}(h:bg ρ c f)(off:Nat):an P P' ax ρ (part t c off) (part t f off):=by
 unfold part;refine(Iw S t).bindM (λm e k g d=>?_);cases d;cases e
 ·rcases(h.mono g).get off with⟨a,b⟩|⟨v,l,a,b,i⟩
  ·simp only[a,b];exact .stuck
  ·simp only[a,b];exact .aC i
 ·refine(cZ S t).bindM (λn e k j d=>?_);cases d;have:=(h.mono (g.trans j)).extract off (off+e);exact .aC (.agg this.1 this.2)
def qR{v a:U}(h:ax ρ v a):an P P' (iX (α:=Wx×Int)) ρ (asIntOf v) (asIntOf a):=by
 cases h using ax.ind with
 |int b c=>exact .aC Y
 |ptr h=>exact .dA
 |_=>exact .stuck
def oF{v a:U}(h:ax ρ v a):an P P' (iX (α:=Int)) ρ (asInt v) (asInt a):=by
 unfold asInt;exact(qR h).bindM (λd b c _ h=>by cases h;exact .aC Y)
def M9{v a:U}(h:ax ρ v a):an P P' (iX (α:=Bool)) ρ (asBool v) (asBool a):=by
 cases h using ax.ind with
 |bool b=>exact .aC Y
 |_=>exact .stuck
def eF(S:wF P P'){A:aU G->α->β->Prop}(e:RuntimeError)(d:∀i c a m,e≠.typeAssertion i c a m)(f:∀t,e≠.unhashable t)(g:e≠.panicNil):an P P' A ρ (runtimePanic e) (runtimePanic e):=by
 unfold runtimePanic;refine .asks ?_;rw[S.rt];cases e with
 |typeAssertion i c a m=>exact absurd Y (d _ _ _ _)
 |unhashable t=>exact absurd Y (f _)
 |panicNil=>exact absurd Y g
 |bounds j k s c=>exact .panics (.iface _ (.agg Y (λi b h=>by
  have:i=0\/i=1\/i=2\/i=3:=by simp at b;omega
  rcases this with rfl|rfl|rfl|rfl<;>first|exact .bool _|exact .int _ _)))
 |error m=>exact .panics (.iface _ (.string _))
 |plain m=>exact .panics (.iface _ (.string _))
 |nilDeref=>exact .panics (.iface _ (.string _))
def oe(S:wF P P'){A:aU G->α->β->Prop}(k:Wx)(x y:Int)(c:BoundsCode):an P P' A ρ (boundsPanic k x y c) (boundsPanic k x y c):=by
 unfold boundsPanic
 split
 ·refine an.bindM (A:=iX (α:=Bool)) ?_ (λe b d _ a=>by cases a;exact eF S _ (by simp) (by simp) (by simp));exact an.bind (A:=iX (α:=Nat)) (an.choose (λf=>.pure Y)) (λe b d _ a=>by cases a;exact .pure Y)
 ·refine an.bindM (A:=iX (α:=Bool)) (.aC Y) (λe b d _ a=>by cases a;exact eF S _ (by simp) (by simp) (by simp))
end
end
section
variable {G:mj}
structure Alike(G:mj)(P P':Uf):Prop where
 S:wF P P'
 cells:∀t,P'.cellsOf t=P.cellsOf t
 bytes:∀t,P'.bytesOf t=P.bytesOf t
 depth:P'.depth=P.depth
 jj:∀d e c o u n,liesAt P' d e c o u n=liesAt P d e c o u n
 cellAt:∀d e c o b,cellAtBytes P' d e c o b=cellAtBytes P d e c o b
 BL:∀d t o,byteOfCell P' d t o=byteOfCell P d t o
 SQ:∀d t,P'.eqGuardType d t=P.eqGuardType d t
 IG:∀t,P'.stoodInHeld t=P.stoodInHeld t
 M2:∀d t,P'.holdsPacked d t=P.holdsPacked d t
 yp:P.globals.size=G.g
 Mm:P'.globals.size=G.g
 QW:∀f:Nat,G.b f=Z->∃fn,P.funcs[f]? =I fn/\fn.body.isNone=T7/\(fn.name == "runtime.NumGoroutine")=T7
 Q9:∀f:Nat,(P'.funcs[f]?).map (fun(x:WC)=>(x.name,x.body.isNone))=(P.funcs[f]?).map (fun(x:WC)=>(x.name,x.body.isNone))
section
variable {P P':Uf}{ρ:aU G}
def mP{v a:U}(h:ax ρ v a):an P P' cN ρ (Xd v) (Xd a):=by
 cases h using ax.ind with
 |ptr h=>exact .aC h
 |_=>exact .stuck
def Nd(L:Alike G P P')(t:Uh){v a:U}(h:ax ρ v a):an P P' ax ρ (Instr.loadAt t v) (Instr.loadAt t a):=
 (mP h).bindM (λd b c _ h=>A6 L.S t h)
def Kf(L:Alike G P P')(t:Uh){v a x b:U}(h:ax ρ v a)(d:ax ρ x b):an P P' (iX (α:=Unit)) ρ (Instr.storeAt t v x) (Instr.storeAt t a b):=
 (mP h).bindM (λg e f c h=>Gr L.S t h (d.mono c))
def Er{r r':Nat}(h:ρ.f r=I r'):an P P' (λ_ (x y:Option (UJ×Uh))=>x=K/\y=K) ρ (viewAt r) (viewAt r'):=by
 unfold viewAt;refine an.bindM (A:=iX (α:=Option (Uh×Nat))) (.shape h (λs=>.pure Y)) (λj f g c b=>?_);cases b
 split
 ·exact .aC ⟨rfl,rfl⟩
 ·refine an.bindM (A:=dK) (.getObj (c _ _ h) (λd e a=>.pure a)) (λk d e i a=>?_);cases a using dK.ind<;>exact .aC ⟨rfl,rfl⟩
def yT{a a':UJ}(h:cN ρ a a'):an P P' (iX (α:=Unit)) ρ (noView a) (noView a'):=by
 unfold noView;refine(Er h.1).bindM (λf d e c b=>?_);obtain⟨rfl,rfl⟩:=b;exact .aC Y
def mO(L:Alike G P P'){a a':UJ}(h:cN ρ a a'):an P P' (iX (α:=Nat)) ρ (byteOf a) (byteOf a'):=by
 unfold byteOf;rw[<-h.2.2];cases g:a.spot with
 |some s=>exact .aC Y
 |none=>
  refine .asks ?_;refine(yT h).bindM (λj c e d b=>?_);refine an.bindM (A:=iX (α:=Option (Uh×Nat))) (.shape (d _ _ h.1) (λs=>.pure Y)) (λk c e f b=>?_);cases b;cases c with
  |none=>exact .stuck
  |some i=>
   simp only[L.cells,L.bytes,L.BL,L.depth,<-h.2.1]
   split
   ·exact .aC Y
   ·split
    ·exact .aC Y
    ·exact .stuck
def Nh(L:Alike G P P'){a a':UJ}(h:cN ρ a a')(c b:Nat):an P P' cN ρ (partAt a c b) (partAt a' c b):=by
 unfold partAt;refine(mO L h).bindM (λk i j g e=>?_);cases e;have d:cN k {block:=a.block,off:=a.off+c} {block:=a'.block,off:=a'.off+c}:=⟨g _ _ h.1,by show a.off+c=a'.off+c;rw[h.2.1],rfl⟩;refine(mO L d).bindM (λl i j f e=>?_);cases e;refine .aC ?_
 split
 ·exact d.mono f
 ·exact⟨f _ _ d.1,d.2.1,rfl⟩
def Cp(L:Alike G P P'){a a':UJ}(h:cN ρ a a')(f:Field):an P P' cN ρ (fieldPlace a f) (fieldPlace a' f):=by
 unfold fieldPlace;refine(cZ L.S _).bindM (λg d e b c=>?_);cases c
 split
 ·exact Nh L (h.mono b) _ _
 ·exact .aC ((h.mono b).add _)
def J9(L:Alike G P P')(s:Uh){v a:U}(h:ax ρ v a)(f:Nat):an P P' ax ρ (Instr.fieldAt s v f) (Instr.fieldAt s a f):=by
 unfold Instr.fieldAt;refine(aV L.S s).bindM (λm j l i g=>?_);obtain⟨rfl,-⟩:=g;cases j with
 |struct e=>
  simp only;cases e[f]? with
  |none=>exact .stuck
  |some d=>exact(mP (h.mono i)).bindM (λk b c _ h=>(Cp L h d).bindM (λk b c _ h=>.aC (.ptr h)))
 |_=>exact .stuck
def PI(L:Alike G P P')(t:Uh):an P P' ax ρ (Instr.alloc t Z (.tuple #[])) (Instr.alloc t Z (.tuple #[])):=by
 unfold Instr.alloc;exact(jL L.S t).bindM (λg e f d a=>(Ep t a).bindM (λh b c _ a=>.aC (.ptr a)))
def SE(t:Uh){v a:U}(h:ax ρ v a):an P P' ax ρ (Instr.box t v) (Instr.box t a):=by
 unfold Instr.box;exact(Ep t h).bindM (λd b c _ h=>.aC (.ptr h))
def Ka(L:Alike G P P')(t:Uh){x n i l:U}(u:ax ρ x n)(q:ax ρ i l):an P P' ax ρ (Instr.indexAt t x i) (Instr.indexAt t n l):=by
 unfold Instr.indexAt;refine(qR q).bindM (λE k z r b=>?_);cases b;obtain⟨B,D⟩:=k;refine(aV L.S t).bindM (λF d j s a=>?_);obtain⟨rfl,a⟩:=a;have h:=u.mono (r.trans s);cases d with
 |array C e=>
  refine(mP h).bindM (λH k y A f=>?_);refine(aV L.S t).bindM (λo d j c a=>?_);obtain⟨rfl,-⟩:=a;dsimp only
  split
  ·exact(cZ L.S e).bindM (λw x v g b=>by cases b;exact .aC (.ptr ((f.mono (c.trans g)).add _)))
  ·(repeat' split)<;>first|exact an.dA|exact oe L.S _ _ _ _
 |slice e=>
  cases h using ax.ind with
  |jV m p=>
   refine(aV L.S t).bindM (λo d j c a=>?_);exact oe L.S _ _ _ _
  |sl f m p=>
   refine(aV L.S t).bindM (λo d j c a=>?_);obtain⟨rfl,-⟩:=a;dsimp only
   split
   ·exact(cZ L.S e).bindM (λw x v g b=>by cases b;exact .aC (.ptr ((f.mono (c.trans g)).add _)))
   ·(repeat' split)<;>first|exact an.dA|exact oe L.S _ _ _ _
  |_=>exact an.stuck
 |_=>cases h using ax.ind<;>exact an.stuck
def A4(n:Nat):an P P' (iX (α:=Unit)) ρ (askRoom n) (askRoom n):=by
 unfold askRoom
 split
 ·exact .room (.pure Y)
 ·exact .aC Y
def iN(L:Alike G P P'){v a:U}(h:ax ρ v a)(y:Nat)(c:BoundsCode):an P P' (iX (α:=Nat)) ρ (Instr.sliceBound v y c) (Instr.sliceBound a y c):=by
 unfold Instr.sliceBound;refine(qR h).bindM (λi b e _ d=>?_);cases d;obtain⟨g,f⟩:=b;dsimp only
 split
 ·exact .aC Y
 ·exact oe L.S _ _ _ _
def ep (ρ:aU G)(c:Option U)(d:Option U):Prop:=∀a:Option U->Option U->Prop,(a K K)->(∀{v b:U} (e:ax ρ v b),a (I v) (I b))->a c d
def ep.none{ρ:aU G}:ep ρ K K:=λb a c=>a
def ep.some{ρ:aU G}{v a:U}(h:ax ρ v a):ep ρ (I v) (I a):=λc d b=>b h
def ep.ind{ρ:aU G}{c:∀(a:Option U) (b:Option U),ep ρ a b->Prop}(none:c _ _ (ep.none))(some:∀{v d:U} (h:ax ρ v d),c _ _ (ep.some h)){a:Option U}{b:Option U}(h:ep ρ a b):c a b h:=(h (λa b=>ep ρ a b/\∀h,c a b h) (⟨ep.none,λ_=>none⟩) (λh=>⟨ep.some h,λ_=>some h⟩)).2 h
def ep.mono{σ:aU G}(a:ρ.le σ){o o':Option U}(h:ep ρ o o'):ep σ o o':=by
 cases h using ep.ind with
 |none=>exact .none
 |some h=>exact .some (h.mono a)
def jo(L:Alike G P P')(b:Bool)(len cap:Nat){k l i j m n:Option U}(h1:ep ρ k l)(h:ep ρ i j)(o:ep ρ m n):an P P' (iX (α:=Nat×Nat×Nat)) ρ (Instr.sliceBounds b len cap k i m) (Instr.sliceBounds b len cap l j n):=by
 unfold Instr.sliceBounds;cases o using ep.ind with
 |none=>
  cases h using ep.ind with
  |none=>
   cases h1 using ep.ind with
   |none=>exact .aC Y
   |some d=>exact(iN L d _ _).bindM (λf c b _ a=>by cases a;exact .aC Y)
  |some g=>
   refine(iN L g _ _).bindM (λf c b e a=>?_);cases a;cases h1 using ep.ind with
   |none=>exact .aC Y
   |some d=>exact(iN L (d.mono e) _ _).bindM (λf c b _ a=>by cases a;exact .aC Y)
 |some q=>
  refine(iN L q _ _).bindM (λf c b e a=>?_);cases a;cases h using ep.ind with
  |none=>exact an.stuck
  |some g=>
   refine(iN L (g.mono e) _ _).bindM (λr c b p a=>?_);cases a;cases h1 using ep.ind with
   |none=>exact .aC Y
   |some d=>exact(iN L (d.mono (e.trans p)) _ _).bindM (λf c b _ a=>by cases a;exact .aC Y)
def PS(L:Alike G P P')(t:Uh){x u:U}{B C w y p q:Option U}(f:ax ρ x u)(h1:ep ρ B C)(c:ep ρ w y)(d:ep ρ p q):an P P' ax ρ (Instr.slice t x B w p) (Instr.slice t u C y q):=by
 unfold Instr.slice;refine(aV L.S t).bindM (λK r J k o=>?_);obtain⟨rfl,-⟩:=o;have f:=f.mono k;have h1:=h1.mono k;have c:=c.mono k;have d:=d.mono k;cases r with
 |string=>
  cases f using ax.ind with
  |string s=>
   dsimp only;have F:p.isSome=q.isSome:=by cases d using ep.ind<;>rfl
   rw[F]
   split
   ·exact an.stuck
   ·exact(jo L T7 s.size s.size h1 c .none).bindM (λl i m _ a=>by cases a;exact .aC (.string _))
  |_=>exact an.stuck
 |slice j=>
  cases f using ax.ind with
  |jV g n=>
   refine(jo L Z g n h1 c d).bindM (λl i m _ a=>?_);cases a;refine(cZ L.S j).bindM (λv x D _ a=>?_);cases a;refine .aC ?_
   split
   ·exact .jV _ _
   ·exact .jV _ _
  |sl h g n=>
   refine(jo L Z g n h1 c d).bindM (λl i m e a=>?_);cases a;refine(cZ L.S j).bindM (λv x D b a=>?_);cases a;refine .aC ?_
   split
   ·exact .sl (h.mono (e.trans b)) _ _
   ·exact .sl ((h.mono (e.trans b)).add _) _ _
  |_=>exact an.stuck
 |pointer E=>
  have I:an P P' cN K (asAddr x) (asAddr u):=by
   cases f using ax.ind with
   |ptr H=>exact .aC H
   |de=>exact eF L.S .nilDeref (by simp) (by simp) (by simp)
   |_=>exact an.stuck
  refine I.bindM (λl i M e h=>?_);refine(aV L.S E).bindM (λv r J b o=>?_);obtain⟨rfl,-⟩:=o;cases r with
  |array g j=>
   refine(jo L T7 g g (h1.mono (e.trans b)) (c.mono (e.trans b)) (d.mono (e.trans b))).bindM (λl i m z a=>?_);cases a;refine(cZ L.S j).bindM (λv x D A a=>?_);cases a;refine .aC ?_
   split
   ·exact .sl (h.mono (b.trans (z.trans A))) _ _
   ·exact .sl ((h.mono (b.trans (z.trans A))).add _) _ _
  |_=>exact an.stuck
 |_=>cases f using ax.ind<;>exact an.stuck
def Ke(L:Alike G P P')(t:Uh){x q:U}{l m g h n o:Option U}(k:ax ρ x q)(h1:ep ρ l m)(d:ep ρ g h)(e:ep ρ n o):an P P' ax ρ (Instr.sliceAt t x l g n) (Instr.sliceAt t q m h o):=by
 unfold Instr.sliceAt;refine(aV L.S t).bindM (λC w A a v=>?_);obtain⟨rfl,-⟩:=v;cases w with
 |array p s=>
  refine(mP (k.mono a)).bindM (λD r y u f=>?_);have c:=a.trans u;refine(jo L T7 p p (h1.mono c) (d.mono c) (e.mono c)).bindM (λE r z i b=>?_);cases b;refine(cZ L.S s).bindM (λF x B j b=>?_);cases b;refine .aC ?_
  split
  ·exact .sl (f.mono (i.trans j)) _ _
  ·exact .sl ((f.mono (i.trans j)).add _) _ _
 |_=>exact PS L t (k.mono a) (h1.mono a) (d.mono a) (e.mono a)
end
end
section
variable {G:mj}
section
variable {P P':Uf}{ρ:aU G}
def lX{z a:Array U}(h:bg ρ z a)(n:Nat):bg ρ ((Yp n).map (z[· % z.size]!)) ((Yp n).map (a[· % a.size]!)):=by
 refine⟨by simp,λd f g=>?_⟩;simp only[Array.getElem_map,Array.getElem_range];have c:=h.1;by_cases e:0<z.size
 ·have b:d%z.size<z.size:=Nat.mod_lt _ e;rw[getElem!_pos z _ b,getElem!_pos a _ (by rw[<-c];exact b)];have:d%a.size=d%z.size:=by rw[c]
  simp only[this];exact h.2 _ b (by rw[<-c];exact b)
 ·rw[getElem!_neg z _ (by omega),getElem!_neg a _ (by omega)];exact .bool _
def uJ(L:Alike G P P'){α k γ b:Type}{B:aU G->γ->b->Prop}(e:RuntimeError)(g:∀i c a m,e≠.typeAssertion i c a m)(h:∀t,e≠.unhashable t)(j:e≠.panicNil){f:α->Wu γ}{f':k->Wu b}:an P P' B ρ (runtimePanic e >>= f) (runtimePanic e >>= f'):=
 (eF (A:=λ_ _ _=>False) L.S e g h j).bindM (λ_ _ _ _ d=>d.elim)
def qd{γ a:Type}{B:aU G->γ->a->Prop}(q:Question){f:Nat->Wu γ}{f':Nat->Wu a}(h:∀n,an P P' B ρ (f n) (f' n)):an P P' B ρ (choose q >>= f) (choose q >>= f'):=.choose (λn=>h n)
def En(L:Alike G P P')(t:Uh){l j c h:U}(m:ax ρ l j)(hc:ax ρ c h):an P P' ax ρ (XY t l c) (XY t j h):=by
 unfold XY;refine(aV L.S t).bindM (λw p v i n=>?_);obtain⟨rfl,-⟩:=n;cases p with
 |slice e=>
  refine(oF (m.mono i)).bindM (λx b d k a=>?_);cases a;refine(oF (hc.mono (i.trans k))).bindM (λy b d q a=>?_);cases a;refine(fR L.S e).bindM (λz b d r a=>?_);obtain⟨rfl,-⟩:=a;dsimp only
  split
  ·split
   ·exact uJ L _ (by simp) (by simp) (by simp)
   ·split
    ·exact uJ L _ (by simp) (by simp) (by simp)
    ·exact qd _ (λu=>uJ L _ (by simp) (by simp) (by simp))
  ·refine(A4 _).bindM (λA b d s a=>?_);refine(cZ L.S e).bindM (λg b d _ a=>?_);cases a
   split
   ·exact(qh e (lX (bg.nil _) _)).bindM (λg b d _ f=>.aC (.sl f _ _))
   ·refine(jL L.S e).bindM (λg b d _ o=>?_);exact(qh e (lX o.cells _)).bindM (λg b d _ f=>.aC (.sl f _ _))
 |_=>exact an.stuck
def pF (ρ:aU G)(f:List (U×Nat))(g:List (U×Nat)):Prop:=∀a:List (U×Nat)->List (U×Nat)->Prop,(a [] [])->(∀{v e:U} (b:Nat) {c d:List (U×Nat)} (h:ax ρ v e) (i:a c d),a ((v,b)::c) ((e,b)::d))->a f g
def pF.nil{ρ:aU G}:pF ρ [] []:=λb a c=>a
def pF.cons{ρ:aU G}{v c:U}(j:Nat){l b:List (U×Nat)}(h:ax ρ v c)(f:pF ρ l b):pF ρ ((v,j)::l) ((c,j)::b):=λd e a=>a j h (f d e a)
def pF.ind{ρ:aU G}{d:∀(a:List (U×Nat)) (b:List (U×Nat)),pF ρ a b->Prop}(nil:d _ _ (pF.nil))(cons:∀{v f:U} (j:Nat) {l e:List (U×Nat)} (h:ax ρ v f) (c:pF ρ l e),(d _ _ c)->d _ _ (pF.cons j h c)){a:List (U×Nat)}{b:List (U×Nat)}(h:pF ρ a b):d a b h:=(h (λa b=>pF ρ a b/\∀h,d a b h) (⟨pF.nil,λ_=>nil⟩) (λ{v} {f} j {l} {e} h c=>⟨pF.cons j h c.1,λ_=>cons j h c.1 (c.2 _)⟩)).2 h
def ia (ρ:aU G)(f:List (Nat×U))(g:List (Nat×U)):Prop:=∀a:List (Nat×U)->List (Nat×U)->Prop,(a [] [])->(∀{v e:U} (b:Nat) {c d:List (Nat×U)} (h:ax ρ v e) (i:a c d),a ((b,v)::c) ((b,e)::d))->a f g
def ia.nil{ρ:aU G}:ia ρ [] []:=λb a c=>a
def ia.cons{ρ:aU G}{v c:U}(j:Nat){l b:List (Nat×U)}(h:ax ρ v c)(f:ia ρ l b):ia ρ ((j,v)::l) ((j,c)::b):=λd e a=>a j h (f d e a)
def ia.ind{ρ:aU G}{d:∀(a:List (Nat×U)) (b:List (Nat×U)),ia ρ a b->Prop}(nil:d _ _ (ia.nil))(cons:∀{v f:U} (j:Nat) {l e:List (Nat×U)} (h:ax ρ v f) (c:ia ρ l e),(d _ _ c)->d _ _ (ia.cons j h c)){a:List (Nat×U)}{b:List (Nat×U)}(h:ia ρ a b):d a b h:=(h (λa b=>ia ρ a b/\∀h,d a b h) (⟨ia.nil,λ_=>nil⟩) (λ{v} {f} j {l} {e} h c=>⟨ia.cons j h c.1,λ_=>cons j h c.1 (c.2 _)⟩)).2 h
def ia.mono{σ:aU G}(b:ρ.le σ){l a:List (Nat×U)}(h:ia ρ l a):ia σ l a:=by
 induction h using ia.ind with
 |nil=>exact .nil
 |cons d h _ c=>exact .cons d (h.mono b) c
def ja.zip{l a:List U}(h:ja ρ l a):∀k,pF ρ (l.zipIdx k) (a.zipIdx k):=by
 induction h using ja.ind with
 |nil=>exact λ_=>.nil
 |cons b _ c=>exact λk=>.cons k b (c (k+1))
def Qe(off:Nat){l b:List (U×Nat)}(h:pF ρ l b):∀{cs a:Array U},bg ρ cs a->bg ρ (l.foldl (λcs (c,j)=>cs.setIfInBounds (off+j) c) cs) (b.foldl (λcs (c,j)=>cs.setIfInBounds (off+j) c) a):=by
 induction h using pF.ind with
 |nil=>exact λh=>h
 |cons j d _ e=>exact λh=>e (h.set d _)
def C3(a:Nat->Option (Nat×Nat)){ps d:List (Nat×U)}(g:ia ρ ps d):∀{cs b:Array U},bg ρ cs b->(X7 a cs ps=K/\X7 a b d=K)\/∃x f,X7 a cs ps=I x/\X7 a b d=I f/\bg ρ x f:=by
 induction g using ia.ind with
 |nil=>exact λc=>.inr ⟨_,_,rfl,rfl,c⟩
 |cons i h _ j=>
  intro cs b c;have e:=h.cells;simp only[X7];cases a i with
  |none=>exact .inl ⟨rfl,rfl⟩
  |some l=>
   obtain⟨k,m⟩:=l;simp only[e.1,c.1]
   split
   ·exact .inl ⟨rfl,rfl⟩
   ·refine j ?_;rw[<-Array.foldl_toList,<-Array.foldl_toList,Array.toList_zipIdx,Array.toList_zipIdx];exact Qe k (e.toList.zip 0) c
theorem Ng{α c:Type}(g:α->Wu c):∀(l:List α) {ρ:aU G},(∀ σ,ρ.le σ->∀x∈l,an P P' (iX (α:=c)) σ (g x) (g x))->an P P' (iX (α:=List c)) ρ (l.mapM g) (l.mapM g)
 | [],ρ,a=>by rw[List.mapM_nil];exact .aC Y
 |x::l,ρ,a=>by
  rw[List.mapM_cons];refine(a ρ (aU.le.refl _) x (by simp)).bindM (λσ e f h b=>?_);cases b;refine(Ng g l (λd i k j=>a d (h.trans i) k (by simp[j]))).bindM (λd e f _ b=>?_);cases b;exact .aC Y
def RD{α a:Type}(g:α->Wu a)(l:Array α)(h:∀ σ,ρ.le σ->∀x∈l.toList,an P P' (iX (α:=a)) σ (g x) (g x)):an P P' (iX (α:=Array a)) ρ (l.mapM g) (l.mapM g):=by
 rw[Array.mapM_eq_mapM_toList];exact an.bind (A:=iX (α:=List a)) (Ng g l.toList h) (λσ c d _ b=>by cases b;exact .pure Y)
def PK(L:Alike G P P')(t:Uh){ps n:Array (Nat×U)}(h:ia ρ ps.toList n.toList):an P P' ax ρ (Instr.build t ps) (Instr.build t n):=by
 unfold Instr.build;refine(jL L.S t).bindM (λy C D r i=>?_);refine(aV L.S t).bindM (λp w B l u=>?_);obtain⟨rfl,-⟩:=u;have m:=h.mono (r.trans l);have i:=i.cells.mono l;cases w with
 |struct k=>
  have s:an P P' (iX (α:=Array (Nat×Nat))) p (k.mapM λf=>do pure (f.offset,<-sizeOf f.type)) (k.mapM λf=>do pure (f.offset,<-sizeOf f.type)):=
   RD _ _ (λy _ o _=>(cZ L.S _).bindM (λp c j _ e=>by cases e;exact .aC Y))
  refine s.bindM (λz c j g e=>?_);cases e;rcases C3 (c[·]?) (m.mono g) (i.mono g) with⟨a,b⟩|⟨o,x,a,b,d⟩
  ·rw[a,b];exact an.stuck
  ·rw[a,b];exact .aC (.agg d.1 d.2)
 |array A q=>
  refine(cZ L.S q).bindM (λz c j g e=>?_);cases e;rcases C3 (λv=>I (v*c,c)) (m.mono g) (i.mono g) with⟨a,b⟩|⟨o,x,a,b,d⟩
  ·rw[a,b];exact an.stuck
  ·rw[a,b];exact .aC (.agg d.1 d.2)
 |_=>exact an.stuck
def Cn(L:Alike G P P')(t:Uh)(n:Nat){ps m:Array (Nat×U)}(h:ia ρ ps.toList m.toList):an P P' ax ρ (XO t n ps) (XO t n m):=by
 unfold XO;refine(aV L.S t).bindM (λq y A u x=>?_);obtain⟨rfl,-⟩:=x;cases y with
 |slice b=>
  refine(cZ L.S b).bindM (λz a o v s=>?_);cases s;have w:=h.mono (u.trans v);dsimp only;have p:∀{f:aU G} {d e:Array U},z.le f->bg f d e->an P P' ax f (match X7 (λc=>I (c*a,a)) ((Yp (n*a)).map (d[· % d.size]!)) ps.toList with|some g=>do pure (.slice (I (<-newRow b g)) n n)|_=>stuck "buildSlice: a part of the wrong size") (match X7 (λc=>I (c*a,a)) ((Yp (n*a)).map (e[· % e.size]!)) m.toList with|some g=>do pure (.slice (I (<-newRow b g)) n n)|_=>stuck "buildSlice: a part of the wrong size"):=by
   intro f d e k l;rcases C3 (λc=>I (c*a,a)) (w.mono k) (lX l (n*a)) with⟨i,j⟩|⟨B,C,i,j,r⟩
   ·rw[i,j];exact an.stuck
   ·rw[i,j];exact(qh b r).bindM (λq a o _ h=>.aC (.sl h _ _))
  split
  ·exact an.dA
  ·split
   ·exact p (aU.le.refl _) (bg.nil _)
   ·exact(jL L.S b).bindM (λq a o k l=>p k l.cells)
 |_=>exact an.stuck
def wO(L:Alike G P P')(t:Uh){v a:U}(h:ax ρ v a):an P P' ax ρ (Instr.makeInterface t v) (Instr.makeInterface t a):=by
 unfold Instr.makeInterface;refine(aV L.S t).bindM (λf d e b c=>?_);obtain⟨rfl,-⟩:=c
 split
 ·exact an.stuck
 ·exact .aC (.iface t (h.mono b))
def Kc(L:Alike G P P')(t:Uh){o o':Option U}(h:ep ρ o o'):an P P' ax ρ (Instr.makeMap t o) (Instr.makeMap t o'):=by
 unfold Instr.makeMap;have a:∀{g:aU G},an P P' ax g (do pure (.map (I (<-newObj (.map #[] 0))))) (do pure (.map (I (<-newObj (.map #[] 0))))):=.new (.map Y (λn b=>by simp at b) 0) (λq r d=>.pure (.map (aU.xk _ _ _ d)));cases h using ep.ind with
 |none=>exact a
 |some h=>
  refine(aV L.S t).bindM (λi f s c e=>?_);obtain⟨rfl,-⟩:=e;cases f with
  |map p l=>exact(oF (h.mono c)).bindM (λi j k _ m=>a)
  |_=>exact an.stuck
def PL(L:Alike G P P')(t:Uh){v a:U}(h:ax ρ v a)(i:Nat):an P P' ax ρ (Instr.field t v i) (Instr.field t a i):=by
 unfold Instr.field;refine(aV L.S t).bindM (λl j k c d=>?_);obtain⟨rfl,-⟩:=d;cases j with
 |struct b=>
  dsimp only;cases b[i]? with
  |none=>exact an.stuck
  |some f=>
   have h:=h.mono c;cases h using ax.ind with
   |agg e g=>exact lI L.S _ ⟨e,g⟩ _
   |_=>exact an.stuck
 |_=>exact an.stuck
def PO(L:Alike G P P')(t:Uh){v d i c:U}(h:ax ρ v d)(g:ax ρ i c):an P P' ax ρ (Instr.index t v i) (Instr.index t d c):=by
 unfold Instr.index;refine(qR g).bindM (λx b e j a=>?_);cases a;obtain⟨q,u⟩:=b;refine(aV L.S t).bindM (λy p w k m=>?_);obtain⟨rfl,-⟩:=m;have h:=h.mono (j.trans k);cases p with
 |array r f=>
  cases h using ax.ind with
  |agg n o=>
   dsimp only
   split
   ·exact(cZ L.S f).bindM (λz b e l a=>by cases a;exact lI L.S _ (bg.mono l ⟨n,o⟩) _)
   ·exact oe L.S _ _ _ _
  |_=>exact an.stuck
 |string=>
  cases h using ax.ind with
  |string s=>
   dsimp only
   split
   ·exact .aC (.int _ _)
   ·exact oe L.S _ _ _ _
  |_=>exact an.stuck
 |_=>cases h using ax.ind<;>exact an.stuck
def J8{v c:U}(h:ax ρ v c)(i:Nat):an P P' ax ρ (Instr.extract v i) (Instr.extract c i):=by
 cases h using ax.ind with
 |tuple e f=>
  simp only[Instr.extract];rcases bg.get ⟨e,f⟩ i with⟨a,b⟩|⟨v,c,a,b,d⟩
  ·rw[a,b];exact an.stuck
  ·rw[a,b];exact .aC d
 |_=>exact an.stuck
def PT(a:UnOp){v b:U}(h:ax ρ v b):an P P' ax ρ (Op.unary a v) (Op.unary a b):=by
 cases h using ax.ind<;>cases a<;>simp only[Op.unary,Op.intArith,Op.intBits]<;>first|exact an.stuck|exact an.dA|exact .aC (.int _ _)|exact .aC (.bool _)
end
end
section
variable {G:mj}
section
variable {P P':Uf}{ρ:aU G}
def r7{a a' b b':UJ}(e:cN ρ a a')(f:cN ρ b b'):(a.block==b.block)=(a'.block==b'.block):=by
 rw[XF];simp only[beq_iff_eq];constructor
 ·intro c;have d:=e.1;rw[c,f.1] at d;exact(Yk d).symm
 ·intro c;exact ρ.inj _ _ _ e.1 (by rw[c];exact f.1)
def addr_eq{a a' b b':UJ}(f:cN ρ a a')(g:cN ρ b b'):(a==b)=(a'==b'):=by
 have c:=r7 f g;have d:=f.2;have e:=g.2;obtain⟨h,i,j⟩:=a;obtain⟨k,l,m⟩:=a';obtain⟨n,o,p⟩:=b;obtain⟨u1,u2,u3⟩:=b';simp only at c d e;obtain⟨rfl,rfl⟩:=d;obtain⟨rfl,rfl⟩:=e;rw[XF] at c ⊢;simp only[beq_iff_eq] at c;simp only[beq_iff_eq,Wh,c]
def qg{a a':UJ}(h:cN ρ a a'):an P P' (iX (α:=Bool)) ρ (frozen a) (frozen a'):=.frozen h (λb=>.pure Y)
def oH{r r':Nat}(h:ρ.f r=I r'):an P P' (iX (α:=Option (Uh×Nat))) ρ (shape r) (shape r'):=.shape h (λa=>.pure Y)
def vQ{a a':UJ}(h:cN ρ a a'):an P P' (iX (α:=Bool)) ρ (stringish a) (stringish a'):=by
 unfold stringish;refine(qg h).bindM (λi d f c b=>?_);cases b
 split
 ·exact .aC Y
 ·refine(oH (c _ _ h.1)).bindM (λj d f e b=>?_);cases b;cases d with
  |none=>exact .aC Y
  |some g=>exact qg ⟨e _ _ (c _ _ h.1),rfl,rfl⟩
def Gp{a a' b b':UJ}(h:cN ρ a a')(g:cN ρ b b'):an P P' (iX (α:=Bool)) ρ (mayBeOne a b) (mayBeOne a' b'):=by
 unfold mayBeOne;have k:∀{f:aU G} {d l:UJ},cN f d l->an P P' (iX (α:=Bool)) f (do pure ((<-shape d.block) matches I (_,0))) (do pure ((<-shape l.block) matches I (_,0))):=λn=>(oH n.1).bindM (λq d m _ c=>by cases c;exact .aC Y);refine(vQ h).bindM (λf d m e c=>?_);cases c;refine(vQ (g.mono e)).bindM (λq m s i c=>?_);cases c;refine(k (h.mono (e.trans i))).bindM (λr o p j c=>?_);cases c;refine(k (g.mono (e.trans (i.trans j)))).bindM (λr o p j c=>?_);cases c;exact .aC Y
def yV{a a' b b':UJ}(h:cN ρ a a')(d:cN ρ b b'):an P P' (iX (α:=Bool)) ρ (sameAddr a b) (sameAddr a' b'):=by
 unfold sameAddr;rw[r7 h d,addr_eq h d]
 split
 ·exact .aC Y
 ·refine(qg h).bindM (λr p m e c=>?_);cases c;refine(qg (d.mono e)).bindM (λs m q f c=>?_);cases c
  split
  ·exact an.dA
  ·refine(yT (h.mono (e.trans f))).bindM (λt j k g c=>?_);refine(yT (d.mono (e.trans (f.trans g)))).bindM (λu j k l c=>?_);have i:=e.trans (f.trans (g.trans l));refine(Gp (h.mono i) (d.mono i)).bindM (λv j k n c=>?_);cases c
   split
   ·exact qd _ (λo=>.aC Y)
   ·exact .aC Y
theorem tv{α a:Type}{f f':α->a->Wu (ForInStep a)}:∀(l:List α) {ρ:aU G} (b:a),(∀ σ,ρ.le σ->∀x∈l,∀b,an P P' (iX (α:=ForInStep a)) σ (f x b) (f' x b))->an P P' (iX (α:=a)) ρ (forIn l b f) (forIn l b f')
 | [],ρ,b,c=>by simp only[List.forIn_nil];exact .aC Y
 |x::l,ρ,b,c=>by
  simp only[List.forIn_cons];refine(c ρ (aU.le.refl _) x (by simp) b).bindM (λσ d m h g=>?_);cases g;cases d with
  |done b=>exact .aC Y
  |yield b=>exact tv l b (λk i d j e=>c k (h.trans i) d (by simp[j]) e)
def Gm{α a:Type}{f f':α->a->Wu (ForInStep a)}(l:Array α)(b:a)(h:∀ σ,ρ.le σ->∀x∈l.toList,∀b,an P P' (iX (α:=ForInStep a)) σ (f x b) (f' x b)):an P P' (iX (α:=a)) ρ (forIn l b f) (forIn l b f'):=by
 rw[<-Array.forIn_toList,<-Array.forIn_toList];exact tv _ _ h
def fI{α c γ a:Type}{B:aU G->γ->a->Prop}{u:Unsupported}{f:α->Wu γ}{f':c->Wu a}(b:pO (.unsupported u)=Z:=by rfl):an P P' B ρ (unsupported u >>= f) (unsupported u >>= f'):=.halt (.same _ b)
def Kg(L:Alike G P P')(t:Uh):an P P' (iX (α:=String)) ρ (typeStr t) (typeStr t):=by
 unfold typeStr;refine(fR L.S t).bindM (λd b c _ a=>?_);obtain⟨rfl,-⟩:=a;dsimp only
 split
 ·exact an.dA
 ·exact .aC Y
def yU{r r':Nat}(h:ρ.f r=I r'):an P P' (λσ (x y:Option (UJ×Bool))=>(x=K/\y=K)\/∃a a' l,x=I (a,l)/\y=I (a',l)/\cN σ a a') ρ (numberAt r) (numberAt r'):=by
 unfold numberAt;refine(oH h).bindM (λσ a i e d=>?_);cases d
 split
 ·exact .aC (.inl ⟨rfl,rfl⟩)
 ·refine an.bindM (A:=dK) (.getObj (e _ _ h) (λf g b=>.pure b)) (λk f g j b=>?_);cases b using dK.ind with
  |number c l=>exact .aC (.inr ⟨_,_,_,rfl,rfl,c⟩)
  |_=>exact .aC (.inl ⟨rfl,rfl⟩)
def jY{a a':UJ}(h:cN ρ a a'):an P P' (λσ (x y:UJ×Bool)=>cN σ x.1 y.1/\x.2=y.2) ρ (WA a) (WA a'):=by
 unfold WA;refine(yU h.1).bindM (λσ x y d b=>?_);rcases b with⟨rfl,rfl⟩|⟨e,f,g,rfl,rfl,c⟩
 ·exact .aC ⟨h.mono d,rfl⟩
 ·exact .aC ⟨c,rfl⟩
theorem qS(L:Alike G P P'):∀(d:Nat) {ρ:aU G} (t:Uh) {x u y w:U},ax ρ x u->ax ρ y w->an P P' (iX (α:=Bool)) ρ (Op.equalIn d t x y) (Op.equalIn d t u w)
 |0,ρ,t,x,u,y,w,c,a=>by unfold Op.equalIn;exact an.dA
 |d+1,ρ,t,x,u,y,w,c,a=>by
  unfold Op.equalIn;refine(aV L.S t).bindM (λaa V ar H I=>?_);obtain⟨rfl,I⟩:=I;have c:=c.mono H;have a:=a.mono H;cases V with
  |struct N=>
   cases c using ax.ind with
   |agg k o=>
    cases a using ax.ind with
    |agg B C=>
     dsimp only;refine .asks ?_;rw[L.IG]
     split
     ·exact fI
     ·refine an.bindM (A:=iX) (Gm N _ (λp e f _ h=>?_)) (λp g h e b=>?_)
      ·split
       ·refine(lI L.S f.type (bg.mono e ⟨k,o⟩) _).bindM (λz v W q s=>?_);refine(lI L.S f.type (bg.mono (e.trans q) ⟨B,C⟩) _).bindM (λA X Z i D=>?_);refine(qS L d f.type (s.mono i) D).bindM (λab g h _ b=>?_);cases b
        split<;>exact .aC Y
       ·exact .aC Y
      ·cases b
       split<;>exact .aC Y
    |_=>exact an.stuck
   |_=>cases a using ax.ind<;>exact an.stuck
  |array ao j=>
   cases c using ax.ind with
   |agg k o=>
    cases a using ax.ind with
    |agg B C=>
     dsimp only;refine(cZ L.S j).bindM (λp r T e b=>?_);cases b;rw[Vx,Vx];refine an.bindM (A:=iX) (tv _ _ (λz q al _ h=>?_)) (λp g h e b=>?_)
     ·refine(lI L.S j (bg.mono (e.trans q) ⟨k,o⟩) _).bindM (λz v W i s=>?_);refine(lI L.S j (bg.mono (e.trans (q.trans i)) ⟨B,C⟩) _).bindM (λA X Z i D=>?_);refine(qS L d j (s.mono i) D).bindM (λab g h _ b=>?_);cases b
      split<;>exact .aC Y
     ·cases b
      split<;>exact .aC Y
    |_=>exact an.stuck
   |_=>cases a using ax.ind<;>exact an.stuck
  |interface ap=>
   cases c using ax.ind with
   |nilIface=>cases a using ax.ind<;>first|exact an.stuck|exact .aC Y
   |iface F s=>
    cases a using ax.ind with
    |nilIface=>exact .aC Y
    |iface aq R=>
     dsimp only
     split
     ·exact .aC Y
     ·refine(fR L.S F).bindM (λp g h e b=>?_);obtain⟨rfl,-⟩:=b
      split
      ·refine .asks ?_;refine .asks ?_;rw[L.M2,L.depth]
       split
       ·exact fI
       ·exact(Kg L F).bindM (λp g h _ b=>by cases b;exact eF L.S _ (by simp) (by simp) (by simp))
      ·exact qS L d F (s.mono e) (R.mono e)
    |_=>exact an.stuck
   |_=>cases a using ax.ind<;>exact an.stuck
  |pointer j=>
   cases c using ax.ind with
   |de=>cases a using ax.ind<;>first|exact an.stuck|exact .aC Y
   |ptr l=>
    cases a using ax.ind with
    |de=>exact .aC Y
    |ptr n=>
     dsimp only;refine(cZ L.S j).bindM (λp r T e b=>?_);cases b;rw[addr_eq l n]
     split
     ·exact yV (l.mono e) (n.mono e)
     ·split
      ·exact .aC Y
      ·exact qd _ (λr=>.aC Y)
    |_=>exact an.stuck
   |_=>cases a using ax.ind<;>exact an.stuck
  |unsafePointer=>
   cases c using ax.ind with
   |de=>cases a using ax.ind<;>first|exact an.stuck|exact .aC Y
   |ptr l=>
    cases a using ax.ind with
    |de=>exact .aC Y
    |ptr n=>exact yV l n
    |_=>exact an.stuck
   |_=>cases a using ax.ind<;>exact an.stuck
  |chan ad j=>
   cases c using ax.ind with
   |iM=>cases a using ax.ind<;>first|exact an.stuck|exact .aC Y
   |chan l=>
    cases a using ax.ind with
    |iM=>exact .aC Y
    |chan n=>
     refine .aC ?_;have:=r7 (ρ:=aa) (a:=⟨_,0,K⟩) (a':=⟨_,0,K⟩) (b:=⟨_,0,K⟩) (b':=⟨_,0,K⟩) ⟨l,rfl,rfl⟩ ⟨n,rfl,rfl⟩;simpa [iX] using this
    |_=>exact an.stuck
   |_=>cases a using ax.ind<;>exact an.stuck
  |int E=>
   cases c using ax.ind with
   |int S g=>
    rcases g with(_|r)|r
    all_goals
     cases a using ax.ind with
     |int am h=>
      rcases h with(_|m)|m
      all_goals
       dsimp only
       split
       ·exact .aC Y
       ·exact an.stuck
     |ptr ae=>first|exact .aC Y|exact an.dA
     |de=>exact an.dA
     |_=>exact an.stuck
   |de=>cases a using ax.ind<;>exact an.dA
   |ptr l=>
    cases a using ax.ind with
    |ptr n=>
     dsimp only;refine(jY l).bindM (λp g h e b=>?_);refine(jY (n.mono e)).bindM (λz J M q O=>?_);have k:=b.1.mono q;have o:=O.1;refine .asks ?_;rw[r7 k o,L.yp,L.Mm];have Q:decide (g.1.block<G.g)=decide (h.1.block<G.g):=by
      rw[decide_eq_decide];exact z.OV _ _ k.1
     rw[Q]
     split
     ·refine(mO L k).bindM (λA x y i b=>?_);cases b;refine(mO L (o.mono i)).bindM (λA x y i b=>?_);cases b;exact .aC Y
     ·refine(fR L.S t).bindM (λA x y i b=>?_);obtain⟨rfl,-⟩:=b;rw[addr_eq k o]
      (repeat' split)<;>first|exact an.dA|exact .aC Y
    |int S g=>
     rcases g with(_|r)|r
     ·exact .aC Y
     ·exact an.dA
     ·exact an.dA
    |_=>exact an.dA
   |_=>cases a using ax.ind<;>first|exact an.stuck|exact an.dA
  |slice j=>cases c using ax.ind<;>first|exact an.stuck|(cases a using ax.ind<;>first|exact an.stuck|exact .aC Y)
  |map E M=>cases c using ax.ind<;>first|exact an.stuck|(cases a using ax.ind<;>first|exact an.stuck|exact .aC Y)
  |func g h J=>cases c using ax.ind<;>first|exact an.stuck|(cases a using ax.ind<;>first|exact an.stuck|exact .aC Y)
  |bool=>cases c using ax.ind<;>first|exact an.stuck|(cases a using ax.ind<;>first|exact an.stuck|exact .aC Y)
  |string=>cases c using ax.ind<;>first|exact an.stuck|(cases a using ax.ind<;>first|exact an.stuck|exact .aC Y)
  |float E=>cases c using ax.ind<;>first|exact an.stuck|(cases a<;>first|exact an.stuck|(dsimp only;split<;>first|exact .aC Y|exact an.stuck))
  |complex E=>cases c using ax.ind<;>first|exact an.stuck|(cases a<;>first|exact an.stuck|(dsimp only;split<;>first|exact .aC Y|exact an.stuck))
  |_=>cases c using ax.ind<;>first|exact an.stuck|(cases a<;>exact an.stuck)
end
end
section
variable {G:mj}
section
variable {P P':Uf}{ρ:aU G}
def Co(L:Alike G P P')(t:Uh){x a y b:U}(c:ax ρ x a)(d:ax ρ y b):an P P' (iX (α:=Bool)) ρ (Op.equal t x y) (Op.equal t a b):=qS L _ t c d
theorem qf(L:Alike G P P'):∀(d:Nat) {ρ:aU G} (t:Uh) {x k y l:U},ax ρ x k->ax ρ y l->an P P' (iX (α:=Bool)) ρ (Op.eqGuardIn d t x y) (Op.eqGuardIn d t k l)
 |0,ρ,t,x,k,y,l,e,b=>by unfold Op.eqGuardIn;exact an.dA
 |d+1,ρ,t,x,k,y,l,e,b=>by
  unfold Op.eqGuardIn;refine(aV L.S t).bindM (λR C Q w z=>?_);obtain⟨rfl,z⟩:=z;have e:=e.mono w;have b:=b.mono w;cases C with
  |struct B=>
   cases e using ax.ind with
   |agg n o=>
    cases b using ax.ind with
    |agg p q=>
     dsimp only;refine an.bindM (A:=iX) (Gm B _ (λu c f _ g=>?_)) (λu m g c a=>?_)
     ·split
      ·refine(lI L.S f.type (bg.mono c ⟨n,o⟩) _).bindM (λA v D j r=>?_);refine(lI L.S f.type (bg.mono (c.trans j) ⟨p,q⟩) _).bindM (λH E F h s=>?_);refine(qf L d f.type (r.mono h) s).bindM (λI m g _ a=>?_);cases a
       split<;>exact .aC Y
      ·exact .aC Y
     ·cases a
      split<;>exact .aC Y
    |_=>exact .aC Y
   |_=>cases b using ax.ind<;>exact .aC Y
  |array K i=>
   cases e using ax.ind with
   |agg n o=>
    cases b using ax.ind with
    |agg p q=>
     dsimp only;refine(cZ L.S i).bindM (λu N O c a=>?_);cases a;rw[Vx,Vx];refine an.bindM (A:=iX) (tv _ _ (λA j J _ g=>?_)) (λu m g c a=>?_)
     ·refine(lI L.S i (bg.mono (c.trans j) ⟨n,o⟩) _).bindM (λA v D h r=>?_);refine(lI L.S i (bg.mono (c.trans (j.trans h)) ⟨p,q⟩) _).bindM (λH E F h s=>?_);refine(qf L d i (r.mono h) s).bindM (λI m g _ a=>?_);cases a
      split<;>exact .aC Y
     ·cases a
      split<;>exact .aC Y
    |_=>exact .aC Y
   |_=>cases b using ax.ind<;>exact .aC Y
  |interface M=>cases e using ax.ind<;>first|exact .aC Y|(cases b using ax.ind<;>exact .aC Y)
  |_=>cases e using ax.ind<;>first|exact .aC Y|(cases b<;>exact .aC Y)
def J7(L:Alike G P P')(f:Yx)(t:Uh)(x y:U6){a a' b b':U}(e:ax ρ a a')(c:ax ρ b b'):an P P' (iX (α:=Unit)) ρ (eqGuard f t x y a b) (eqGuard f t x y a' b'):=by
 have h:∀{d:aU G} {s:String} {a a' b b':U},ax d a a'->ax d b b'->an P P' (iX (α:=Unit)) d (do if <-Op.eqGuardIn Op.maxDepth t a b then unsupported (.noEntry s)) (do if <-Op.eqGuardIn Op.maxDepth t a' b' then unsupported (.noEntry s)):=λe c=>
  (qf L _ t e c).bindM (λd a b _ n=>by
    cases n
    split
    ·exact an.dA
    ·exact .aC Y)
 have i:an P P' (iX (α:=Unit)) ρ (eqGuard .eql t x y a b) (eqGuard .eql t x y a' b'):=by
  unfold eqGuard;cases e using ax.ind with
  |nilIface=>
   cases c using ax.ind with
   |nilIface=>cases x<;>cases y<;>first|exact an.aC (A:=iX (α:=Unit)) Y|exact h .nilIface .nilIface
   |_=>exact an.aC (A:=iX (α:=Unit)) Y
  |agg j k=>
   cases c using ax.ind with
   |agg l m=>
    refine an.asks (k:=λg=>_) (k':=λg=>_) ?_;refine an.asks (k:=λg=>_) (k':=λg=>_) ?_;rw[L.SQ,L.depth]
    split
    ·exact .aC Y
    ·exact h (.agg j k) (.agg l m)
   |_=>exact an.aC (A:=iX (α:=Unit)) Y
  |_=>cases c using ax.ind<;>exact an.aC (A:=iX (α:=Unit)) Y
 cases f<;>first|exact an.aC (A:=iX (α:=Unit)) rfl|exact i
def nA(L:Alike G P P')(e:Array Uh)(t:Uh){x f:U}(k:Wx)(n:Int)(i:ax ρ x f):an P P' ax ρ (Xn e t #[x,.int k n]) (Xn e t #[f,.int k n]):=by
 unfold Xn;cases i using ax.ind with
 |de=>
  dsimp only;refine(oF (.int k n)).bindM (λl g h c a=>?_);cases a
  split
  ·exact an.dA
  ·split<;>exact an.dA
 |ptr b=>
  dsimp only;refine(oF (.int k n)).bindM (λl g h c a=>?_);cases a
  split
  ·refine(Er (c _ _ b.1)).bindM (λm x j d a=>?_);obtain⟨rfl,rfl⟩:=a;exact .aC (.ptr (b.mono (c.trans d)))
  ·split
   ·exact an.dA
   ·refine(oH (c _ _ b.1)).bindM (λm x j d a=>?_);cases a;cases x with
    |none=>exact an.dA
    |some o=>
     dsimp only;refine .asks ?_;rw[L.cells,L.cellAt,L.depth,<-b.2.1]
     split
     ·exact .aC (.ptr ⟨(c.trans d) _ _ b.1,rfl,b.2.2⟩)
     ·exact an.dA
 |_=>exact an.stuck
def jn(L:Alike G P P')(t:Uh){o o':Option UJ}(k:Wx)(n:Int)(d:ax ρ (.pointer o) (.pointer o')):an P P' ax ρ (movedNumber t (.pointer o) (.int k n)) (movedNumber t (.pointer o') (.int k n)):=by
 unfold movedNumber;refine(aV L.S t).bindM (λj i y q h=>?_);obtain⟨rfl,h⟩:=h;have d:=d.mono q;cases d using ax.ind with
 |ptr m=>
  rename_i f l;have e:an P P' ax j (WA f >>= λa=>Xn #[] t #[.pointer (I a.1),.int k n] >>= λc=>match c with| .pointer (I b)=>asNumber b a.2|v=>pure v) (WA l >>= λa=>Xn #[] t #[.pointer (I a.1),.int k n] >>= λc=>match c with| .pointer (I b)=>asNumber b a.2|v=>pure v):=by
   refine(jY m).bindM (λA f b u g=>?_);refine(nA L _ _ k n (.ptr g.1)).bindM (λB v z w s=>?_);rw[g.2];cases s using ax.ind with
   |ptr p=>exact .new (.number p _) (λc x r=>.pure (.ptr ⟨aU.xk _ _ _ r,rfl,rfl⟩))
   |_=>exact .aC (by first|exact .bool _|exact .int _ _|exact .string _|exact .de|exact .ptr ‹_› |exact .jV _ _|exact .sl ‹_› _ _|exact .kE|exact .map ‹_› |exact .iM|exact .chan ‹_› |exact .nilFunc|exact .nilIface|exact .iface _ ‹_› |exact .agg ‹_› ‹_› |exact .tuple ‹_› ‹_› |exact .func ‹_› ‹_› ‹_› ‹_› ‹_›)
  cases i<;>first|exact fI|exact e
 |de=>
  have e:=nA L (ρ:=j) #[] t k n .de;cases i<;>first|exact fI|exact e
def yS(L:Alike G P P')(t:Uh){o o':Option UJ}(k:Wx)(n:Int)(d:ax ρ (.pointer o) (.pointer o')):an P P' ax ρ (movedPointer t (.pointer o) (.int k n)) (movedPointer t (.pointer o') (.int k n)):=by
 unfold movedPointer;cases d using ax.ind with
 |de=>exact nA L _ _ k n .de
 |ptr a=>
  refine(yU a.1).bindM (λl i j c b=>?_);rcases b with⟨rfl,rfl⟩|⟨e,f,h,rfl,rfl,g⟩
  ·exact nA L #[] t k n (.ptr (a.mono c))
  ·exact fI
def vR(L:Alike G P P'){a a' b b':UJ}(c:cN ρ a a')(e:cN ρ b b'):an P P' (iX (α:=Nat×Nat)) ρ (Op.twoPlaces a b) (Op.twoPlaces a' b'):=by
 unfold Op.twoPlaces;refine .asks ?_;have g:decide (a.block>=G.g)=decide (a'.block>=G.g):=by
  rw[decide_eq_decide];have:=ρ.OV _ _ c.1;omega
 have h:(a.block !=b.block)=(a'.block !=b'.block):=by
  have:=r7 c e;simp only[bne,this]
 rw[L.yp,L.Mm,h,g]
 split
 ·exact fI
 ·refine(mO L c).bindM (λk i j f d=>?_);cases d;refine(mO L (e.mono f)).bindM (λk i j f d=>?_);cases d;exact .aC Y
def A3(L:Alike G P P')(k:Wx){a a':UJ}(n:Int)(d:cN ρ a a'):an P P' ax ρ (Op.addrMod k a n) (Op.addrMod k a' n):=by
 unfold Op.addrMod;refine(oH d.1).bindM (λh c f e b=>?_);cases b;cases c with
 |none=>exact an.dA
 |some i=>
  refine(fR L.S _).bindM (λj c f g b=>?_);obtain⟨rfl,-⟩:=b;dsimp only
  split
  ·exact fI
  ·refine(mO L (d.mono (e.trans g))).bindM (λh c f e b=>?_);cases b;exact .aC (.int _ _)
def Gn(c:Yx)(k:Wx)(a b:Int):an P P' (ax (ρ:=·)) ρ (Op.intArith c k a b) (Op.intArith c k a b):=by
 cases c<;>first|exact .aC (.int _ _)|exact an.stuck
def Kb(c:Yx)(k:Wx)(a b:Int):an P P' (ax (ρ:=·)) ρ (Op.intBits c k a b) (Op.intBits c k a b):=by
 cases c<;>first|exact .aC (.int _ _)|exact an.stuck
def Nb(c:Yx)(a b:Int):an P P' (ax (ρ:=·)) ρ (Op.intCmp c a b) (Op.intCmp c a b):=by
 cases c<;>first|exact .aC (.bool _)|exact an.stuck
def Nc(L:Alike G P P')(c:Yx)(k:Wx)(a b:Int):an P P' (ax (ρ:=·)) ρ (Op.intDiv c k a b) (Op.intDiv c k a b):=by
 unfold Op.intDiv
 split
 ·exact eF L.S _ (by simp) (by simp) (by simp)
 ·cases c<;>first|exact .aC (.int _ _)|exact an.stuck
def PR(L:Alike G P P')(c:Yx)(k:Wx)(a:Int)(d:Wx)(b:Int):an P P' (ax (ρ:=·)) ρ (Op.shift c k a d b) (Op.shift c k a d b):=by
 unfold Op.shift
 split
 ·exact eF L.S _ (by simp) (by simp) (by simp)
 ·cases c<;>first|exact .aC (.int _ _)|exact an.stuck
def Gs(c:Yx)(a b:ByteArray):an P P' (ax (ρ:=·)) ρ (Op.stringOp c a b) (Op.stringOp c a b):=by
 cases c
 all_goals
  unfold Op.stringOp;dsimp only
  first
  |exact .aC (.bool _)
  |exact an.stuck
  |(split
    ·exact an.dA
    ·exact .aC (.string _))
def RB(L:Alike G P P')(c:Yx)(t:Uh)(k:Wx)(a:Int)(d:Wx)(b:Int):an P P' (ax (ρ:=·)) ρ (binOp c t (.int k a) (.int d b)) (binOp c t (.int k a) (.int d b)):=by
 cases c
 all_goals
  unfold binOp;dsimp only
  first
  |exact PR L _ _ _ _ _
  |(split
    ·exact an.stuck
    ·first|exact Gn _ _ _ _|exact Nc L _ _ _ _|exact Kb _ _ _ _|exact Nb _ _ _)
def PJ(L:Alike G P P')(c:Yx)(t:Uh){x l y m:U}(p:ax ρ x l)(k:ax ρ y m):an P P' ax ρ (binOp c t x y) (binOp c t l m):=by
 have f:∀{x l y m:U},ax ρ x l->ax ρ y m->an P P' ax ρ (do pure (.bool (<-Op.equal t x y))) (do pure (.bool (<-Op.equal t l m))):=λp k=>(Co L t p k).bindM (λq h i _ j=>by cases j;exact .aC (.bool _));have g:∀{x l y m:U},ax ρ x l->ax ρ y m->an P P' ax ρ (do pure (.bool (!(<-Op.equal t x y)))) (do pure (.bool (!(<-Op.equal t l m)))):=λp k=>(Co L t p k).bindM (λq h i _ j=>by cases j;exact .aC (.bool _));have a:=p;have b:=k;have B:∀{w z:Option UJ} (d:Wx) (o:Int),ax ρ (.pointer w) (.pointer z)->an P P' ax ρ (do if (<-Xq t) matches .unsafePointer then movedPointer t (.pointer w) (.int d o) else movedNumber t (.pointer w) (.int d o)) (do if (<-Xq t) matches .unsafePointer then movedPointer t (.pointer z) (.int d o) else movedNumber t (.pointer z) (.int d o)):=λd o e=>by
  refine(aV L.S t).bindM (λq K O n H=>?_);obtain⟨rfl,-⟩:=H;have e:=e.mono n;cases K<;>first|exact yS L t d o e|exact jn L t d o e
 cases p using ax.ind with
 |int d h=>
  cases k using ax.ind with
  |int I i=>exact RB L c t d h I i
  |ptr e=>
   cases c<;>first
    |exact f (.int d h) (.ptr e)
    |exact g (.int d h) (.ptr e)
    |exact jn L t d h (.ptr e)
    |exact(jY e).bindM (λq h i n j=>A3 L _ _ j.1)
    |exact an.dA
  |de=>
   cases c<;>first
    |exact f (.int d h) .de
    |exact g (.int d h) .de
    |exact jn L t d h .de
    |exact an.dA
  |_=>cases c<;>first|exact f a b|exact g a b|exact an.stuck
 |string s=>
  cases k using ax.ind with
  |string J=>cases c<;>(unfold binOp;exact Gs _ s J)
  |ptr e=>cases c<;>first|exact f a b|exact g a b|exact an.dA
  |de=>cases c<;>first|exact f a b|exact g a b|exact an.dA
  |_=>cases c<;>first|exact f a b|exact g a b|exact an.stuck
 |ptr e=>
  cases k using ax.ind with
  |int d i=>
   cases c<;>first
    |exact f a b
    |exact g a b
    |exact B d i a
    |exact jn L t d (-i) a
    |exact(jY e).bindM (λq h i n j=>A3 L _ _ j.1)
    |exact an.dA
  |ptr A=>
   have F:an P P' ax ρ (do Op.addrSub .u64 (<-WA _).1 (<-WA _).1) (do Op.addrSub .u64 (<-WA _).1 (<-WA _).1):=
    (jY e).bindM (λq h i n j=>(jY (A.mono n)).bindM (λM C D u r=>(vR L (j.1.mono u) r.1).bindM (λN x y _ v=>by cases v;exact .aC (.int _ _))))
   have E:∀c,an P P' ax ρ (do Op.addrCmp c (<-WA _).1 (<-WA _).1) (do Op.addrCmp c (<-WA _).1 (<-WA _).1):=λc=>
    (jY e).bindM (λq h i n j=>(jY (A.mono n)).bindM (λM C D u r=>(vR L (j.1.mono u) r.1).bindM (λN x y _ v=>by cases v;cases c<;>first|exact .aC (.bool _)|exact an.dA)))
   cases c<;>first
    |exact f a b
    |exact g a b
    |exact F
    |exact E _
    |exact an.dA
  |_=>cases c<;>first|exact f a b|exact g a b|exact an.dA
 |de=>
  cases k using ax.ind with
  |int d i=>
   cases c<;>first
    |exact f a b
    |exact g a b
    |exact B d i a
    |exact jn L t d (-i) a
    |exact an.dA
  |_=>cases c<;>first|exact f a b|exact g a b|exact an.dA
 |_=>
  cases k using ax.ind with
  |ptr e=>cases c<;>first|exact f a b|exact g a b|exact an.dA
  |de=>cases c<;>first|exact f a b|exact g a b|exact an.dA
  |_=>cases c<;>first|exact f a b|exact g a b|exact an.stuck
end
end
section
variable {G:mj}
def fD (ρ:aU G)(f:List VP)(g:List VP):Prop:=∀a:List VP->List VP->Prop,(a [] [])->(∀{b c:VP} {d e:List VP} (h:sG ρ b c) (i:a d e),a (b::d) (c::e))->a f g
def fD.nil{ρ:aU G}:fD ρ [] []:=λb a c=>a
def fD.cons{ρ:aU G}{e e':VP}{l b:List VP}(h:sG ρ e e')(f:fD ρ l b):fD ρ (e::l) (e'::b):=λc d a=>a h (f c d a)
def fD.ind{ρ:aU G}{d:∀(a:List VP) (b:List VP),fD ρ a b->Prop}(nil:d _ _ (fD.nil))(cons:∀{e e':VP} {l f:List VP} (h:sG ρ e e') (c:fD ρ l f),(d _ _ c)->d _ _ (fD.cons h c)){a:List VP}{b:List VP}(h:fD ρ a b):d a b h:=(h (λa b=>fD ρ a b/\∀h,d a b h) (⟨fD.nil,λ_=>nil⟩) (λh c=>⟨fD.cons h c.1,λ_=>cons h c.1 (c.2 _)⟩)).2 h
def fD.mono{ρ σ:aU G}(b:ρ.le σ){l a:List VP}(h:fD ρ l a):fD σ l a:=by
 induction h using fD.ind with
 |nil=>exact .nil
 |cons h _ c=>exact .cons (h.mono b) c
theorem DN{ρ:aU G}:∀(l a:List VP),l.length=a.length->(∀i (h:i<l.length) (e:i<a.length),sG ρ l[i] a[i])->fD ρ l a
 | [],[],_,_=>.nil
 | [],_::_,h,_=>by simp at h
 |_::_,[],h,_=>by simp at h
 |v::l,f::a,h,b=>.cons (b 0 (by simp) (by simp)) (DN l a (by simpa using h) (λi c d=>b (i+1) (by simpa using c) (by simpa using d)))
def nR (ρ:aU G)(es b:Array VP):Prop:=es.size=b.size/\∀a (c:a<es.size) (d:a<b.size),sG ρ es[a] b[a]
def nR.mono{ρ σ:aU G}(d:ρ.le σ){l a:Array VP}(h:nR ρ l a):nR σ l a:=⟨h.1,λe b c=>(h.2 e b c).mono d⟩
def nR.toList{ρ:aU G}{es a:Array VP}(h:nR ρ es a):fD ρ es.toList a.toList:=
 DN _ _ (by simpa using h.1) (λd b c=>by simpa using h.2 d (by simpa using b) (by simpa using c))
def plainKey(P:Uf):Nat->Uh->Bool
 |0,_=>Z
 |d+1,c=>match P.underlying c with
  |some (.interface _)=>T7
  |some (.array _ a)=>plainKey P d a
  |some (.struct b)=>b.toList.all λf=>plainKey P d f.type
  |_=>Z
section
variable {P P':Uf}{ρ:aU G}
theorem oG(L:Alike G P P')(j k:Bool):∀(d:Nat) {ρ:aU G} (t:Uh) {v c:U},plainKey P d t=Z->ax ρ v c->an P P' (iX (α:=Unit)) ρ (XT j d t v) (XT k d t c)
 |0,ρ,t,v,c,a,b=>by unfold XT;exact an.dA
 |d+1,ρ,t,v,c,a,b=>by
  unfold XT;refine(aV L.S t).bindM (λJ z I y o=>?_);obtain⟨rfl,o⟩:=o;have b:=b.mono y;unfold plainKey at a;rw[o] at a;cases z with
  |interface E=>simp at a
  |struct u=>
   cases b using ax.ind with
   |agg l m=>
    dsimp only;refine an.bindM (A:=iX) (Gm u _ (λq g f w e=>?_)) (λq h e g n=>.aC Y);have x:plainKey P d f.type=Z:=by
     simp only at a;exact Uz.1 a f w
    split
    ·refine(lI L.S f.type (bg.mono g ⟨l,m⟩) _).bindM (λA v c r p=>?_);exact(oG L j k d f.type x p).bindM (λs h e _ _=>.aC Y)
    ·exact .aC Y
   |_=>exact an.stuck
  |array D i=>
   cases b using ax.ind with
   |agg l m=>
    dsimp only;rw[Vx,Vx];refine an.bindM (A:=iX) (tv _ _ (λq g C _ e=>?_)) (λq h e g n=>.aC Y);refine(cZ L.S i).bindM (λA F H r n=>?_);cases n;refine(lI L.S i (bg.mono (g.trans r) ⟨l,m⟩) _).bindM (λs v c B p=>?_);exact(oG L j k d i (by simpa using a) p).bindM (λs h e _ _=>.aC Y)
   |_=>exact an.stuck
  |_=>cases b using ax.ind<;>exact .aC Y
def kT (ρ:aU G)(d:Option (Nat×U))(e:Option (Nat×U)):Prop:=∀a:Option (Nat×U)->Option (Nat×U)->Prop,(a K K)->(∀(b:Nat) {v c:U} (f:ax ρ v c),a (I (b,v)) (I (b,c)))->a d e
def kT.none{ρ:aU G}:kT ρ K K:=λb a c=>a
def kT.some{ρ:aU G}(i:Nat){v a:U}(h:ax ρ v a):kT ρ (I (i,v)) (I (i,a)):=λc d b=>b i h
def kT.ind{ρ:aU G}{c:∀(a:Option (Nat×U)) (b:Option (Nat×U)),kT ρ a b->Prop}(none:c _ _ (kT.none))(some:∀(i:Nat) {v d:U} (h:ax ρ v d),c _ _ (kT.some i h)){a:Option (Nat×U)}{b:Option (Nat×U)}(h:kT ρ a b):c a b h:=(h (λa b=>kT ρ a b/\∀h,c a b h) (⟨kT.none,λ_=>none⟩) (λi {v} {d} h=>⟨kT.some i h,λ_=>some i h⟩)).2 h
theorem tq(L:Alike G P P')(t:Uh):∀(es c:List VP) {ρ:aU G} {k k':U} (i:Nat),ax ρ k k'->fD ρ es c->an P P' kT ρ (Instr.findAsking t k es i) (Instr.findAsking t k' c i)
 | [],[],ρ,k,k',i,b,a=>.aC .none
 | [],_::_,ρ,k,k',i,b,a=>by cases a using fD.ind
 |_::_,[],ρ,k,k',i,b,a=>by cases a using fD.ind
 |e::es,m::c,ρ,k,k',i,b,a=>by
  cases a using fD.ind with
  |cons f h=>
   unfold Instr.findAsking;refine(Co L t b f.key).bindM (λn j l d g=>?_);cases g
   split
   ·exact .aC (.some _ (f.val.mono d))
   ·exact tq L t es c _ (b.mono d) (h.mono d)
def Nt(d:TypeDesc){x a y b:U}(c:ax ρ x a)(e:ax ρ y b):Instr.sameNow d x y=Instr.sameNow d a b:=by
 cases c using ax.ind<;>cases e using ax.ind<;>first|rfl|(cases d<;>rfl)
theorem DS(d:TypeDesc){k k':U}(f:ax ρ k k'):∀(es b:List VP) (i:Nat),fD ρ es b->(Instr.findNow d k es i=K/\Instr.findNow d k' b i=K)\/∃x g,Instr.findNow d k es i=I x/\Instr.findNow d k' b i=I g/\kT ρ x g
 | [],[],i,a=>.inr ⟨_,_,rfl,rfl,.none⟩
 | [],_::_,i,a=>by cases a using fD.ind
 |_::_,[],i,a=>by cases a using fD.ind
 |e::es,j::b,i,a=>by
  cases a using fD.ind with
  |cons c h=>
   unfold Instr.findNow;rw[Nt d f c.key]
   split
   ·exact .inr ⟨_,_,rfl,rfl,.some _ c.val⟩
   ·exact DS d f es b (i+1) h
   ·exact .inl ⟨rfl,rfl⟩
def A5(L:Alike G P P')(t:Uh){k k':U}{es a:List VP}(e:ax ρ k k')(h:fD ρ es a):an P P' kT ρ (Ym t k es) (Ym t k' a):=by
 unfold Ym;refine(aV L.S t).bindM (λn i j b g=>?_);obtain⟨rfl,-⟩:=g;rcases DS i (e.mono b) es a 0 (h.mono b) with⟨c,d⟩|⟨l,m,c,d,f⟩
 ·rw[c,d];exact tq L t es a 0 (e.mono b) (h.mono b)
 ·rw[c,d];exact .aC f
def Nf(L:Alike G P P')(t:Uh){x z k k':U}(ok:Bool)(C:∀a b,P.underlying t=I (.map a b)->plainKey P 10000 a=Z)(s:ax ρ x z)(h:ax ρ k k'):an P P' ax ρ (Instr.lookup t x k ok) (Instr.lookup t z k' ok):=by
 unfold Instr.lookup;refine(aV L.S t).bindM (λR K Q p r=>?_);obtain⟨rfl,r⟩:=r;cases K with
 |map e n=>
  have u:∀{d:aU G} {f g:Array VP},ρ.le d->nR d f g->an P P' ax d (do
   XT f.isEmpty 10000 e k
   let (v,c) <-match <-Ym e k f.toList with
    |some (_,v)=>pure (v,Z)
    |none=>pure (<-Wn n,T7)
   pure (if ok then .tuple #[v,.bool c] else v)) (do
   XT g.isEmpty 10000 e k'
   let (v,c) <-match <-Ym e k' g.toList with
    |some (_,v)=>pure (v,Z)
    |none=>pure (<-Wn n,T7)
   pure (if ok then .tuple #[v,.bool c] else v)):=by
   intro d f g y B;have w:∀{d:aU G} {v m:U} (c:Bool),ax d v m->ax d (if ok then .tuple #[v,.bool c] else v) (if ok then .tuple #[m,.bool c] else m):=by
    intro d v m c j;cases ok
    ·exact j
    ·exact .tuple Y (λl o N=>by
      have:l=0\/l=1:=by simp at o;omega
      rcases this with rfl|rfl
      ·exact j
      ·exact .bool _)
   refine(oG L _ _ _ e (C _ _ r) (h.mono y)).bindM (λS a b i _=>?_);refine(A5 L e (h.mono (y.trans i)) (B.mono i).toList).bindM (λT a b O A=>?_);cases A using kT.ind with
   |none=>exact(jL L.S n).bindM (λV a b _ H=>.aC (w _ H))
   |some l j=>exact .aC (w _ j)
  have s:=s.mono p;cases s using ax.ind with
  |kE=>exact u p ⟨rfl,λl o=>by simp at o⟩
  |map E=>
   refine an.bindM (A:=dK) (.getObj E (λc J q=>.pure q)) (λd c J i q=>?_);cases q using dK.ind with
   |map F D M=>exact u (p.trans i) ⟨F,D⟩
   |_=>exact an.stuck
  |_=>exact an.stuck
 |_=>exact an.stuck
def Ql(f:U->U->Bool){l c:List U}(h:ja ρ l c):∀{m m':List U},ja ρ m m'->(∀x d y e,ax ρ x d->ax ρ y e->f x y=f d e)->((l.zip m).all fun(x,y)=>f x y)=((c.zip m').all fun(x,y)=>f x y):=by
 induction h using ja.ind with
 |nil=>intro m m' _ _;simp
 |cons g _ j=>
  intro m m' a b;cases a using ja.ind with
  |nil=>simp
  |cons i a=>
   simp only[List.zip_cons_cons,List.all_cons];rw[b _ _ _ _ g i,j a b]
def MX{a a' b b':Nat}(c:ρ.f a=I a')(d:ρ.f b=I b'):(a==b)=(a'==b'):=by
 have:=r7 (ρ:=ρ) (a:=⟨a,0,K⟩) (a':=⟨a',0,K⟩) (b:=⟨b,0,K⟩) (b':=⟨b',0,K⟩) ⟨c,rfl,rfl⟩ ⟨d,rfl,rfl⟩;simpa using this
theorem uQ:∀(n:Nat) {x c y d:U},ax ρ x c->ax ρ y d->Xz n x y=Xz n c d
 |0,x,c,y,d,e,f=>by
  cases e using ax.ind<;>cases f using ax.ind<;>first
   |rfl
   |(rename_i a _ _ b;simp only[Xz];have:=addr_eq a b;simpa using this)
   |(rename_i a _ _ b;simp only[Xz];have:=MX a b;simpa using this)
 |n+1,x,c,y,d,e,f=>by
  cases e using ax.ind<;>cases f using ax.ind<;>first
   |rfl
   |(rename_i a _ _ b;simp only[Xz];have:=addr_eq a b;simpa using this)
   |(rename_i a _ _ b;simp only[Xz];have:=MX a b;simpa using this)
   |(rename_i a _ _ _ b _ _;simp only[Xz];rw[uQ n a b])
   |(rename_i a b _ _ g h _ _;simp only[Xz,a,g];rw[Ql (Xz n) (bg.toList ⟨a,b⟩) (bg.toList ⟨g,h⟩) (λ_ _ _ _ i j=>uQ n i j)])
end
end
section
variable {G:mj}
section
variable {P P':Uf}{ρ:aU G}
def nR.push{es a:Array VP}(h:nR ρ es a){e e':VP}(b:sG ρ e e'):nR ρ (es.push e) (a.push e'):=by
 refine⟨by simp[h.1],λc d f=>?_⟩;simp only[Array.getElem_push];have:=h.1
 split
 ·rw[dif_pos (by omega)];exact h.2 c _ _
 ·rw[dif_neg (by omega)];exact b
def nR.modify{es a:Array VP}(h:nR ρ es a)(i:Nat){f f':VP->VP}(c:∀e e',sG ρ e e'->sG ρ (f e) (f' e')):nR ρ (es.modify i f) (a.modify i f'):=by
 refine⟨by simp[h.1],λb d g=>?_⟩;simp only[Array.getElem_modify]
 split
 ·exact c _ _ (h.2 b _ _)
 ·exact h.2 b _ _
def yR{a a' b b':U}(d:ax ρ a a')(c:ax ρ b b'):an P P' ax ρ (Instr.keyThatStays a b) (Instr.keyThatStays a' b'):=by
 unfold Instr.keyThatStays;rw[uQ _ d c]
 split
 ·exact .aC c
 ·refine qd _ (λe=>.aC ?_)
  split
  ·exact c
  ·exact d
def vO(L:Alike G P P')(t:Uh){m m' k k' v j:U}(M:∀a b,P.underlying t=I (.map a b)->plainKey P 10000 a=Z)(q:ax ρ m m')(d:ax ρ k k')(C:ax ρ v j):an P P' (iX (α:=Unit)) ρ (Instr.mapUpdate t m k v) (Instr.mapUpdate t m' k' j):=by
 unfold Instr.mapUpdate;refine(aV L.S t).bindM (λad R ab y s=>?_);obtain⟨rfl,s⟩:=s;cases R with
 |map E aa=>
  have q:=q.mono y;cases q using ax.ind with
  |kE=>exact eF L.S _ (by simp) (by simp) (by simp)
  |map A=>
   refine an.bindM (A:=dK) (.getObj A (λO Q r=>.pure r)) (λV O Q z r=>?_);cases r using dK.ind with
   |map N J u=>
    rename_i l w;have x:nR V l w:=⟨N,J⟩;have p:=y.trans z;refine(oG L _ _ _ E (M _ _ s) (d.mono p)).bindM (λae _ _ e _=>?_);refine(A5 L E (d.mono (p.trans e)) (x.mono e).toList).bindM (λW a b n H=>?_);have c:=x.mono (e.trans n);have f:=p.trans (e.trans n);have B:=(z.trans (e.trans n)) _ _ A;cases H using kT.ind with
    |none=>
     have:=c.push (e:=⟨k,v,u⟩) (e':=⟨k',j,u⟩) ⟨d.mono f,C.mono f,rfl⟩;exact .setObj B (.map this.1 this.2 _) (.pure Y)
    |some g D=>
     have K:ax W ((l[g]?.map (·.key)).getD k) ((w[g]?.map (·.key)).getD k'):=by
      by_cases i:g<l.size
      ·rw[UU i,UU (by rw[<-c.1];exact i)];exact(c.2 g i (by rw[<-c.1];exact i)).key
      ·rw[Vl (by omega),Vl (by have:=c.1;omega)];exact d.mono f
     refine(yR K (d.mono f)).bindM (λal S T o D=>?_);have:=(c.mono o).modify g (f:=λh=>{h with key:=S,val:=v}) (f':=λh=>{h with key:=T,val:=j}) (λh X F=>⟨D,C.mono (f.trans o),F.born⟩);exact .setObj (o _ _ B) (.map this.1 this.2 _) (.pure Y)
   |_=>exact an.stuck
  |_=>exact an.stuck
 |_=>exact an.stuck
def Cq{v a:U}(h:ax ρ v a):an P P' (iX (α:=Nat)) ρ (Yl v) (Yl a):=by
 cases h using ax.ind<;>first|exact .aC rfl|exact an.stuck
def N7(s:ByteArray):bg ρ (s.data.map λb=>.int .u8 b.toNat) (s.data.map λb=>.int .u8 b.toNat):=
 ⟨rfl,λd a c=>by simp only[Array.getElem_map];exact .int _ _⟩
def jZ(a n:Nat){v b:U}(h:ax ρ v b):an P P' bg ρ (Xl a n v) (Xl a n b):=by
 cases h using ax.ind with
 |sl d m c=>exact vN _ d
 |jV m c=>exact .aC (bg.nil _)
 |string s=>exact .aC (N7 _)
 |_=>exact an.stuck
def SF(L:Alike G P P')(j:Array Uh)(t:Uh){vs m:Array U}(h:bg ρ vs m):an P P' ax ρ (Builtin.len_ j t vs) (Builtin.len_ j t m):=by
 unfold Builtin.len_;cases j[0]? with
 |none=>rcases h.get 0 with⟨b,c⟩|⟨v,A,b,c,d⟩<;>(rw[b,c];exact an.stuck)
 |some y=>
  rcases h.get 0 with⟨b,c⟩|⟨v,A,b,c,d⟩
  ·rw[b,c];exact an.stuck
  ·rw[b,c];dsimp only;refine(aV L.S y).bindM (λB k z l e=>?_);obtain⟨rfl,e⟩:=e;have d:=d.mono l;cases k with
   |pointer o=>
    refine(aV L.S o).bindM (λB k z l e=>?_);obtain⟨rfl,e⟩:=e;cases k<;>first|exact .aC (.int _ _)|exact an.stuck
   |array x D=>exact .aC (.int _ _)
   |map n p=>
    cases d using ax.ind with
    |map f=>
     refine an.bindM (A:=dK) (.getObj f (λg i a=>.pure a)) (λC g i u a=>?_);cases a using dK.ind with
     |map w E q=>dsimp only;rw[w];exact .aC (.int _ _)
     |_=>exact an.stuck
    |kE=>exact .aC (.int _ _)
    |_=>exact an.stuck
   |chan n p=>
    cases d using ax.ind with
    |chan f=>
     refine an.bindM (A:=dK) (.getObj f (λg i a=>.pure a)) (λC g i u a=>?_);cases a using dK.ind with
     |chan x r q s F H=>dsimp only;rw[r.1];exact .aC (.int _ _)
     |_=>exact an.stuck
    |iM=>exact .aC (.int _ _)
    |_=>exact an.stuck
   |_=>cases d using ax.ind<;>first|exact .aC (.int _ _)|exact an.stuck
def Rz(L:Alike G P P')(n:Array Uh)(t:Uh){vs q:Array U}(h:bg ρ vs q):an P P' ax ρ (Builtin.copy_ n t vs) (Builtin.copy_ n t q):=by
 unfold Builtin.copy_;cases n[0]? with
 |none=>exact an.stuck
 |some x=>
  rcases h.get 0 with⟨k,l⟩|⟨v,D,k,l,m⟩
  ·rw[k,l];exact an.stuck
  ·rw[k,l];rcases h.get 1 with⟨i,j⟩|⟨E,F,i,j,e⟩
   ·rw[i,j];exact an.stuck
   ·rw[i,j];dsimp only;refine(aV L.S x).bindM (λH y C d p=>?_);obtain⟨rfl,p⟩:=p;cases y with
    |slice o=>
     have m:=m.mono d;cases m using ax.ind with
     |jV w r=>
      refine(Cq (e.mono d)).bindM (λz b c f a=>?_);cases a;refine(cZ L.S o).bindM (λA b c g a=>?_);cases a;exact(jZ _ _ (e.mono (d.trans (f.trans g)))).bindM (λB b c _ _=>.aC (.int _ _))
     |sl s w r=>
      refine(Cq (e.mono d)).bindM (λz b c f a=>?_);cases a;refine(cZ L.S o).bindM (λA b c g a=>?_);cases a;refine(jZ _ _ (e.mono (d.trans (f.trans g)))).bindM (λB b c u a=>?_);exact(j3 _ _ 0 (s.mono (f.trans (g.trans u))) a.toList).bindM (λI b c _ _=>.aC (.int _ _))
     |_=>exact an.stuck
    |_=>exact an.stuck
def tw{a a':UJ}(n:Nat)(h:cN ρ a a'):an P P' (iX (α:=Bool)) ρ (Xm a n) (Xm a' n):=by
 unfold Xm;refine(oH h.1).bindM (λf d e c b=>?_);cases b;rw[h.2.1,h.2.2]
 split<;>exact .aC Y
def fT (ρ:aU G)(d:Option UJ)(e:Option UJ):Prop:=∀a:Option UJ->Option UJ->Prop,(a K K)->(∀{b c:UJ} (f:cN ρ b c),a (I b) (I c))->a d e
def fT.none{ρ:aU G}:fT ρ K K:=λb a c=>a
def fT.some{ρ:aU G}{a a':UJ}(h:cN ρ a a'):fT ρ (I a) (I a'):=λc d b=>b h
def fT.ind{ρ:aU G}{d:∀(b:Option UJ) (c:Option UJ),fT ρ b c->Prop}(none:d _ _ (fT.none))(some:∀{a a':UJ} (h:cN ρ a a'),d _ _ (fT.some h)){b:Option UJ}{c:Option UJ}(h:fT ρ b c):d b c h:=(h (λb c=>fT ρ b c/\∀h,d b c h) (⟨fT.none,λ_=>none⟩) (λh=>⟨fT.some h,λ_=>some h⟩)).2 h
def vP(k:Nat){o o':Option UJ}(g:fT ρ o o'):∀{σ:aU G} {x a:U},ρ.le σ->ax σ x a->an P P' (iX (α:=Bool)) σ (match x with| .slice (I b) _ _=>do pure (!(<-Xm b k)||o.any (·.block==b.block))|_=>pure T7) (match a with| .slice (I b) _ _=>do pure (!(<-Xm b k)||o'.any (·.block==b.block))|_=>pure T7):=by
 intro σ x a f h;cases h using ax.ind with
 |sl c m i=>
  refine(tw _ c).bindM (λn x l j e=>?_);cases e;cases g using fT.ind with
  |none=>exact .aC Y
  |some d=>
   refine .aC ?_;simp only[Option.any_some,r7 (d.mono f) c];rfl
 |_=>exact .aC Y
def Gq(h sl n:Nat){o o':Option UJ}{x i:U}(e:fT ρ o o')(g:ax ρ x i):an P P' (iX (α:=Bool)) ρ (Yb h sl n o x) (Yb h sl n o' i):=by
 unfold Yb;have f:=e;cases e using fT.ind with
 |none=>exact vP _ f (aU.le.refl _) g
 |some c=>
  refine(tw _ c).bindM (λp j l b a=>?_);cases a;refine(qg ((c.mono b).add _)).bindM (λq k m d a=>?_);cases a;cases j<;>cases k<;>first|exact an.aC (A:=iX (α:=Bool)) rfl|exact vP _ f (b.trans d) (g.mono (b.trans d))
def N8{z a:Array U}(h:bg ρ z a)(n:Nat):bg ρ (Builtin.zeroCells z n) (Builtin.zeroCells a n):=by
 unfold Builtin.zeroCells;rw[<-h.1];have:=lX h (n*z.size);rw[<-h.1] at this;exact this
end
end
section
variable {G:mj}
section
variable {P P':Uf}{ρ:aU G}
def yt (a:Uh)(d m n c:Nat)(o:Option UJ)(x:U):Wu U:=do
 let b <-choose (Question.appendCap (m+n) c a);let f <-XC a
 askRoom (b*f.bytes)
 let h <-Xl d m (Vg o m c);let g <-Xl d n x;let i <-Wn a;let e <-newRow a (h++g++Builtin.zeroCells i.cells (b-(m+n)))
 pure (Vg (I e) (m+n) b)
def yq (a:Uh)(b m n c:Nat)(o:Option UJ)(x:U):Wu U:=do
 let e <-XC a
 if Builtin.nextslicecap (m+n) c*e.bytes>2^48 then
  (do
    let d <-Yb b m n o x
    if (!d)=Z then do
     mark Mark.noRoom
     unsupported (YH "append: a slice or a string whose bytes no memory bears")
    else unsupported (YH "append: a slice or a string whose bytes no memory bears"):Wu PUnit) >>= λ_=>yt a b m n c o x
 else yt a b m n c o x
def m8 (b:Uh)(a m n c:Nat)(o:Option UJ)(x:U):Wu U:=
 if m+n<=c then do
  let f <-Xl a n x
  match o with
   |some d=>do
    storeCells (d.add (m*a)) f.toList
    pure (Vg o (m+n) c)
   |_=>pure (Vg o (m+n) c)
 else do
  let e <-XC b
  if ((m+n:Nat):Int)>XM.max/\(False\/e.bytes=0) then do
   runtimePanic (Y1 "growslice: len out of range")
   yq b a m n c o x
  else yq b a m n c o x
def fT.mono{σ:aU G}(a:ρ.le σ){o o':Option UJ}(h:fT ρ o o'):fT σ o o':=by
 cases h using fT.ind with
 |none=>exact .none
 |some h=>exact .some (h.mono a)
def fT.slice{o o':Option UJ}(h:fT ρ o o')(m c:Nat):ax ρ (.slice o m c) (.slice o' m c):=by
 cases h using fT.ind with
 |none=>exact .jV _ _
 |some h=>exact .sl h _ _
def PN(L:Alike G P P')(a:Uh)(b m n c:Nat){o o':Option UJ}{x f:U}(t:fT ρ o o')(u:ax ρ x f):an P P' ax ρ (yt a b m n c o x) (yt a b m n c o' f):=by
 unfold yt;refine qd _ (λB=>?_);refine(fR L.S a).bindM (λE z A p l=>?_);obtain⟨rfl,-⟩:=l;refine(A4 _).bindM (λF _ _ q _=>?_);have e:=p.trans q;refine(jZ b m ((t.mono e).slice m c)).bindM (λH g w r j=>?_);refine(jZ b n (u.mono (e.trans r))).bindM (λI h y s k=>?_);refine(jL L.S a).bindM (λJ C D d v=>?_);exact(qh a (((j.mono (s.trans d)).append (k.mono d)).append (N8 v.cells _))).bindM (λK g h _ i=>.aC (.sl i _ _))
def PM(L:Alike G P P')(a:Uh)(d m n c:Nat){o o':Option UJ}{x g:U}(e:fT ρ o o')(f:ax ρ x g):an P P' ax ρ (yq a d m n c o x) (yq a d m n c o' g):=by
 unfold yq;refine(fR L.S a).bindM (λs q r b k=>?_);obtain⟨rfl,-⟩:=k
 split
 ·refine an.bindM (A:=λ_ (_ _:PUnit)=>False) ?_ (λ_ _ _ _ i=>i.elim);refine(Gq _ _ _ (e.mono b) (f.mono b)).bindM (λt h l p j=>?_);cases j;cases h
  ·exact an.room (.halt (.same _ Y))
  ·exact an.dA
 ·exact PN L a d m n c (e.mono b) (f.mono b)
def J4(L:Alike G P P')(b:Uh)(d m n c:Nat){o o':Option UJ}{x h:U}(f:fT ρ o o')(g:ax ρ x h):an P P' ax ρ (m8 b d m n c o x) (m8 b d m n c o' h):=by
 unfold m8
 split
 ·refine(jZ d n g).bindM (λl p q a i=>?_);cases f using fT.ind with
  |none=>exact .aC (.jV _ _)
  |some e=>exact(j3 _ _ 0 ((e.mono a).add _) i.toList).bindM (λt _ _ k _=>.aC (.sl (e.mono (a.trans k)) _ _))
 ·refine(fR L.S b).bindM (λl r s a j=>?_);obtain⟨rfl,-⟩:=j
  split
  ·exact uJ L _ (by simp) (by simp) (by simp)
  ·exact PM L b d m n c (f.mono a) (g.mono a)
def M8(L:Alike G P P')(e:Array Uh)(t:Uh){vs D:Array U}(Q:∀f,e[1]? =I f->∀k,P.underlying f≠I (.int k))(h:bg ρ vs D):an P P' ax ρ (XX e t vs) (XX e t D):=by
 unfold XX;cases e[0]? with
 |none=>exact an.stuck
 |some R=>
  rcases h.get 0 with⟨p,q⟩|⟨v,C,p,q,j⟩
  ·rw[p,q];exact an.stuck
  ·rw[p,q];rcases h.get 1 with⟨n,o⟩|⟨E,F,n,o,i⟩
   ·rw[n,o];exact an.stuck
   ·rw[n,o];dsimp only;refine(aV L.S R).bindM (λH S X x A=>?_);obtain⟨rfl,A⟩:=A;cases S with
    |slice g=>
     have j:=j.mono x;have i:=i.mono x;obtain⟨b,l,m,a,rfl,rfl,N⟩|M:(∃b l m a,v= .slice b m a/\C= .slice l m a/\fT H b l)\/((∀b m a,v≠.slice b m a)/\∀b m a,C≠.slice b m a):=by
      cases j using ax.ind with
      |jV m a=>exact .inl ⟨_,_,_,_,rfl,rfl,.none⟩
      |sl K m a=>exact .inl ⟨_,_,_,_,rfl,rfl,.some K⟩
      |_=>exact .inr ⟨by simp,by simp⟩
     ·dsimp only;refine(cZ L.S g).bindM (λY u T y r=>?_);cases r;have B:∀{w:aU G},H.le w->an P P' ax w (Yl E >>= λd=>m8 g u m d a b E) (Yl F >>= λd=>m8 g u m d a l F):=λc=>
       (Cq (i.mono c)).bindM (λZ d W z r=>by
         cases r;exact J4 L g u m d a (N.mono (c.trans z)) (i.mono (c.trans z)))
      cases O:e[1]? with
      |none=>
       simp only[pure_bind,UB,if_false,Bool.not_false,if_true];exact B y
      |some f=>
       refine(aV L.S f).bindM (λw J V c s=>?_);obtain⟨rfl,s⟩:=s;cases J with
       |int k=>exact absurd s (Q f O k)
       |_=>
        simp only[pure_bind,UB,if_false,Bool.not_false,if_true];exact B (y.trans c)
     ·cases j using ax.ind<;>first|exact an.stuck|exact absurd rfl (M.1 _ _ _)
    |_=>exact an.stuck
end
end
end Rl
namespace Cc
open Go
section
variable {P P':Uf}{O:Xv->Prop}{α β:Type}
def Au(s:FloatKind)(b:Nat)(d:Wx):St P P' O (Conv.floatToInt s b d):=by
 unfold Conv.floatToInt
 (try dsimp only)
 repeat' first|exact aA _|exact cW _|refine ag ?_ (λ_=>?_)|split|dsimp only|exact trivial
def zA(n:Int):St P P' O (Conv.intToString n):=by
 unfold Conv.intToString;exact trivial
def uY(b:Twin P P')(a:Plain O)(e:Uh)(s:ByteArray):St P P' O (Conv.stringToBytes e s):=by unfold Conv.stringToBytes;((try dsimp only);repeat' first|exact cW _|exact jN a _ _|exact om b a _|assumption|(refine ag ?_ (λ_=>?_))|intro _|split|(dsimp only)|exact trivial)
def uZ(b:Twin P P')(a:Plain O)(e:Uh)(s:ByteArray):St P P' O (Conv.stringToRunes e s):=by unfold Conv.stringToRunes;((try dsimp only);repeat' first|exact cW _|exact jN a _ _|assumption|(refine ag ?_ (λ_=>?_))|intro _|split|(dsimp only)|exact trivial)
def GS(a:Twin P P')(b:Plain O)(s d:Uh)(x:U)(h:FN P s d=Z):St P P' O (convert s d x):=by
 unfold convert;refine iO (xy a s) λm i=>?_;refine iO (xy a d) λf k=>?_;unfold FN at h;rw[i,k] at h;cases m<;>first|(simp at h;done)|skip
 ·rename_i p;cases f<;>first|(simp at h;done)|skip
  cases x<;>first|exact trivial|exact aZ _ rfl|(rename_i c;cases c<;>exact aZ _ rfl)|skip
  exact Au _ _ _
 ·rename_i g;cases f<;>first|(simp at h;done)|skip
  ·cases x<;>first|exact trivial|skip
   all_goals first
    |exact zA _
    |(refine iO (xy a g) λe j=>?_;dsimp only at h;rw[j] at h;cases e<;>first|(simp at h;done)|skip
      rename_i l;cases l<;>first|(simp at h;done)|exact uS a b _)
  ·cases x with
   |string s=>
    refine ag (aI a _) λe=>?_
    split
    ·exact uY a b _ _
    ·exact uZ a b _ _
    ·exact aA _
   |slice c q o=>
    cases c with
    |none=>exact aZ _ Y
    |some n=>
     refine ag (aI a _) λe=>?_
     split
     ·exact ag (om a b _) λ_=>trivial
     ·exact aZ _ Y
   |_=>exact aZ _ Y
def ES(a:Twin P P')(b:Plain O)(e:Uh)(s m n c:Nat)(o:Option UJ)(x:U):St P P' O (Rl.yt e s m n c o x):=by
 unfold Rl.yt;exact ag (cW _) λ_=>ag (bN a _) λ_=>ag (zu _) λ_=>ag (kQ _ _ _) λ_=>ag (kQ _ _ _) λ_=>ag (fJ a _) λ_=>ag (jN b _ _) λ_=>trivial
def ER(a:Twin P P')(b:Plain O)(e:Uh)(s m n c:Nat)(o:Option UJ)(x:U):St P P' O (Rl.yq e s m n c o x):=by
 unfold Rl.yq;refine ag (bN a _) λf=>?_
 split
 ·refine ag (ag (EW a b _ _ _ _ _) λd=>?_) λ_=>ES a b _ _ _ _ _ _ _
  split
  ·exact ag Bp λ_=>aZ _ Y
  ·exact aZ _ Y
 ·exact ES a b _ _ _ _ _ _ _
def GP(a:Twin P P')(b:Plain O)(e:Uh)(s m n c:Nat)(o:Option UJ)(x:U):St P P' O (Rl.m8 e s m n c o x):=by
 unfold Rl.m8
 split
 ·refine ag (kQ _ _ _) λd=>?_
  split
  ·exact ag (jq _ _ _) λ_=>trivial
  ·exact trivial
 ·refine ag (bN a _) λf=>?_
  split
  ·exact ag (bQ a b _) λ_=>ER a b _ _ _ _ _ _ _
  ·exact ER a b _ _ _ _ _ _ _
def Lv (P:Uf)(a:Array Uh):Bool:=match a[1]? with
 |some b=>match P.underlying b with|some (.int _)=>T7|_=>Z
 |none=>Z
def KD(a:Twin P P')(k:Plain O)(b:Array Uh)(t:Uh)(f:Array U)(h:Lv P b=Z):St P P' O (XX b t f):=by
 unfold XX
 split
 ·refine ag (aI a _) λs=>?_
  split
  ·split
   ·rename_i e _ j _ o m g _;refine ag (bU a _) λp=>?_;have d:St P P' O (Yl e >>= λc=>Rl.m8 j p m c g o e):=ag (EU _) λc=>GP a k _ _ _ _ _ _ _;unfold Lv at h;cases n:b[1]? with
    |none=>
     simp only[pure_bind,UB,if_false,Bool.not_false,if_true];exact d
    |some q=>
     rw[n] at h;refine iO (xy a q) λi l=>?_;dsimp only at h;rw[l] at h;cases i with
     |int r=>simp at h
     |_=>
      simp only[pure_bind,UB,if_false,Bool.not_false,if_true];exact d
   ·exact aA _
  ·exact aA _
 ·exact aA _
end
def Dt (P:Uf)(b:Builtin)(a:Array Uh):Bool:=match b with
 | .len| .copy| .min| .unsafeString=>Z
 | .append=>Lv P a
 |_=>T7
def mD (P:Uf)(b:Bool):Op->Bool
 | .move _| .assign _| .pick _ _ _| .alloc _| .box _ _| .build _ _| .buildSlice _ _ _| .load _ _| .store _ _ _| .nilCheck _| .binOp _ _ _ _ _| .unOp _ _ _| .makeInterface _ _| .makeFunc _ _ _| .makeMap _ _| .makeSlice _ _ _| .slice _ _ _ _ _| .fieldAddr _ _ _| .field _ _ _| .indexAddr _ _ _| .index _ _ _| .lookup _ _ _ _| .mapUpdate _ _ _ _| .extract _ _| .panic _=>Z
 | .convert s d _=>FN P s d
 | .call a=>match a.callee with
  | .builtin .recover=> !b
  | .builtin c=>Dt P c a.argTypes
  |_=>Z
 | .defer a=> !b&&(match a.callee with| .builtin _=>T7|_=>Z)
 |_=>T7
def bp (P:Uf)(b:Bool):WV->Bool
 | .region _ e _=>e.toList.all λd=>mD P b d.op
 | .seq a c=>bp P b a&&bp P b c
 | .cond _ a c=>bp P b a&&bp P b c
 | .block _ a| .loop a=>bp P b a
 | .rangeFunc _ _ a c=>bp P Z a&&bp P Z c
 | .skip| .exit _| .ret| .refuse _=>Z
 | .goto _| .label _| .scope _=>T7
def lK:Target->Bool
 | .nil| .fn _ _| .collected _=>Z
 |_=>T7
def bn (P:Uf):Xv->Prop
 | .loop a=>bp P Z a.assign=Z/\bp P Z a.body=Z/\∀b,a.pending=I b->bp P Z b=Z
 | .deferred (I d)=>∀c∈d,lK c.target=Z
 | .pending _ _=>False
 | .coro _=>False
 |_=>True
def eA(P:Uf):Plain (bn P):=⟨λ_ _ _=>trivial,λ_ _ a=>a,λa=>a,⟨{state:=.ready,pending:=K,fn:=0,tmps:= #[],params:= #[],assign:=.skip,body:=.skip,defers:=0},rfl,rfl,λb a=>by cases a⟩⟩
def pE (P:Uf)(d:Bool):Next->Prop
 | .value _| .skip| .enter _ _=>True
 | .recover=>d=T7
 | .defer c=>lK c.target=Z
 | .round _ _ _ a b=>bp P Z a=Z/\bp P Z b=Z
 |_=>False
structure Ext(P P':Uf):Prop where
 named:∀(f:Nat) (fn:WC),P.funcs[f]? =I fn->(fn.name == "runtime.NumGoroutine")=T7
 next:∀(f:Nat) (fn:WC),P.funcs[f]? =I fn->fn.body.isNone=Z->Extern.findNext fn=K
 find:∀(f:Nat) (fn:WC) (e:Array U->Wu U),P.funcs[f]? =I fn->fn.body.isNone=Z->YB fn=I e->∀args,St P P' (bn P) (e args)
section
variable {P P':Uf}{O:Xv->Prop}{α β:Type}
def qw(a:Twin P P')(t:Uh)(x:Place):St P P' O (x.get t):=by
 cases x with
 |val v=>exact trivial
 |var b=>exact oS a _ _
theorem uU(a:Twin P P')(b:Plain O):∀(l:List FieldStep) (t:Uh) (x:Place),St P P' O (follow l t x)
 | [],t,x=>trivial
 |s::d,t,x=>by
  have c:=uU a b d;unfold follow
  ((try dsimp only);repeat' first|exact aI a _|exact aA _|exact og a b _|exact gW a _ _ _|exact c _ _|exact qw a _ _|exact rN a b _ _|assumption|(refine ag ?_ (λ_=>?_))|(refine bV ?_ ?_)|intro _|split|(dsimp only)|exact trivial)
def G4(c:Twin P P')(d:Plain O)(g:Array Uh)(t:Uh)(x:U)(a b:ByteArray):St P P' O (Builtin.ssaWrapNilChk_ g t #[x,.string a,.string b]):=by
 have e:∀s:String,St P P' O (stuck s:Wu U):=λs=>aA s;unfold Builtin.ssaWrapNilChk_;cases x with
 |pointer f=>
  cases f with
  |some a=>exact trivial
  |none=>
   refine ag (cW _) λh=>?_
   ((try dsimp only);repeat' first|exact bN c _|exact aI c _|exact aA _|exact bQ c d _|exact cW _|(refine aZ _ ?_;rfl)|assumption|(refine ag ?_ (λ_=>?_))|(refine bV ?_ ?_)|intro _|split|(dsimp only)|exact trivial)
 |_=>exact e _
def rQ(a:Twin P P')(b:Plain O)(t:Uh)(x:Place)(p:Bool)(w:Option String):St P P' O (receiverAt t x p w):=by
 unfold receiverAt
 ((try dsimp only);repeat' first|exact aI a _|exact aA _|exact og a b _|exact oS a _ _|exact qw a _ _|exact G4 a b _ _ _ _ _|assumption|(refine ag ?_ (λ_=>?_))|intro _|split|(dsimp only)|exact trivial)
def zB(c:Twin P P')(a:Plain O)(t:Uh)(v:U)(p:Array FieldStep)(b:Bool):St P P' O (receiverVia t v p b):=by
 unfold receiverVia
 ((try dsimp only);repeat' first|exact uU c a _ _ _|exact rQ c a _ _ _ _|assumption|(refine ag ?_ (λ_=>?_))|intro _|split|(dsimp only)|exact trivial)
theorem Bn(a:Twin P P')(b:Plain O):∀(n:Nat) (t:Uh) (v:U) (s:String),St P P' O (Go.method n t v s)
 |0,t,v,s=>aZ _ Y
 |n+1,t,v,s=>by
  have c:=Bn a b n;unfold Go.method
  ((try dsimp only);repeat' first|exact bN a _|exact aA _|exact bQ a b _|(refine aZ _ ?_;rfl)|exact c _ _ _|exact uU a b _ _ _|exact rQ a b _ _ _ _|exact qw a _ _|assumption|(refine ag ?_ (λ_=>?_))|intro _|split|(dsimp only)|exact trivial)
theorem qt(a:Twin P P')(b:Plain O):∀(l:List FieldStep) (t:Uh) (x:Option U),St P P' O (followBlind l t x)
 | [],t,x=>trivial
 |s::d,t,x=>by
  have c:=qt a b d;unfold followBlind
  ((try dsimp only);repeat' first|exact aI a _|exact aA _|exact gW a _ _ _|exact c _ _|assumption|(refine ag ?_ (λ_=>?_))|intro _|split|(dsimp only)|exact trivial)
theorem vY(a:Twin P P')(b:Plain O):∀(n:Nat) (t:Uh) (v:U) (s:String),St P P' O (nilAhead n t v s)
 |0,t,v,s=>trivial
 |n+1,t,v,s=>by
  have c:=vY a b n;unfold nilAhead
  ((try dsimp only);repeat' first|exact bN a _|exact aI a _|exact aA _|exact c _ _ _|exact qt a b _ _ _|assumption|(refine ag ?_ (λ_=>?_))|intro _|split|(dsimp only)|exact trivial)
def qp(l:Twin P P')(c:Ext P P')(n:Bool)(f:V1)(args:Array U):Still P P' (bn P) (pE P n) (callFunc f args):=by
 unfold callFunc;refine cC ?_ ?_
 ·rcases l.Q9 f with b|⟨a,o,g,h,i,j,k⟩
  ·rw[b]
  ·rw[g,h];simp only[i,j,k,UB,if_false]
 ·cases d:P.funcs[f]? with
  |none=>exact aA _
  |some a=>
   dsimp only;rw[if_neg (by rw[c.named f a d];simp)]
   split
   ·rename_i e;refine ag ⟨.inr ⟨_,rfl⟩,trivial⟩ λ_=>?_;rw[c.next f a d e];dsimp only;cases m:YB a with
    |some b=>exact ag (c.find f a b d e m args) λ_=>trivial
    |none=>exact bV trivial (aZ _ Y)
   ·exact trivial
def rM(a:Twin P P')(d:Ext P P')(c:Bool)(v:U)(s:String)(args:Array U):Still P P' (bn P) (pE P c) (callMethod v s args):=by
 have b:=eA P;unfold callMethod
 split
 ·refine cC (by rw[a.TP]) ?_;exact ag (Bn a b _ _ _ _) λ_=>qp a d c _ _
 ·exact bQ a b _
 ·exact aA _
def mS(l:Nat):Still P P' (bn P) (λr=>bn P (.loop r)) (Instr.getLoop l):=by
 unfold Instr.getLoop;refine jE l (λb a=>?_) (pU Y)
 split
 ·exact a
 ·exact aA _
def NP(b:Bool)(l:Nat)(args:Array U):Still P P' (bn P) (pE P b) (Instr.yield l args):=by
 unfold Instr.yield;refine iO (mS l) λc a=>?_;dsimp only
 split
 ·exact ag (aA _) λ_=>⟨a.1,a.2.1⟩
 ·exact⟨a.1,a.2.1⟩
def GR(c:Twin P P')(b:Builtin)(d:Array Uh)(t:Uh)(cs:Array Bool)(args:Array U)(h:Dt P b d=Z)(e:Bool):Still P P' (bn P) (pE P e) (builtin b d t cs args):=by
 have a:=eA P;unfold builtin;cases b<;>first|(simp[Dt] at h;done)|skip
 ·exact ag (KD c a _ _ _ h) λ_=>trivial
 ·exact ag (PY c a _ _ _) λ_=>trivial
 ·exact ag (RI c a _ _ _) λ_=>trivial
 ·exact ag (RJ _ _ _) λ_=>trivial
 ·exact ag (wZ c a _ _ _) λ_=>trivial
def yy (P:Uf)(b:Bool):Target->Bool
 | .builtin .recover _ _ _=> !b
 | .builtin a c _ _=>Dt P a c
 | .coroexit _=>T7
 |_=>Z
def uW(a:Twin P P')(c:Ext P P')(b:Bool)(t:Target)(args:Array U)(h:yy P b t=Z):Still P P' (bn P) (pE P b) (invoke t args):=by
 have e:=eA P;unfold invoke
 split
 ·exact bQ a e _
 ·rename_i d i t g;by_cases f:d= .recover
  ·subst f;simp only[yy,Bool.not_eq_true'] at h;exact h
  ·exact GR a d i t g args (by cases d<;>first|exact absurd Y f|exact h) b
 ·exact qp a c b _ _
 ·split
  ·exact rM a c b _ _ _
  ·exact aA _
 ·split
  ·refine ag (aI a _) λj=>?_;exact rM a c b _ _ _
  ·exact aA _
 ·split
  ·exact ag (zB a e _ _ _ _) λ_=>qp a c b _ _
  ·exact aA _
 ·exact NP b _ _
 ·exact aA _
 ·simp[yy] at h
def zC(P P':Uf)(a:Bool)(ρ:U6->U)(c:Call)(t:Uh)(h:(match c.callee with| .builtin .recover=> !a| .builtin b=>Dt P b c.argTypes|_=>Z)=Z):Still P P' (bn P) (λd=>yy P a d.target=Z) (X6 ρ c t):=by
 unfold X6;dsimp only
 split
 ·rename_i b e;rw[e] at h;show yy P a (.builtin b c.argTypes t _)=Z;unfold yy;cases b<;>first|exact h|rfl
 ·exact rfl
 ·unfold XN
  split
  ·exact rfl
  ·exact rfl
  ·exact aA _
def EY(P P':Uf)(ρ:U6->U)(c:Call)(t:Uh)(h:(match c.callee with| .builtin _=>T7|_=>Z)=Z):Still P P' (bn P) (λd=>lK d.target=Z) (X6 ρ c t):=by
 unfold X6;dsimp only
 split
 ·rename_i b a;rw[a] at h;cases h
 ·exact rfl
 ·unfold XN
  split
  ·exact rfl
  ·exact rfl
  ·exact aA _
def PZ(a:Twin P P')(l:Ext P P')(d:Bool)(ρ:U6->U)(o:Oper)(h:mD P d o.op=Z):Still P P' (bn P) (pE P d) (execOp ρ o):=by
 have b:=eA P;have m:∀g i,bn P (.number g i):=λ_ _=>trivial;have f:∀k c,bn P (.map k c):=λ_ _=>trivial;unfold execOp;cases n:o.op<;>rw[n] at h<;>first|(simp[mD] at h;done)|skip
 all_goals dsimp only
 case move=>exact trivial
 case assign=>exact trivial
 case pick=>exact ag (uR _) λ_=>trivial
 case alloc=>exact ag (ND a b _ _ _) λ_=>trivial
 case box=>exact ag (RH a b _ _) λ_=>trivial
 case build=>exact ag (NF a b _ _) λ_=>trivial
 case buildSlice=>exact ag (At a b _ _ _) λ_=>trivial
 case load=>exact ag (KG a b _ _) λ_=>trivial
 case store=>exact ag (G2 a b _ _ _) λ_=>trivial
 case nilCheck=>
  split
  all_goals first
   |exact bQ a b _
   |exact trivial
   |skip
  split
  ·exact bQ a b _
  ·refine cC (by rw[a.TP]) ?_;refine ag (vY a b _ _ _ _) λp=>?_
   split
   ·exact ag (aZ _ Y) λ_=>trivial
   ·exact trivial
  ·exact trivial
 case binOp=>exact ag (ag (GV a b _ _ _ _ _ _) λ_=>NE a b m _ _ _ _) λ_=>trivial
 case unOp=>exact ag (NO _ _) λ_=>trivial
 case convert=>exact ag (GS a b _ _ _ h) λ_=>trivial
 case makeInterface=>exact ag (uX a b _ _) λ_=>trivial
 case makeFunc=>exact trivial
 case makeMap=>exact ag (G0 a b f _ _) λ_=>trivial
 case makeSlice=>exact ag (CM a b _ _ _) λ_=>trivial
 case slice=>exact ag (G1 a b _ _ _ _ _) λ_=>trivial
 case fieldAddr=>exact ag (GX a b _ _ _) λ_=>trivial
 case field=>exact ag (NI a b _ _ _) λ_=>trivial
 case indexAddr=>exact ag (GY a b _ _ _) λ_=>trivial
 case index=>exact ag (NJ a b _ _ _) λ_=>trivial
 case lookup=>exact ag (KH a b _ _ _ _) λ_=>trivial
 case mapUpdate=>exact ag (CN a b f _ _ _ _) λ_=>trivial
 case extract=>exact ag (GW _ _) λ_=>trivial
 case panic=>exact ag (NK a b _) λ_=>trivial
 case call c=>exact iO (zC P P' d ρ c o.type h) λj e=>uW a l d _ _ e
 case defer c=>
  simp only[mD,Uw] at h;exact iO (EY P P' ρ c o.type h.2) λj e=>e
end
structure oZ(P P':Uf):Prop where
 T:Twin P P'
 E:Ext P P'
 quiet:∀f:Nat,(P'.funcs[f]?).any (·.norace)=(P.funcs[f]?).any (·.norace)
 mixed:P'.follows .mixedOrders=P.follows .mixedOrders
 bad:∀f:Nat,P'.funcs[f]? =P.funcs[f]? \/∃fn s,P.funcs[f]? =I fn/\fn.body=I (.refuse s)
 FB:∀(f:Nat) (fn:WC) (c:WV),P.funcs[f]? =I fn->fn.body=I c->bp P T7 c=Z
 view:Views P P'
def bX (P:Uf)(a:Bool):WM->Prop
 | .code b| .inLoop b=>bp P a b=Z
 | .inBlock _| .inRangeFunc _| .endRangeFunc _=>True
 | .beginRound=>a=Z
 | .inRegion d _=>(d.toList.all λc=>mD P a c.op)=Z
 |_=>False
structure mY(P:Uf)(fr:Ut):Prop where
 todo:∀i∈fr.todo,bX P fr.roundOf.isSome i
 defers:∀d∈fr.defers,lK d.target=Z
 kind:fr.kind= .normal\/fr.kind= .deferred
def cY:Ut->List Ut->Prop
 |fr,[]=>fr.kind= .normal
 |_,f::a=>cY f a
structure eN(P:Uf)(fr:Ut)(aF:List Ut):Prop where
 top:mY P fr
 rest:∀f∈aF,mY P f
 bot:cY fr aF
def IW (fr:Ut):Prop:=fr.mode= .run/\∃s,fr.todo=[.code (.refuse s)]
def C7 (n:Nat)(e:Vm):Prop:=match e.loc with
 | .obj b=>b<n
 | .cell a=>a.block<n
 | .mark m=>Conc.Neutral m
 |_=>True
def C7.mono{n m:Nat}(h:n<=m){e:Vm}(a:C7 n e):C7 m e:=by
 unfold C7 at*
 split<;>simp_all<;>omega
def CE(h:V1->Bool):∀(l:List Vm) (q:Bool) (kept:Array Vm),(∀e∈kept,∀f,e.loc≠.mark (.extern f))->∀e∈(l.foldl (Conc.seenStep h) (q,kept)).2,∀f,e.loc≠.mark (.extern f):=by
 intro l
 induction l with
 |nil=>exact λ_ _ a=>a
 |cons i l c=>
  intro q kept a;simp only[List.foldl_cons,Conc.seenStep]
  split
  ·exact c _ _ a
  ·rename_i g;refine c _ _ ?_
   split
   ·exact a
   ·intro e b;rcases Array.mem_push.1 b with b|rfl
    ·exact a e b
    ·exact λf d=>g f d
def EG{P:Uf}{fn:V1}{es:Array Vm}{n:Nat}(h:∀e∈es,zT n e):∀e∈seen P fn es,C7 n e:=by
 intro e c;have a:=h e (Conc.mem_seen c);have d:∀f,e.loc≠.mark (.extern f):=by
  rw[Conc.seen_def] at c;exact CE _ _ _ _ (λe h=>by simp at h) e c
 unfold zT at a;unfold C7;cases b:e.loc with
 |mark m=>
  rw[b] at a;rcases a with a|⟨f,rfl⟩
  ·exact a
  ·exact absurd b (d f)
 |cell g=>rw[b] at a;exact a
 |obj i=>rw[b] at a;exact a
 |_=>trivial
structure Db(P P':Uf)(w:F)(F0:Uf->Bool->List Ut->F->Yt)(fr':Ut)(tops':List Ut)(w':F)(es:Array Vm):Prop where
 eq:∀m cs,F0 P m cs w= .go (Ug fr' (tops'++cs)) w' es
 ok:eN P fr' tops'
 hp:Hp (bn P) w'
 tape:w'.tape=w.tape
 drawn:w.drawn<=w'.drawn
 size:w.heap.size<=w'.heap.size
 os:w'.os=w.os
 output:w'.output=w.output
 evs:∀e∈es,C7 w'.heap.size e
 twin:(P≠P'/\IW fr')\/∀ τ d u,Un w u->Al w.tape w.drawn τ d (w'.drawn-w.drawn)->∃u',rX w u w' u'/\∀m cs,F0 P' m cs (sh τ d u)= .go (Ug fr' (tops'++cs)) (sh τ (d+(w'.drawn-w.drawn)) u') es
def BD (P P':Uf)(w:F)(c:Uf->Bool->List Ut->F->Yt):Prop:=
 (∀m d,∃f b a,c P m d w= .ended f b a)\/∃e g b a,Db P P' w c e g b a
section
variable {P P':Uf}{w:F}
def iB(b:Hp (bn P) w)(fr':Ut)(tops':List Ut)(ok:eN P fr' tops'):BD P P' w (λR m cs w=>.go (Ug fr' (tops'++cs)) w):=
 .inr ⟨fr',tops',w,#[],λ_ _=>rfl,ok,b,rfl,T8 _,T8 _,rfl,rfl,λf a=>by simp at a,.inr λg e d c _=>⟨d,c.two,λm cs=>by simp⟩⟩
def Ba(v:Hp (bn P) w)(h:oZ P P')(f:V1)(args:Array U)(kind:CallKind)(u:kind= .normal\/kind= .deferred)(tops':List Ut)(x:∀f∈tops',mY P f)(p:cY (UY P f args kind) tops'):
 BD P P' w (λR m cs w=>.go (Ug (UY R f args kind) (tops'++cs)) w):=by
 have t:mY P (UY P f args kind):=by
  refine⟨λz i=>?_,λe q=>by simp[UY] at q,u⟩;simp only[UY,WI] at i;subst i;show bp P T7 _=Z;cases r:P.funcs[f]? with
  |none=>rfl
  |some a=>
   cases b:a.body with
   |none=>simp[b,bp]
   |some k=>simpa [b] using h.FB f a k r b
 refine .inr ⟨UY P f args kind,tops',w,#[],λ_ _=>rfl,⟨t,x,p⟩,v,rfl,T8 _,T8 _,rfl,rfl,λg l=>by simp at l,?_⟩;rcases h.bad f with g|⟨a,s,n,o⟩
 ·refine .inr λy e d c _=>⟨d,c.two,λm cs=>?_⟩;have:UY P' f args kind=UY P f args kind:=by unfold UY;rw[g]
  simp[this]
 ·by_cases j:P=P'
  ·subst j;exact .inr λy e d c _=>⟨d,c.two,λm cs=>by simp⟩
  ·refine .inl ⟨j,rfl,s,?_⟩;simp[UY,n,o]
def Kw(a:oZ P P')(f:V1)(es:Array Vm):seen P' f es=seen P f es:=by
 unfold seen;simp only[a.quiet]
def oJ{α:Type}(t:oZ P P')(E:Hp (bn P) w)(f:V1){s:Wu α}{Q:α->Prop}(G:Still P P' (bn P) Q s){q:Uf->Bool->List Ut->F->Yt}(j:Uf->Bool->List Ut->XW α->Yt)
 (hF:∀R,R=P\/R=P'->∀m cs w,(∀h w',(s.runT R w #[]).1= .halt h w'->pi h=Z)->(∀a w',(s.runT R w #[]).1= .ok a w'->Q a)->q R m cs w=WQ (seen R f (s.runT R w #[]).2) (j R m cs (s.runT R w #[]).1))
 (D:∀a w',Q a->Hp (bn P) w'->BD P P' w' (λR m cs w=>j R m cs (.ok a w)))
 (C:∀h w',pi h=Z->Hp (bn P) w'->BD P P' w' (λR m cs w=>j R m cs (.halt h w)))
 (I:∀y w' m cs,∃o p es,j P m cs (.halt (.stuck y) w')= .ended o p es):BD P P' w q:=by
 have b:=Nq (eA P) t.view s w #[] G E;rcases b.shift with⟨y,w',L⟩|H
 ·refine .inl λm cs=>?_;obtain⟨o,p,es,h⟩:=I y w' m cs;refine⟨o,p,seen P f (s.runT P w #[]).2++es,?_⟩;rw[hF P (.inl Y) _ _ _ b.halt b.ok,L,h];rfl
 have d:BD P P' (rW (s.runT P w #[]).1) (λR m cs n=>j R m cs (Ol n (s.runT P w #[]).1)):=by
  cases h:(s.runT P w #[]).1 with
  |ok a e=>exact D a e (b.ok a e h) (by have:=b.hp;rw[h] at this;exact this)
  |halt i e=>exact C i e (b.halt i e h) (by have:=b.hp;rw[h] at this;exact this)
 have v:Ol (rW (s.runT P w #[]).1) (s.runT P w #[]).1=(s.runT P w #[]).1:=by cases(s.runT P w #[]).1<;>rfl
 rcases d with d|⟨A,O,w',es,d⟩
 ·refine .inl λm cs=>?_;obtain⟨o,w',es,h⟩:=d m cs;dsimp only at h;rw[v] at h;refine⟨o,w',seen P f (s.runT P w #[]).2++es,?_⟩;rw[hF P (.inl Y) _ _ _ b.halt b.ok,h];rfl
 ·refine .inr ⟨A,O,w',seen P f (s.runT P w #[]).2++es,λm cs=>?_,d.ok,d.hp,d.tape.trans b.tape,Uy b.drawn d.drawn,Uy b.size d.size,d.os.trans b.os,d.output.trans b.output,λc B=>?_,?_⟩
  ·have:=d.eq m cs
   try dsimp only at this
   rw[v] at this;rw[hF P (.inl Y) _ _ _ b.halt b.ok,this];rfl
  ·rcases Array.mem_append.1 B with h|h
   ·refine C7.mono d.size (EG (λi g=>?_) c h);rcases b.evs i g with h|h
    ·simp at h
    ·exact h
   ·exact d.evs c h
  ·rcases d.twin with h|h
   ·exact .inl h
   ·refine .inr λz r n K u=>?_;have S:=b.drawn;have T:=d.drawn;obtain⟨u1,x,l⟩:=H z r n K (u.sub (by omega));obtain⟨u2,J,k⟩:=h z (r+((rW (s.runT P w #[]).1).drawn-w.drawn)) u1 x.un (by
     intro M N U;have:=u ((rW (s.runT P w #[]).1).drawn-w.drawn+M) N (by omega);rw[U5,b.tape,this];congr 1;omega)
    refine⟨u2,x.trans J,λm cs=>?_⟩;replace k:=k m cs;rw[hF P' (.inr Y) _ _ _ (λh w' c=>by
     rw[l] at c;cases g:(s.runT P w #[]).1 with
     |ok a e=>rw[g] at c;simp[Ol] at c
     |halt i e=>
      rw[g] at c;simp only[Ol,Y4] at c;rw[<-c.1];exact b.halt i e g) (λa w' c=>by
     rw[l] at c;cases g:(s.runT P w #[]).1 with
     |halt a e=>rw[g] at c;simp[Ol] at c
     |ok i e=>
      rw[g] at c;simp only[Ol,Result.ok.injEq] at c;rw[<-c.1];exact b.ok i e g),l]
    dsimp only at k ⊢;rw[k,Kw t];show GStep.go _ _ _=GStep.go _ _ _;congr 2;omega
end
def dP (fr:Ut)(aF:List Ut)(R:Uf)(m:Bool)(cs:List Ut)(w:F):Yt:=UM R m (Ug fr (aF++cs)) w
section
variable {P P':Uf}{w:F}
def gH{b F':Uf->Bool->List Ut->F->Yt}(h:∀R,R=P\/R=P'->∀m cs w,b R m cs w=F' R m cs w)(a:BD P P' w F'):BD P P' w b:=by
 rcases a with a|⟨f,l,p,e,a⟩
 ·exact .inl λm cs=>by rw[h P (.inl Y)];exact a m cs
 ·exact .inr ⟨f,l,p,e,λm cs=>by rw[h P (.inl Y)];exact a.eq m cs,a.ok,a.hp,a.tape,a.drawn,a.size,a.os,a.output,a.evs,a.twin.imp id λg q c n k i=>by
  obtain⟨o,j,d⟩:=g q c n k i;exact⟨o,j,λm cs=>by rw[h P' (.inr Y)];exact d m cs⟩⟩
def ux{fr:Ut}(h:mY P fr){k:List WM}(a:∀i∈k,bX P fr.roundOf.isSome i):mY P {fr with todo:=k}:=⟨a,h.defers,h.kind⟩
theorem xS{fr b:Ut}(h:b.kind=fr.kind):∀{l:List Ut},cY fr l->cY b l
 | [],a=>h.trans a
 |_::_,a=>a
def iP{fr a:Ut}{aF:List Ut}(h:eN P fr aF)(b:mY P a)(c:a.kind=fr.kind):eN P a aF:=⟨b,h.rest,xS c h.bot⟩
def Jc{c:WV}(h:bp P Z c=Z):bp P T7 c=Z:=by
 have k:∀a,mD P Z a=Z->mD P T7 a=Z:=by
  intro a b;cases a<;>first|exact b|skip
  ·rename_i c;obtain⟨j,_,_⟩:=c;cases j with
   |builtin e=>cases e<;>first|rfl|exact b
   |_=>rfl
  ·simp[mD] at b
 induction c with
 |region _ l _=>
  simp only[bp,Uz] at h ⊢;exact λa b=>k _ (h a b)
 |seq d e g i=>simp only[bp,Uw] at h ⊢;exact⟨g h.1,i h.2⟩
 |cond _ d e g i=>simp only[bp,Uw] at h ⊢;exact⟨g h.1,i h.2⟩
 |block _ d f=>exact f h
 |loop d f=>exact f h
 |rangeFunc _ _ d e _ _=>exact h
 |_=>first|rfl|(simp[bp] at h)
def Oz{a:Bool}{c:WV}(h:bp P Z c=Z):bp P a c=Z:=by
 cases a
 ·exact Jc h
 ·exact h
theorem sb{c:Bool}{id:Nat}:∀{l k:List WM},(∀i∈l,bX P c i)->Yh id l=I k->∀i∈k,bX P c i
 | [],k,_,a=>by simp[Yh] at a
 |i::l,k,d,a=>by
  have b:∀i∈l,bX P c i:=λf e=>d f (by simp[e]);cases i<;>simp only[Yh] at a
  case inBlock g=>
   split at a
   ·cases a;exact b
   ·exact sb b a
  all_goals exact sb b a
def fB{fr:Ut}(h:mY P fr)(v:U):mY P (fr.finish v)/\(fr.finish v).kind=fr.kind:=by
 unfold VW;have a:=h.todo
 split
 ·rename_i g f i e b;rw[b] at a;exact⟨⟨λd c=>by
   rcases VM.1 c with rfl|c
   ·exact a (.inRegion g (f::i)) (by simp)
   ·exact a d (by simp[c]),h.defers,h.kind⟩,rfl⟩
 ·rename_i j e b;rw[b] at a;exact⟨⟨λd c=>by
   rcases VM.1 c with rfl|c
   ·exact trivial
   ·exact a d (by simp[c]),h.defers,h.kind⟩,rfl⟩
 ·rename_i e b;rw[b] at a;exact⟨⟨λd c=>a d (by simp[c]),h.defers,h.kind⟩,rfl⟩
 ·rename_i b;rw[b] at a;exact(a _ (Xs ..)).elim
 ·rename_i b;rw[b] at a;exact(a _ (Xs ..)).elim
 ·exact⟨h,rfl⟩
def k7{fr:Ut}(h:mY P fr)(c:List Vr):mY P (fr.raise c)/\(fr.raise c).kind=fr.kind:=by
 unfold Frame.raise
 split<;>exact⟨⟨h.todo,h.defers,h.kind⟩,rfl⟩
def Ev(l:Nat)(f:V1)(tmps:Array U)(a b:WV)(k:CallKind)(h:k= .normal\/k= .deferred)(d:bp P Z a=Z)(e:bp P Z b=Z):mY P (WX l f tmps a b k):=by
 refine⟨λj c=>?_,λi g=>by simp[WX] at g,h⟩;simp only[WX,VM,List.not_mem_nil,or_false] at c;rcases c with rfl|rfl|rfl
 ·exact d
 ·rfl
 ·exact e
def Gu{fr:Ut}{aF:List Ut}(h:eN P fr aF):
 (∀cs,Xp fr (aF++cs)=K)\/∃v tops',(∀cs,Xp fr (aF++cs)=I (v,tops'++cs))/\(∀f∈tops',mY P f)/\cY fr tops':=by
 obtain⟨l,j,e⟩:=h;rcases l.kind with a|a
 ·exact .inl λcs=>by unfold Xp;rw[a]
 ·cases aF with
  |nil=>exact absurd (e.symm.trans a) (by simp)
  |cons d i=>
   by_cases c:∃v b,d.mode= .panicking ({v,recovered:=T7,goexit:=T7}::b)
   ·obtain⟨v,b,c⟩:=c;refine .inr ⟨v,{d with mode:=.panicking ({v,recovered:=Z}::b)}::i,λcs=>?_,λf g=>?_,?_⟩
    ·unfold Xp;simp[a,c]
    ·rcases VM.1 g with rfl|g
     ·have:=j d (by simp);exact⟨this.todo,this.defers,this.kind⟩
     ·exact j f (by simp[g])
    ·cases i with
     |nil=>exact e
     |cons m i=>exact e
   ·refine .inl λcs=>?_;unfold Xp;simp only[a,Wd]
    split
    ·rename_i v b k;exact absurd ⟨v,b,k⟩ c
    ·rfl
def fN(a:Yt):WQ #[] a=a:=by cases a<;>simp[WQ]
def seen_none(R:Uf)(f:V1):seen R f #[]=#[]:=by simp[seen]
def uL(z:oZ P P')(J:Hp (bn P) w){fr:Ut}{aF:List Ut}(h:eN P fr aF){s:Wu Next}(L:Still P P' (bn P) (pE P fr.roundOf.isSome) s)(I:∀d wr M N k,fr.todo≠.call d wr M N::k):
 BD P P' w (λR m cs w=>VN R Z fr (aF++cs) K s w):=by
 have e:(fr.kind == .early)=T7:=by rcases h.top.kind with n|n<;>rw[n]<;>rfl
 have H:(match fr.todo with| .call _ Z _ _::_=>CallKind.wrapped|_=>.normal)= .normal:=by
  split
  ·rename_i n;exact absurd n (I _ _ _ _ _)
  ·rfl
 refine oJ z J fr.fn L (λR m cs u=>match u with
  | .ok c w=>VN R Z fr (aF++cs) K (.pure c) w
  | .halt a w=>VN R Z fr (aF++cs) K (.halt a) w) (λR S m cs w o _=>?_) (λc y i g=>?_) (λa y b g=>?_) (λT y m cs=>⟨_,_,_,by simp only[VN,U4,seen_none,e,fN,if_true,UB,if_false];rfl⟩)
 ·unfold VN;simp only[if_true,e,UB,if_false];generalize E:s.runT R w #[]=D;obtain⟨u,Q⟩:=D;rw[E] at o;cases u with
  |ok c C=>simp[U4,fN,seen_none]
  |halt a C=>
   have:=o a C Y;cases a<;>first|(simp[pi] at this;done)|(simp[U4,fN,seen_none];done)|skip
   rename_i x;cases x<;>first|(simp[pi] at this;done)|(simp[U4,fN,seen_none];done)
 ·have r:∀v:U,BD P P' y (λR m cs w=>.go (Ug (fr.finish v) (aF++cs)) w):=λv=>iB g _ _ (iP h (fB h.top v).1 (fB h.top v).2);have j:∀(R:Uf) (cs:List Ut) (w:F),VN R Z fr (aF++cs) K (.pure c) w=(match c with
   | .value v=>GStep.go (Ug (fr.finish v) (aF++cs)) w
   | .skip=>.go (Ug (fr.finish Vk) (aF++cs)) w
   | .enter f args=>.go (Ug (UY R f args .normal) (fr::(aF++cs))) w
   | .round p f q a l=>.go (Ug (WX p f q a l .normal) (fr::(aF++cs))) w
   | .defer d=>.go (Ug ({fr with defers:=d::fr.defers}.finish Vk) (aF++cs)) w
   |_=>VN R Z fr (aF++cs) K (.pure c) w):=by
   intro R cs w;cases c<;>first|rfl|skip
   all_goals simp[VN,U4,seen_none,e,fN,Ug]
   exact congrArg (UY R _ _) H
  cases c with
  |value v=>exact gH (λR _ m cs w=>j R cs w) (r v)
  |skip=>exact gH (λR _ m cs w=>j R cs w) (r Vk)
  |enter f args=>exact gH (λR _ m cs w=>j R cs w) (Ba g z f args .normal (.inl Y) (fr::aF) (λa b=>by
   rcases VM.1 b with rfl|b
   ·exact h.top
   ·exact h.rest a b) h.bot)
  |round p f q a l=>exact gH (λR _ m cs w=>j R cs w) (iB g (WX p f q a l .normal) (fr::aF) ⟨Ev p f q a l .normal (.inl Y) i.1 i.2,λa b=>by
   rcases VM.1 b with rfl|b
   ·exact h.top
   ·exact h.rest a b,h.bot⟩)
  |defer d=>
   have A:mY P {fr with defers:=d::fr.defers}:=⟨h.top.todo,λa b=>by
    rcases VM.1 b with rfl|b
    ·exact i
    ·exact h.top.defers a b,h.top.kind⟩
   exact gH (λR _ m cs w=>j R cs w) (iB g _ _ (iP h (fB A Vk).1 (fB A Vk).2))
  |recover=>
   have B:fr.roundOf=K:=by
    have:fr.roundOf.isSome=T7:=i;simpa using this
   rcases Gu h with t|⟨v,O,t,o,G⟩
   ·exact gH (λR _ m cs w=>by simp[VN,U4,seen_none,e,fN,Ug,B,t]) (r .nilIface)
   ·exact gH (λR _ m cs w=>by simp[VN,U4,seen_none,e,fN,Ug,B,t]) (iB g (fr.finish v) O ⟨(fB h.top v).1,o,xS (fB h.top v).2 G⟩)
  |_=>exact i.elim
 ·cases a with
  |panic v=>
   refine gH (F':=λR m cs w=>.go (Ug (fr.raise [{v,recovered:=T7}]) (aF++cs)) w) (λR _ m cs w=>?_) (iB g _ _ (iP h (k7 h.top _).1 (k7 h.top _).2));simp[VN,U4,seen_none,e,fN,Ug]
  |stuck s=>exact .inl λm cs=>⟨_,_,_,by simp only[VN,U4,seen_none,e,fN,if_true,UB,if_false];rfl⟩
  |unsupported x=>
   refine .inl λm cs=>?_;cases x<;>first|(simp[pi] at b;done)|exact⟨_,_,_,by simp only[VN,U4,seen_none,e,fN,if_true,UB,if_false];rfl⟩
  |_=>simp[pi] at b
def oY (fr:Ut)(aF:List Ut):Prop:=aF=[]->(fr.mode≠.run->fr.defers≠[])/\(fr.mode= .run->fr.roundOf=K\/(fr.todo≠[]/\(∀a,fr.todo≠.code .ret::a)/\∀id a,fr.todo= .code (.exit id)::a->Yh id a≠K))
def su(A:oZ P P')(k:Hp (bn P) w){fr c:Ut}{aF:List Ut}(h:eN P fr (c::aF))(v:U):BD P P' w (λR m cs w=>WZ R m fr (c::aF++cs) K v w):=by
 have a:mY P c:=h.rest c (by simp);have l:∀f∈aF,mY P f:=λf p=>h.rest f (by simp[p]);have i:cY c aF:=h.bot;rcases h.top.kind with b|b
 ·refine gH (F':=λR m cs w=>.go (Ug (c.finish v) (aF++cs)) w) (λR _ m cs w=>?_) (iB k _ _ ⟨(fB a v).1,l,xS (fB a v).2 i⟩);simp[WZ,b,Ug]
 ·obtain⟨e,n,q,o⟩:∃e:Ut,mY P e/\e.kind=c.kind/\∀(R:Uf) (m:Bool) (cs:List Ut) (w:F),WZ R m fr (c::aF++cs) K v w= .go (Ug e (aF++cs)) w:=by
   cases d:c.mode with
   |run=>exact⟨c,a,rfl,λR m cs w=>by simp[WZ,b,d,Ug]⟩
   |returning=>exact⟨c,a,rfl,λR m cs w=>by simp[WZ,b,d,Ug]⟩
   |panicking r=>
    cases r with
    |nil=>exact⟨c,a,rfl,λR m cs w=>by simp[WZ,b,d,Ug]⟩
    |cons g s=>
     obtain⟨y,u,z⟩:=g;cases u with
     |false=>exact⟨c,a,rfl,λR m cs w=>by simp[WZ,b,d,Ug]⟩
     |true=>
      cases j:s.dropWhile (λg:Vr=> !g.goexit) with
      |nil=>exact⟨{c with mode:=.returning},⟨a.todo,a.defers,a.kind⟩,rfl,λR m cs w=>by simp[WZ,b,d,Ug,j]⟩
      |cons x t=>exact⟨{c with mode:=.panicking (x::t)},⟨a.todo,a.defers,a.kind⟩,rfl,λR m cs w=>by simp[WZ,b,d,Ug,j]⟩
  exact gH (λR _ m cs w=>o R m cs w) (iB k _ _ ⟨n,l,xS q i⟩)
end
section
variable {P P':Uf}{w:F}
def EN(l:Nat)(j:Option WV)(b:∀c,j=I c->bp P Z c=Z):St P P' (bn P) (Yc l j):=by
 unfold Yc;exact iO (mS l) λd a=>ag (l9 _ ⟨a.1,a.2.1,b⟩) λ_=>trivial
def As(b:Twin P P')(l:Nat):St P P' (bn P) (Instr.beginRound l):=by
 unfold Instr.beginRound;refine iO (mS l) λc a=>ag (l9 _ ⟨a.1,a.2.1,a.2.2⟩) λ_=>?_
 split
 ·exact trivial
 all_goals exact bQ b (eA P) _
def GU(b:Twin P P')(l:Nat):Still P P' (bn P) (λj=>∀c,j=I c->bp P Z c=Z) (Instr.endLoop l):=by
 unfold Instr.endLoop;refine iO (mS l) λd a=>?_;dsimp only
 split
 ·exact ag (bQ b (eA P) _) λ_=>ag (l9 _ ⟨a.1,a.2.1,a.2.2⟩) λ_=>a.2.2
 ·exact ag (l9 _ ⟨a.1,a.2.1,a.2.2⟩) λ_=>a.2.2
def CJ(f:V1)(tmps:Array U)(ps:Array Tmp)(a b:WV)(h:Option Nat)(k:bp P Z a=Z)(l:bp P Z b=Z):Still P P' (bn P) (λp=>∀d∈p.2,lK d.target=Z) (Instr.enterLoop f tmps ps a b h):=by
 unfold Instr.enterLoop;have i:∀(e:Nat),bn P (.loop {state:=.ready,pending:=K,fn:=f,tmps,params:=ps,assign:=a,body:=b,defers:=e}):=λe=>⟨k,l,λr j=>by cases j⟩;cases h with
 |some m=>
  refine ag (TA (mS m)) λq=>iO (Q:=λp:Nat×List Wj=>∀d∈p.2,lK d.target=Z) (λd c=>by simp at c) λp g=>?_;obtain⟨e,n⟩:=p;exact ag (l8 (i _)) λo=>g
 |none=>
  refine ag (l8 (λd c=>by simp at c)) λq=>iO (Q:=λp:Nat×List Wj=>∀d∈p.2,lK d.target=Z) (λd c=>by
   simp only[WI] at c;subst c;rfl) λp g=>?_
  obtain⟨e,n⟩:=p;exact ag (l8 (i _)) λo=>g
def wY(b:Nat):Still P P' (bn P) (λds=>∀d∈ds,lK d.target=Z) (Instr.takeDeferred b):=by
 unfold Instr.takeDeferred;refine jE b (λc a=>?_) (pU Y)
 split
 ·exact ag (l9 _ trivial) λ_=>a
 ·exact aA _
def uM(f:oZ P P')(g:Hp (bn P) w){fr:Ut}{aF:List Ut}(h:eN P fr aF)(q:aF=[]->fr.roundOf=K)(j:Option WV)(p:∀c,j=I c->bp P Z c=Z)
 {b:Uf->Bool->List Ut->F->Yt} (k:fr.roundOf=K->(∀m cs,∃o w' es,b P m cs w= .ended o w' es)\/∀R,R=P\/R=P'->∀m cs w,b R m cs w= .go (Ug {fr with mode:=.returning} (aF++cs)) w)
 (n:∀l,fr.roundOf=I l->∀R m cs w,b R m cs w=WQ (seen R fr.fn ((Yc l j).runT R w #[]).2) (match ((Yc l j).runT R w #[]).1 with
   | .ok v w=>WZ R m fr (aF++cs) K v w
   | .halt _ w=>.ended (.stuck "range over a function: no such loop" (fr.pos R)) w)):BD P P' w b:=by
 cases d:fr.roundOf with
 |none=>
  rcases k d with e|e
  ·exact .inl e
  ·exact gH e (iB g _ _ (iP h ⟨h.top.todo,h.top.defers,h.top.kind⟩ Y))
 |some l=>
  cases aF with
  |nil=>rw[q Y] at d;cases d
  |cons c aF=>
   refine oJ f g fr.fn (EN l j p) (λR m cs r=>match r with
    | .ok v w=>WZ R m fr (c::aF++cs) K v w
    | .halt _ w=>.ended (.stuck "range over a function: no such loop" (fr.pos R)) w) (λR s m cs w _ _=>n l d R m cs w) (λa w' _ i=>?_) (λu w' t i=>?_) (λx w' m cs=>⟨_,_,_,rfl⟩)
   ·exact su f i h a
   ·exact .inl λm cs=>⟨_,_,_,rfl⟩
def Nk(k:oZ P P')(u:Hp (bn P) w){fr:Ut}{aF:List Ut}(h:eN P fr aF)(V:oY fr aF)(d:fr.mode= .run):BD P P' w (dP fr aF):=by
 have X:=h.top.todo;have W:aF=[]->fr.roundOf=K\/(fr.todo≠[]/\(∀e,fr.todo≠.code .ret::e)/\∀id e,fr.todo= .code (.exit id)::e->Yh id e≠K):=λj=>(V j).2 d;cases b:fr.todo with
 |nil=>
  refine uM k u h (λj=>(W j).elim id λn=>absurd b n.1) K (λq j=>by cases j) (λJ=>.inr λc _ m a w=>?_) (λi x c m a w=>?_)
  ·simp[dP,Ug,UM,UI,d,b,J]
  ·simp only[dP,Ug,UM,UI,d,b,x];rfl
 |cons aa e=>
  rw[b] at X;have D:=X aa (by simp);have o:∀l∈e,bX P fr.roundOf.isSome l:=λl t=>X l (by simp[t]);have move:∀(M:List WM),(∀l∈M,bX P fr.roundOf.isSome l)->(∀c m a w,dP fr aF c m a w= .go (Ug {fr with todo:=M} (aF++a)) w)->BD P P' w (dP fr aF):=λM k j=>gH (λc _ m a w=>j c m a w) (iB u _ _ (iP h (ux h.top k) Y));have r:∀{l:WM} {i:List WM},bX P fr.roundOf.isSome l->(∀l∈i,bX P fr.roundOf.isSome l)->∀n∈l::i,bX P fr.roundOf.isSome n:=λt x n y=>by
   rcases VM.1 y with rfl|y
   ·exact t
   ·exact x n y
  have T:(∀m a,∃N E ad,dP fr aF P m a w= .ended N E ad)->BD P P' w (dP fr aF):=λj=>.inl j;cases aa with
  |inBlock l=>exact move e o λc m a w=>by simp[dP,Ug,UM,UI,d,b]
  |inLoop q=>exact move (.code q :: .inLoop q::e) (r D (r D o)) λc m a w=>by simp[dP,Ug,UM,UI,d,b]
  |inScope q=>exact D.elim
  |call _ _ _ _=>exact D.elim
  |extern _ _=>exact D.elim
  |inRangeFunc i=>exact T λm a=>by simp[dP,Ug,UM,UI,d,b]
  |beginRound=>
   have V:Still P P' (bn P) (pE P fr.roundOf.isSome) (do fr.roundOf.elim (stuck "beginRound: no round") Instr.beginRound;pure .skip):=by
    refine ag ?_ λ_=>trivial;cases fr.roundOf with
    |none=>exact aA _
    |some i=>exact As k.T i
   refine gH (λc _ m a w=>?_) (uL k u h V (by simp[b]));simp only[dP,Ug,UM,UI,d,b]
  |endRangeFunc i=>
   refine oJ k u fr.fn (GU k.T i) (λc m a R=>match R with
    | .ok ao w=>.go (Ug {fr with todo:=(ao.map Item.code).toList++e} (aF++a)) w
    | .halt (.panic v) w=>.go (Ug (fr.raise [{v,recovered:=T7}]) (aF++a)) w
    | .halt _ w=>.ended (.stuck "range over a function: no such loop" (fr.pos c)) w) (λc ae m a w _ _=>?_) (λp E H G=>?_) (λn E y G=>?_) (λS E m a=>⟨_,_,_,rfl⟩)
   ·simp only[dP,Ug,UM,UI,d,b];rfl
   ·refine iB G _ _ (iP h (ux h.top λl t=>?_) Y);rcases U1.1 t with t|t
    ·cases p with
     |none=>simp at t
     |some q=>
      simp at t;subst t;exact Oz (H q Y)
    ·exact o l t
   ·cases n with
    |panic v=>exact iB G _ _ (iP h (k7 h.top _).1 (k7 h.top _).2)
    |_=>exact .inl λm a=>⟨_,_,_,rfl⟩
  |inRegion z ar=>
   cases ar with
   |nil=>exact move e o λc m a w=>by simp[dP,Ug,UM,UI,d,b]
   |cons l R=>
    by_cases L:((z[l]?).map (UF · (yielded z fr.tmps))).getD T7=Z
    ·cases O:z[l]? with
     |none=>rw[O] at L;simp at L
     |some N=>
      have U:mD P fr.roundOf.isSome N.op=Z:=by
       have:=Uz.1 D N (by
        have:=Ub.1 O;obtain⟨t,rfl⟩:=this;simp)
       exact this
      refine gH (λc _ m a w=>?_) (uL k u h (PZ k.T k.E fr.roundOf.isSome fr.eval N U) (by simp[b]));rw[O] at L;simp only[dP,Ug,UM,UI,d,b,O,L,if_true,stepG.oper,Frame.oper?]
      split
      ·rename_i i q x g;rw[x,g] at U;simp[mD] at U
      ·rfl
    ·refine gH (F':=λc m a w=>.go (Ug (fr.finish Vk) (aF++a)) w) (λc _ m a w=>?_) (iB u _ _ (iP h (fB h.top Vk).1 (fB h.top Vk).2));simp only[dP,Ug,UM,UI,d,b,L,if_false];rfl
  |code q=>
   have g:bp P fr.roundOf.isSome q=Z:=D;cases q with
   |skip=>exact move e o λc m a w=>by simp[dP,Ug,UM,UI,d,b]
   |label i=>simp[bp] at g
   |scope i=>simp[bp] at g
   |goto i=>simp[bp] at g
   |refuse s=>exact T λm a=>by simp[dP,Ug,UM,UI,d,b]
   |seq p F=>
    simp only[bp,Uw] at g;exact move (.code p :: .code F::e) (r g.1 (r g.2 o)) λc m a w=>by simp[dP,Ug,UM,UI,d,b]
   |block id p=>exact move (.code p :: .inBlock id::e) (r g (r trivial o)) λc m a w=>by simp[dP,Ug,UM,UI,d,b]
   |loop p=>exact move (.code p :: .inLoop p::e) (r g (r g o)) λc m a w=>by simp[dP,Ug,UM,UI,d,b]
   |cond n p F=>
    simp only[bp,Uw] at g;cases y:fr.eval n with
    |bool S=>
     refine move (.code (if S then p else F)::e) (r ?_ o) λc m a w=>by simp[dP,Ug,UM,UI,d,b,y]
     cases S
     ·exact g.2
     ·exact g.1
    |_=>exact T λm a=>by simp[dP,Ug,UM,UI,d,b,y]
   |ret=>
    refine uM k u h (λj=>(W j).elim id λn=>absurd b (n.2.1 e)) (I .ret) (λq j=>by cases j;rfl) (λJ=>.inr λc _ m a w=>?_) (λi x c m a w=>?_)
    ·simp[dP,Ug,UM,UI,d,b,J]
    ·simp only[dP,Ug,UM,UI,d,b,x];rfl
   |exit id=>
    cases C:Yh id e with
    |some M=>exact move M (sb o C) λc m a w=>by simp[dP,Ug,UM,UI,d,b,C]
    |none=>
     refine uM k u h (λj=>(W j).elim (λn=>n) λn=>absurd C (n.2.2 id e b)) (I (.exit id)) (λq j=>by cases j;rfl) (λJ=>.inl λm a=>?_) (λi x c m a w=>?_)
     ·simp[dP,Ug,UM,UI,d,b,C,J]
     ·simp only[dP,Ug,UM,UI,d,b,C,x];rfl
   |region id z ab=>
    cases ab with
    |false=>exact move (.inRegion z (List.range z.size)::e) (r g o) λc m a w=>by simp[dP,Ug,UM,UI,d,b]
    |true=>
     refine .inr ⟨{fr with todo:=.inRegion z (XZ (P.follows .mixedOrders) z (w.tape w.drawn (.order fr.fn id)))::e},aF,{w with drawn:=w.drawn+1},#[],λm a=>?_,iP h (ux h.top (r g o)) Y,u,rfl,Nat.le_succ _,T8 _,rfl,rfl,λj C=>by simp at C,.inr λaw A av Q H=>⟨av,⟨⟨Q.size,Q.at_,Q.os,Q.output⟩,λF al=>⟨al,rfl⟩⟩,λm a=>?_⟩⟩
     ·simp[dP,Ug,UM,UI,d,b,choose,Wt,Question.forced,Question.cut]
     ·have:=H 0 (.order fr.fn id) (by simp);simp only[Nat.add_zero] at this;simp[dP,Ug,UM,UI,d,b,choose,Wt,Question.forced,Question.cut,k.mixed,sh,this]
   |rangeFunc f aq p F=>
    simp only[bp,Uw] at g;refine oJ k u fr.fn (CJ fr.fn fr.tmps aq p F fr.roundOf g.1 g.2) (λc m a R=>match R with
     | .ok (i,mark) w=>VN c Z {fr with todo:=.inRangeFunc i::e,defers:=mark++fr.defers} (aF++a) K (do let A <-X6 fr.eval {callee:=.value f,args:= #[.const (.func (.yield i) #[] #[])],argTypes:= #[]} 0;invoke A.target A.args) w
     | .halt _ w=>.ended (.stuck "range over a function: no such loop" (fr.pos c)) w) (λc ae m a w _ _=>?_) (λap E H G=>?_) (λn E y G=>?_) (λS E m a=>⟨_,_,_,rfl⟩)
    ·simp only[dP,Ug,UM,UI,d,b];rfl
    ·obtain⟨i,mark⟩:=ap;have am:mY P {fr with todo:=.inRangeFunc i::e,defers:=mark++fr.defers}:=⟨r trivial o,λA B=>by
      rcases U1.1 B with B|B
      ·exact H A B
      ·exact h.top.defers A B,h.top.kind⟩
     exact uL k G (iP h am Y) (iO (zC P P' fr.roundOf.isSome _ _ _ Y) λA B=>uW k.T k.E _ _ _ B) (by simp)
    ·exact .inl λm a=>⟨_,_,_,rfl⟩
def Mt{a:Bool}{t:Target}(h:lK t=Z):yy P a t=Z:=by
 cases t<;>first|rfl|(simp[lK] at h)
def Cu(j:oZ P P')(F:Hp (bn P) w){fr:Ut}{aF:List Ut}(h:eN P fr aF)(d:Wj)(E:lK d.target=Z)(J:fr.mode≠.run):BD P P' w (λR m cs w=>callDeferred R fr (aF++cs) K d w):=by
 obtain⟨o,u⟩:=d;by_cases y:o= .nil/\∃x,fr.mode= .panicking x
 ·obtain⟨rfl,x,D⟩:=y;refine .inl λm cs=>?_;dsimp only;unfold callDeferred;rw[if_pos ?hP]
  case hP=>simp[D]
  exact⟨_,_,_,rfl⟩
 ·have r:∀e,Hp (bn P) e->BD P P' e (λR m cs w=>.go (Ug fr (aF++cs)) w):=λe b=>iB b _ _ h;refine oJ j F fr.fn (uW j.T j.E Z o u (Mt E)) (λR m cs q=>match q with
   | .ok (.enter f args) w=>.go (Ug (UY R f args .deferred) (fr::aF++cs)) w
   | .ok (.round n f p g i) w=>.go (Ug (WX n f p g i .deferred) (fr::aF++cs)) w
   | .ok _ w=>.go (Ug fr (aF++cs)) w
   | .halt (.panic v) w=>.go (Ug (fr.raise [{v,recovered:=T7}]) (aF++cs)) w
   | .halt a w=>.ended (match a with| .unsupported A=>.unsupported A (fr.pos R)| .stuck s=>.stuck s (fr.pos R)|_=>.stuck "" "") w) (λR H m cs w z l=>?_) (λg e k b=>?_) (λa e c b=>?_) (λL e m cs=>⟨_,_,_,rfl⟩)
  ·unfold callDeferred;rw[if_neg ?hL]
   case hL=>
    intro C;apply y;cases o<;>cases l:fr.mode<;>simp[l] at C ⊢
   generalize I:(invoke o u).runT R w #[]=B at z l;obtain⟨q,G⟩:=B;dsimp only;cases q with
   |ok g t=>
    have:=l g t Y;cases g<;>first|exact absurd this (λh=>h)|(cases this;done)|rfl
   |halt a t=>
    have:=z a t Y;cases a<;>first|(simp[pi] at this;done)|rfl
  ·cases g with
   |value v=>exact r e b
   |skip=>exact r e b
   |enter f args=>exact Ba b j f args .deferred (.inr Y) (fr::aF) (λa c=>by
    rcases VM.1 c with rfl|c
    ·exact h.top
    ·exact h.rest a c) h.bot
   |round n f p a i=>exact iB b (WX n f p a i .deferred) (fr::aF) ⟨Ev n f p a i .deferred (.inr Y) k.1 k.2,λa c=>by
    rcases VM.1 c with rfl|c
    ·exact h.top
    ·exact h.rest a c,h.bot⟩
   |defer d=>exact r e b
   |recover=>cases k
   |_=>exact k.elim
  ·cases a with
   |panic v=>exact iB b _ _ (iP h (k7 h.top _).1 (k7 h.top _).2)
   |stuck s=>exact .inl λm cs=>⟨_,_,_,rfl⟩
   |unsupported A=>exact .inl λm cs=>⟨_,_,_,rfl⟩
   |_=>simp[pi] at c
def zD(a:Twin P P')(fn:WC)(tmps:Array U):St P P' (bn P) (UX fn tmps):=by
 unfold UX;refine ag (ID _ _ λb=>?_) λe=>trivial;cases b with
 |tmp c=>exact trivial
 |cell d c=>exact ag (og a (eA P) _) λ_=>oS a _ _
def Gv(i:oZ P P')(j:∀f:Nat,(P'.funcs[f]? =K↔P.funcs[f]? =K)/\∀fn c:WC,P.funcs[f]? =I fn->P'.funcs[f]? =I c->c.results=fn.results)(l:Hp (bn P) w){fr:Ut}{aF:List Ut}(h:eN P fr aF)(R:oY fr aF)(u:fr.mode≠.run):BD P P' w (dP fr aF):=by
 have J:∀a m b w,dP fr aF a m b w=Yi a m fr (aF++b) K w:=λa m b w=>by
  unfold dP;cases o:fr.mode<;>first|exact absurd o u|simp[Ug,UM,o]
 refine gH (λa _ m b w=>J a m b w) ?_;cases e:fr.defers with
 |cons r A=>
  have Q:lK r.target=Z:=h.top.defers r (by simp[e]);have D:mY P {fr with defers:=A}:=⟨h.top.todo,λg d=>h.top.defers g (by simp[e,d]),h.top.kind⟩;have T:=Cu i l (iP h D Y) r Q u;obtain⟨U,W⟩:=r;cases U with
  |collected E=>
   refine oJ i l fr.fn (wY E) (λa m b y=>match y with
    | .ok F w=>.go (Ug {fr with defers:=F++A} (aF++b)) w
    | .halt _ w=>.ended (.stuck "the deferred calls of a range-over-func loop have been taken" (fr.pos a)) w) (λa t m b w _ _=>?_) (λz p B n=>?_) (λg p d n=>?_) (λV p m b=>⟨_,_,_,rfl⟩)
   ·unfold Yi;rw[e];rfl
   ·exact iB n _ _ (iP h ⟨h.top.todo,λg d=>by
     rcases U1.1 d with d|d
     ·exact B g d
     ·exact D.defers g d,h.top.kind⟩ Y)
   ·exact .inl λm b=>⟨_,_,_,rfl⟩
  |_=>
   refine gH (λa _ m b w=>?_) T;unfold Yi;rw[e]
 |nil=>
  cases aF with
  |nil=>exact absurd e ((R Y).1 u)
  |cons q aF=>
   have C:mY P q:=h.rest q (by simp);have S:∀f∈aF,mY P f:=λf j=>h.rest f (by simp[j]);cases x:fr.mode with
   |run=>exact absurd x u
   |panicking G=>
    have O:∀a,fr.catches a=T7:=λa=>by
     unfold Frame.catches
     split
     ·rename_i H;exact Yq (h.top.todo (Item.call _ _ _ _) (by rw[H];exact Xs ..))
     ·rfl
    refine gH (F':=λa m b w=>.go (Ug (q.raise G) (aF++b)) w) (λa _ m b w=>?_) (iB l _ _ ⟨(k7 C _).1,S,xS (k7 C _).2 h.bot⟩);unfold Yi;rw[e];simp[x,O,Ug]
   |returning=>
    cases k:P.funcs[fr.fn]? with
    |none=>
     have X:=(j fr.fn).1.2 k;refine gH (λa t m b w=>?_) (su i l h (fr.tmps.getD 0 Vk));have:a.funcs[fr.fn]? =K:=by rcases t with rfl|rfl<;>assumption
     unfold Yi;rw[e];simp[x,this]
    |some fn=>
     refine oJ i l fr.fn (zD i.T fn fr.tmps) (λa m b y=>match y with
      | .ok v w=>WZ a m fr (q::aF++b) K v w
      | .halt (.stuck s) w=>.ended (.stuck s (fr.pos a)) w
      | .halt _ w=>.ended (.stuck "return: the result variables cannot be read" (fr.pos a)) w) (λa t m b w _ _=>?_) (λz p B n=>?_) (λg p d n=>?_) (λV p m b=>⟨_,_,_,rfl⟩)
     ·have:∃c,a.funcs[fr.fn]? =I c/\c.results=fn.results:=by
       rcases t with rfl|rfl
       ·exact⟨fn,k,rfl⟩
       ·cases o:a.funcs[fr.fn]? with
        |none=>rw[(j fr.fn).1.1 o] at k;cases k
        |some c=>exact⟨c,rfl,(j fr.fn).2 fn c k o⟩
      obtain⟨c,L,M⟩:=this;have N:UX c fr.tmps=UX fn fr.tmps:=by unfold UX;rw[M]
      unfold Yi;rw[e];simp only[x,L,N];rfl
     ·exact su i n h z
     ·cases g<;>exact .inl λm b=>⟨_,_,_,rfl⟩
def ze(b:oZ P P')(g:∀f:Nat,(P'.funcs[f]? =K↔P.funcs[f]? =K)/\∀fn a:WC,P.funcs[f]? =I fn->P'.funcs[f]? =I a->a.results=fn.results)(d:Hp (bn P) w){fr:Ut}{aF:List Ut}(h:eN P fr aF)(e:oY fr aF):BD P P' w (dP fr aF):=by
 by_cases c:fr.mode= .run
 ·exact Nk b d h e c
 ·exact Gv b g d h e c
end
structure Twins(P P':Uf):Prop where
 A:oZ P P'
 R:∀f:Nat,(P'.funcs[f]? =K↔P.funcs[f]? =K)/\∀fn fn':WC,P.funcs[f]? =I fn->P'.funcs[f]? =I fn'->fn'.results=fn.results
def Still.self{P P':Uf}{h:Xv->Prop}{α:Type}{Q:α->Prop}:∀{s:Wu α},Still P P' h Q s->Still P P h Q s:=by
 intro s
 induction s with
 |pure e=>intro a;exact a
 |load m e c b=>intro a v;exact b v (a v)
 |store m e v c b=>intro a;exact b a
 |new f c b=>intro a;exact⟨a.1,λd=>b d (a.2 d)⟩
 |shape d c b=>intro a s;exact b s (a s)
 |freeze e g c b=>intro a;exact b a
 |frozen e c b=>intro a i;exact b i (a i)
 |getObj d c b=>intro a;exact⟨λf j=>b f (a.1 f j),a.2⟩
 |setObj d f c b=>intro a;exact⟨a.1,b a.2⟩
 |choose l c b=>intro a g;exact b g (a g)
 |sys k c b=>intro a;exact⟨a.1,λd=>b d (a.2 d)⟩
 |program c b=>intro a;exact⟨rfl,b P a.2⟩
 |mark m c b=>intro a;exact⟨a.1,b a.2⟩
 |halt a=>intro a;exact a
def Views.self{P P':Uf}(h:Views P P'):Views P P:=by
 have i:∀(a:F) c d b m,a.viewLoad P' c d b m=a.viewLoad P c d b m:=λa c d b m=>h.load a a c d b m λ_ _ _=>Iff.rfl;have s:∀(a:F) c d b v m,a.viewStore P' c d b v m=a.viewStore P c d b v m:=λa c d b v m=>by
  rcases h.store a a c d b v m λ_ _ _=>Iff.rfl with⟨o,j,k⟩|⟨l,i,f,n,j,k,-⟩<;>rw[j,k]
 refine⟨λa e c d b m g=>(i e c d b m).symm.trans (h.load a e c d b m g),h.touch,λa e c d b v m g=>?_⟩;rw[<-s e];exact h.store a e c d b v m g
def Twins.self{P P':Uf}(h:Twins P P'):Twins P P:=
 ⟨⟨⟨λ_=>rfl,λ_=>rfl,rfl,λ_=>rfl,λ_=>rfl,rfl,λ_ _ _ _ _ _=>rfl,λ_ _ _ _ _=>rfl,λ_ _ _=>rfl,λ_ _=>rfl,λ_=>rfl,λ_ _=>rfl,rfl,rfl,rfl,λ_=>.inl Y⟩,
  ⟨h.A.E.named,h.A.E.next,λf c d b a e args=>(h.A.E.find f c d b a e args).self⟩,λ_=>rfl,rfl,λ_=>.inl Y,h.A.FB,h.A.view.self⟩,λf=>⟨Iff.rfl,λc g b a=>by rw[b] at a;cases a;rfl⟩⟩
structure BC(P:Uf)(w w':F)(es:Array Vm):Prop where
 hp:Hp (bn P) w'
 tape:w'.tape=w.tape
 drawn:w.drawn<=w'.drawn
 size:w.heap.size<=w'.heap.size
 os:w'.os=w.os
 output:w'.output=w.output
 evs:∀e∈es,C7 w'.heap.size e
def Fin (P P':Uf)(Stop:Ut->List Ut->F->Prop)(fr:Ut)(aF:List Ut)(w u:F):Prop:=
 ∀d:Ut->List Ut->F->F->Prop,(∀fr aF w u,Stop fr aF w->d fr aF w u)->
  (∀fr aF w u (c:Tp->Nat->Ut×List Ut×F×F×Array Vm),(∀b a m e,UM P' m (Ug fr (aF++e)) (sh b a u)= .go (Ug (c b a).1 ((c b a).2.1++e)) (c b a).2.2.2.1 (c b a).2.2.2.2)->
    (∀b a,BC P (sh b a w) (c b a).2.2.1 (c b a).2.2.2.2)->(∀b a,rX (sh b a w) (sh b a u) (c b a).2.2.1 (c b a).2.2.2.1/\(c b a).2.2.2.1.tape=(c b a).2.2.1.tape)->(∀b a,eN P (c b a).1 (c b a).2.1)->oY fr aF->
    (∀b a,d (c b a).1 (c b a).2.1 (c b a).2.2.1 (c b a).2.2.2.1)->d fr aF w u)->d fr aF w u
def Fin.stop{P P':Uf}{Stop:Ut->List Ut->F->Prop}{fr:Ut}{aF:List Ut}{w u:F}(h:Stop fr aF w):Fin P P' Stop fr aF w u:=λb a _=>a _ _ _ _ h
def Fin.step{P P':Uf}{Stop:Ut->List Ut->F->Prop}{fr:Ut}{aF:List Ut}{w u:F}(b:Tp->Nat->Ut×List Ut×F×F×Array Vm)(go:∀a d m cs,UM P' m (Ug fr (aF++cs)) (sh a d u)= .go (Ug (b a d).1 ((b a d).2.1++cs)) (b a d).2.2.2.1 (b a d).2.2.2.2)
 (g:∀a d,BC P (sh a d w) (b a d).2.2.1 (b a d).2.2.2.2) (j:∀a d,rX (sh a d w) (sh a d u) (b a d).2.2.1 (b a d).2.2.2.1/\(b a d).2.2.2.1.tape=(b a d).2.2.1.tape) (ok:∀a d,eN P (b a d).1 (b a d).2.1) (i:oY fr aF) (h:∀a d,Fin P P' Stop (b a d).1 (b a d).2.1 (b a d).2.2.1 (b a d).2.2.2.1):Fin P P' Stop fr aF w u:=
 λe f c=>c _ _ _ _ b go g j ok i λa d=>h a d e f c
def bG:Ut:={(default:Ut) with todo:=[.code (.refuse "")],defers:=[{target:=.nil,args:= #[]}],mode:=.run,kind:=.normal}
section
variable {P P':Uf}
def CR(c:Option (List Vr))(w:F):∃o w' es,UM P Z (Ug ((c.map bG.raise).getD bG) []) w= .ended o w' es:=by
 cases c with
 |none=>simp[Ug,UM,UI,bG]
 |some a=>simp[Ug,UM,bG,Frame.raise,Yi,callDeferred]
def Tw(N:Twins P P'){fr:Ut}{w:F}(Q:Hp (bn P) w)(h:eN P fr [])(t:¬oY fr []):(∃o w' es,UM P Z (Ug fr [bG]) w= .ended o w' es)\/∃c w' es,UM P Z (Ug fr [bG]) w= .go (Ug (((c:Option (List Vr)).map bG.raise).getD bG) []) w' es:=by
 have E:fr.kind= .normal:=h.bot;have q:∀v w,WZ P Z fr [bG] K v w= .go (Ug bG []) w:=λv w=>by simp[WZ,E,Ug,VW,bG]
 have r:∀es g,((∃o w' es,g=GStep.ended o w' es)\/∃c w' es,g=GStep.go (Ug (((c:Option (List Vr)).map bG.raise).getD bG) []) w' es)->(∃o w' j,WQ es g=GStep.ended o w' j)\/∃c w' j,WQ es g=GStep.go (Ug (((c:Option (List Vr)).map bG.raise).getD bG) []) w' j:=by
  rintro es g (⟨o,w',j,rfl⟩|⟨c,w',j,rfl⟩)
  ·exact .inl ⟨_,_,_,rfl⟩
  ·exact .inr ⟨c,_,_,rfl⟩
 by_cases e:fr.mode= .run
 ·
  have M:∃b p,fr.roundOf=I b/\∀w,UM P Z (Ug fr [bG]) w=WQ (seen P fr.fn ((Yc b p).runT P w #[]).2) (match ((Yc b p).runT P w #[]).1 with
   | .ok v w=>WZ P Z fr [bG] K v w
   | .halt _ w=>.ended (.stuck "range over a function: no such loop" (fr.pos P)) w):=by
   have:¬(fr.roundOf=K\/(fr.todo≠[]/\(∀a,fr.todo≠.code .ret::a)/\∀id a,fr.todo= .code (.exit id)::a->Yh id a≠K)):=λD=>t λ_=>⟨λh=>absurd e h,λ_=>D⟩;rw[not_or] at this;obtain⟨J,n⟩:=this;obtain⟨b,d⟩:∃b,fr.roundOf=I b:=by
    cases L:fr.roundOf with
    |none=>exact absurd L J
    |some b=>exact⟨b,rfl⟩
   by_cases s:fr.todo=[]
   ·exact⟨b,K,d,λw=>by simp only[Ug,UM,UI,e,s,d];rfl⟩
   ·by_cases k:∃a,fr.todo= .code .ret::a
    ·obtain⟨a,k⟩:=k;exact⟨b,I .ret,d,λw=>by simp only[Ug,UM,UI,e,k,d];rfl⟩
    ·by_cases l:∃id a,fr.todo= .code (.exit id)::a/\Yh id a=K
     ·obtain⟨id,a,l,A⟩:=l;exact⟨b,I (.exit id),d,λw=>by simp only[Ug,UM,UI,e,l,A,d];rfl⟩
     ·exact absurd ⟨s,λa i=>k ⟨a,i⟩,λid a i H=>l ⟨id,a,i,H⟩⟩ n
  obtain⟨b,p,d,C⟩:=M;rw[C];refine r _ _ ?_;cases((Yc b p).runT P w #[]).1 with
  |ok v f=>exact .inr ⟨K,f,_,q v f⟩
  |halt u f=>exact .inl ⟨_,_,_,rfl⟩
 ·have m:fr.defers=[]:=by
   by_cases m:fr.defers=[]
   ·exact m
   ·exact absurd (λ_=>⟨λ_=>m,λh=>absurd h e⟩) t
  have y:∀w,UM P Z (Ug fr [bG]) w=Yi P Z fr [bG] K w:=λw=>by
   cases n:fr.mode<;>first|exact absurd n e|simp[Ug,UM,n]
  rw[y];unfold Yi;rw[m];cases G:fr.mode with
  |run=>exact absurd G e
  |panicking x=>
   have B:fr.catches P=T7:=by
    unfold Frame.catches
    split
    ·rename_i i;exact Yq (h.top.todo (Item.call _ _ _ _) (by rw[i];exact Xs ..))
    ·rfl
   exact .inr ⟨I x,w,#[],by simp[B,Ug]⟩
  |returning=>
   dsimp only;cases O:P.funcs[fr.fn]? with
   |none=>exact .inr ⟨K,w,_,q _ w⟩
   |some z=>
    dsimp only;refine r _ _ ?_;cases((UX z fr.tmps).runT P w #[]).1 with
    |ok v f=>exact .inr ⟨K,f,_,q v f⟩
    |halt u f=>cases u<;>exact .inl ⟨_,_,_,rfl⟩
end
section
variable {P P':Uf}
def kR(a:P'.toTables=P.toTables)(t:Uh):P'.info? t=P.info? t:=by rw[a]
def jF(a:P'.toTables=P.toTables)(t:Uh):P'.underlying t=P.underlying t:=by unfold Program.underlying;simp only[kR a]
def kg(a:P'.toTables=P.toTables)(t:Uh):P'.cellsOf t=P.cellsOf t:=by unfold Program.cellsOf;simp only[kR a]
def lu(a:P'.toTables=P.toTables)(t:Uh):P'.bytesOf t=P.bytesOf t:=by unfold Program.bytesOf;simp only[kR a]
def lz(a:P'.toTables=P.toTables):P'.depth=P.depth:=by unfold Program.depth;rw[a]
def tI(a:P'.toTables=P.toTables)(t:Uh):P'.underlyingId t=P.underlyingId t:=by unfold Program.underlyingId;simp only[kR a]
def sB(a:P'.toTables=P.toTables)(d:Nat):∀t o,byteOfCell P' d t o=byteOfCell P d t o:=by
 induction d with
 |zero=>intro t o;rfl
 |succ d b=>intro t o;simp only[byteOfCell,jF a,kg a,lu a,b]
def Ax(a:P'.toTables=P.toTables)(d:Nat):∀t o,cellOfByte P' d t o=cellOfByte P d t o:=by
 induction d with
 |zero=>intro t o;rfl
 |succ d b=>intro t o;simp only[cellOfByte,jF a,kg a,lu a,b]
def KQ(a:P'.toTables=P.toTables)(d:Nat)(e:Uh)(c o:Nat)(b:Int):cellAtBytes P' d e c o b=cellAtBytes P d e c o b:=by
 simp only[cellAtBytes,kg a,lu a,sB a,Ax a]
def wi(a:P'.toTables=P.toTables)(d:Nat):∀t u,P'.alikeButTags d t u=P.alikeButTags d t u:=by
 induction d with
 |zero=>intro t u;rfl
 |succ d b=>intro t u;simp only[Program.alikeButTags,jF a,tI a,kR a,b]
def He(a:P'.toTables=P.toTables)(t:Uh):P'.stoodInAs t=P.stoodInAs t:=by
 simp only[Program.stoodInAs,Program.ownRow,jF a,tI a,kR a,wi a,lz a,a]
def tH(a:P'.toTables=P.toTables)(t:Uh):P'.stoodInHeld t=P.stoodInHeld t:=by
 simp only[Program.stoodInHeld,He a,kR a]
def KR(a:P'.toTables=P.toTables)(t:Uh):P'.packed t=P.packed t:=by
 simp only[Program.packed,Program.packedAs,Program.ownRow,jF a,tI a,kR a,wi a,lz a,a]
def NZ(a:P'.toTables=P.toTables)(d:Nat):∀t,P'.holdsPacked d t=P.holdsPacked d t:=by
 induction d with
 |zero=>intro t;rfl
 |succ d b=>intro t;simp only[Program.holdsPacked,KR a,jF a,b]
def NY(a:P'.toTables=P.toTables)(d:Nat):∀t,P'.eqGuardType d t=P.eqGuardType d t:=by
 induction d with
 |zero=>intro t;rfl
 |succ d b=>intro t;simp only[Program.eqGuardType,jF a,b]
def N1(a:P'.toTables=P.toTables)(d:Nat):∀t u,sameLayout P' d t u=sameLayout P d t u:=by
 induction d with
 |zero=>intro t u;rfl
 |succ d b=>intro t u;simp only[sameLayout,jF a,tI a,tH a,b]
def N0(a:P'.toTables=P.toTables)(f:Uh->Bool)(d:Nat):∀e c o n,rowAt P' f d e c o n=rowAt P f d e c o n:=by
 induction d with
 |zero=>intro e c o n;rfl
 |succ d b=>intro e c o n;simp only[rowAt,jF a,kg a,tH a,b]
def P8(a:P'.toTables=P.toTables)(d:Nat):∀e c o u n,liesAt P' d e c o u n=liesAt P d e c o u n:=by
 induction d with
 |zero=>intro e c o u n;rfl
 |succ d b=>intro e c o u n;simp only[liesAt,jF a,lz a,N0 a,N1 a,b]
def CW(a:P'.toTables=P.toTables)(d:Nat):∀t o,plainCell P' d t o=plainCell P d t o:=by
 induction d with
 |zero=>intro t o;rfl
 |succ d b=>intro t o;simp only[plainCell,jF a,kg a,b]
def G9(a:P'.toTables=P.toTables)(d:Nat):∀t b,cellHolding P' d t b=cellHolding P d t b:=by
 induction d with
 |zero=>intro t b;rfl
 |succ d c=>intro t b;simp only[cellHolding,jF a,kg a,lu a,c]
def N2(a:P'.toTables=P.toTables)(d:Nat):∀t,tight P' d t=tight P d t:=by
 induction d with
 |zero=>intro t;rfl
 |succ d b=>intro t;simp only[tight,jF a,lu a,b]
def CX(a:P'.toTables=P.toTables)(c:Array U)(e:Uh)(f:Nat):∀x s,seenCells P' c e f x s=seenCells P c e f x s:=by
 induction f with
 |zero=>intro x s;rfl
 |succ f b=>intro x s;simp only[seenCells,G9 a,lz a,kg a,lu a,b]
def II(b:P'.toTables=P.toTables){w u:F}{a:UJ}(h:∀c e f,w.heap[a.block]? =I (.cells c e f)↔u.heap[a.block]? =I (.cells c e f))(t:Uh)(k:UJ)(m:Bool):u.seen P' a t k m=w.seen P a t k m:=by
 have j:(∃c e f,w.heap[a.block]? =I (.cells c e f)/\u.heap[a.block]? =I (.cells c e f))\/((∀c e f,w.heap[a.block]? ≠I (.cells c e f))/\∀c e f,u.heap[a.block]? ≠I (.cells c e f)):=by
  by_cases d:∃c e f,w.heap[a.block]? =I (.cells c e f)
  ·obtain⟨c,e,f,d⟩:=d;exact .inl ⟨c,e,f,d,(h c e f).1 d⟩
  ·exact .inr ⟨λc e f l=>d ⟨c,e,f,l⟩,λc e f l=>d ⟨c,e,f,(h c e f).2 l⟩⟩
 unfold World.seen;simp only[CW b,sB b,kg b,lu b,lz b,CX b];rcases j with⟨c,e,f,g,i⟩|⟨g,i⟩
 ·rw[g,i]
 ·cases j:w.heap[a.block]? with
  |none=>cases n:u.heap[a.block]? with
   |none=>rfl
   |some o=>cases o<;>first|exact absurd n (i _ _ _)|rfl
  |some p=>cases n:u.heap[a.block]? with
   |none=>cases p<;>first|exact absurd j (g _ _ _)|rfl
   |some o=>cases p<;>first|exact absurd j (g _ _ _)|(cases o<;>first|exact absurd n (i _ _ _)|rfl)
def Iz{P:Uf}{w:F}{a:UJ}{t:Uh}{k:UJ}{m:Bool}{r:_}(h:w.seen P a t k m= .ok r):a.block<w.heap.size:=by
 rcases Vy a.block w.heap.size with b|b
 ·exact b
 ·have c:w.heap[a.block]? =K:=Vl b;unfold World.seen at h;rw[c] at h;simp only[bind,Except.bind,throw,throwThe,YF,pure,Except.pure] at h
  repeat' first|(cases h;done)|split at h
def N5(q:P'.toTables=P.toTables):Views P P':=by
 refine⟨λc k b j p m a=>?_,λc b j p m v s a y w=>?_,λc k b j p v m a=>?_⟩
 ·unfold World.viewLoad;rw[II q a]
 ·unfold World.viewLoad at a;cases h:c.seen P b j p m with
  |error e=>rw[h] at a;cases a
  |ok C=>
   have u:=Iz h;rw[h] at a;simp only[bind,Except.bind,throw,throwThe,YF,pure,Except.pure] at a
   split at a
   ·cases a;obtain⟨e,_,rfl⟩:=U7.1 w;exact u
   ·cases a
 ·unfold World.viewStore;rw[II q a,N2 q,lz q];cases H:tight P P.depth j with
  |false=>exact .inl ⟨_,rfl,rfl⟩
  |true=>
   cases h:c.seen P b j p m with
   |error e=>exact .inl ⟨e,rfl,rfl⟩
   |ok C=>
    have u:=Iz h;obtain⟨t,d,f,first,i,z⟩:=C;cases G:v.bytes? with
    |none=>exact .inl ⟨_,rfl,rfl⟩
    |some bytes=>
     by_cases r:I bytes.length≠i.bytes?.map (·.length)
     ·refine .inl ⟨ "memory seen as another type: a value of another size",?_,?_⟩
      ·show(if I bytes.length≠i.bytes?.map (·.length) then _ else _)=_;rw[if_pos r];rfl
      ·show(if I bytes.length≠i.bytes?.map (·.length) then _ else _)=_;rw[if_pos r];rfl
     ·have E:∀(l n:Except String (F×List UJ)) (o:Except String (Array U)),l=o.bind (λg=>.ok ({c with heap:=c.heap.setIfInBounds b.block (.cells g d f)},z.map λx=>({block:=b.block,off:=x.1}:UJ)))->n=o.bind (λg=>.ok ({k with heap:=k.heap.setIfInBounds b.block (.cells g d f)},z.map λx=>({block:=b.block,off:=x.1}:UJ)))->
       (∃D,l= .error D/\n= .error D)\/∃t d f s,l= .ok ({c with heap:=c.heap.setIfInBounds b.block (.cells t d f)},s)/\n= .ok ({k with heap:=k.heap.setIfInBounds b.block (.cells t d f)},s)/\∀y∈s,y.block<c.heap.size:=by
       intro l n o A B;cases o with
       |error e=>exact .inl ⟨e,A,B⟩
       |ok g=>
        refine .inr ⟨g,d,f,_,A,B,λy w=>?_⟩;obtain⟨e,_,rfl⟩:=U7.1 w;exact u
      apply E
      ·show(if I bytes.length≠i.bytes?.map (·.length) then _ else _)=_;rw[if_neg r];rfl
      ·show(if I bytes.length≠i.bytes?.map (·.length) then _ else _)=_;rw[if_neg r];rfl
def P9(a:P'.toTables=P.toTables)(d:∀f:Nat,P'.funcs[f]? =P.funcs[f]? \/∃fn c:WC,P.funcs[f]? =I fn/\P'.funcs[f]? =I c/\c.name=fn.name/\fn.body.isNone=T7/\c.body.isNone=T7):Twin P P':=
 ⟨kR a,jF a,by rw[a],kg a,lu a,lz a,λb=>P8 a b,λb=>KQ a b,λb=>sB a b,λb=>NY a b,tH a,λb=>NZ a b,by rw[a],by rw[a],by rw[a],d⟩
end
end Cc
end Go.Proofs.YtjidbonhhpkljaaGreat
namespace Go.Proofs
def ay.cut (fn:WC):WC:={fn with body:=I (.refuse "")}
def aB (P:Uf):Uf:={P with funcs:=((P.funcs.modify 78 ay.cut).modify 116 ay.cut).modify 117 ay.cut}
def ay.tables(P:Uf):P.toTables=(aB P).toTables:=rfl
namespace YtjidbonhhpkljaaGreat.Cc
open Go
def SC(P:Uf)(f:Nat):(aB P).funcs[f]? =if f=78\/f=116\/f=117 then(P.funcs[f]?).map ay.cut else P.funcs[f]? :=by
 show(((P.funcs.modify 78 ay.cut).modify 116 ay.cut).modify 117 ay.cut)[f]? =_;simp only[VV];by_cases b:f=78
 ·subst b;simp
 ·by_cases c:f=116
  ·subst c;simp
  ·by_cases d:f=117
   ·subst d;simp
   ·simp only[b,c,d,or_self,if_false];rw[if_neg (λa=>d a.symm),if_neg (λa=>c a.symm),if_neg (λa=>b a.symm)]
def Iv(f:Nat):(aB T4).funcs[f]? =if f=78\/f=116\/f=117 then(T4.funcs[f]?).map ay.cut else T4.funcs[f]? :=SC _ f
def jX{f:Nat}(h1:(f==78)=T7)(b:(f==116)=T7)(c:(f==117)=T7):(aB T4).funcs[f]? =T4.funcs[f]? :=by
 rw[Iv,if_neg];simp at h1 b c;rintro(a|a|a)
 ·exact h1 a
 ·exact b a
 ·exact c a
def oD(f:Nat):T4.funcs[f]? =(aB T4).funcs[f]? \/∃fn:WC,fn.body.isNone=T7/\T4.funcs[f]? =I fn/\(aB T4).funcs[f]? =I (ay.cut fn):=by
 rw[Iv];by_cases a:f=78\/f=116\/f=117
 ·rw[if_pos a]
  right
  rcases a with rfl|rfl|rfl
  ·exact⟨_,rfl,Tryz.func78,by rw[Tryz.func78];rfl⟩
  ·exact⟨_,rfl,Tryz.func116,by rw[Tryz.func116];rfl⟩
  ·exact⟨_,rfl,Tryz.func117,by rw[Tryz.func117];rfl⟩
 ·rw[if_neg a];exact .inl rfl
def M7:Twin (aB T4) T4:=P9 (ay.tables _) λf=>by
 rcases oD f with a|⟨b,c,d,e⟩
 ·exact .inl a
 ·exact .inr ⟨_,b,e,d,rfl,rfl,c⟩
def jG{P:Uf}{p:WC->Bool}(h:P.funcs.toList.all p=Z){f:Nat}{fn:WC}(a:P.funcs[f]? =I fn):p fn=Z:=by
 obtain⟨b,rfl⟩:=Ub.1 a;exact Uz.1 h _ (by simp)
def tO:(T4.funcs.toList.all λfn=> !(fn.name == "runtime.NumGoroutine"))=Z:=by kernel_rfl
def RZ:(T4.funcs.toList.all λfn=> !fn.body.isNone||(Extern.findNext fn).isNone)=Z:=by kernel_rfl
def Ry:((aB T4).funcs.toList.all λfn=>match fn.body with|some c=>bp (aB T4) T7 c|none=>Z)=Z:=by kernel_rfl
end YtjidbonhhpkljaaGreat.Cc
end Go.Proofs
namespace Go.Proofs.YtjidbonhhpkljaaGreat
abbrev bH(f:V1)(a:Array U)(w:F)(R:Go.Ending->F->Prop):Prop:=Go.Calls (aB T4) f a w R
end Go.Proofs.YtjidbonhhpkljaaGreat
namespace Go.Proofs
namespace ay
def tJ(P:Uf)(t:Uh):(aB P).underlying t=P.underlying t:=YtjidbonhhpkljaaGreat.Cc.jF (ay.tables P).symm t
def bD{f:Nat}{x:Option WC}(h:T4.funcs[f]? =x)(h1:(f==78||(f==116||f==117))=T7):(aB T4).funcs[f]? =x:=(YtjidbonhhpkljaaGreat.Cc.jX (Bool.or_eq_false_iff.1 h1).1 (Bool.or_eq_false_iff.1 (Bool.or_eq_false_iff.1 h1).2).1 (Bool.or_eq_false_iff.1 (Bool.or_eq_false_iff.1 h1).2).2).trans h
def info(P:Uf)(t:Uh):(aB P).info? t=P.info? t:=YtjidbonhhpkljaaGreat.Cc.kR (ay.tables P).symm t
@[simp,go_sem] theorem vU (P:Uf) (t:Uh) (w:F):Wt (aB P) (XC t) w=Wt P (XC t) w:=by
 unfold XC program;simp only[bind,Sem.bind,Wt,info];generalize P.info? t=a;cases a<;>rfl
@[simp,go_sem] theorem RF (P:Uf) (t:Uh) (w:F):Wt (aB P) (Xq t) w=Wt P (Xq t) w:=by
 unfold Xq program;simp only[bind,Sem.bind,Wt,tJ];generalize P.underlying t=a;cases a<;>rfl
def zeroOf (P:Uf) (x:Option U) (w:F):Wt (aB P) (match x with|some v=>pure v|none=>unsupported (.resourceLimit "a value of more than 2^22 cells")) w=Wt P (match x with|some v=>pure v|none=>unsupported (.resourceLimit "a value of more than 2^22 cells")) w:=by
 cases x with
 |some v=>exact(Sem.run_pure _ _ _).trans (Sem.run_pure _ _ _).symm
 |none=>exact Eq.refl (Result.halt _ w)
@[simp,go_sem] theorem SW (P:Uf) (t:Uh) (w:F):Wt (aB P) (Wn t) w=Wt P (Wn t) w:=by
 unfold Wn;rw[WJ,WJ,vU];generalize Wt P (XC t) w=d;cases d with
 |ok c a=>exact zeroOf P c.zero a
 |halt b a=>exact Eq.refl (Result.halt b a)
@[simp,go_sem] theorem SV (P:Uf) (t:Uh) (w:F):Wt (aB P) (sizeOf t) w=Wt P (sizeOf t) w:=by
 unfold sizeOf;rw[WJ,WJ,vU];cases Wt P (XC t) w with
 |ok c a=>rfl
 |halt b a=>rfl
def O2(P:Uf)(d:TypeDesc)(w:F):Wt (aB P) (match d with| .struct _| .array _ _=>pure Z|_=>pure T7) w=Wt P (match d with| .struct _| .array _ _=>pure Z|_=>pure T7) w:=by
 cases d<;>exact(Sem.run_pure _ _ _).trans (Sem.run_pure _ _ _).symm
@[simp,go_sem] theorem SH (P:Uf) (t:Uh) (w:F):Wt (aB P) (isAgg t) w=Wt P (isAgg t) w:=by
 unfold isAgg;rw[WJ,WJ,RF];generalize Wt P (Xq t) w=d;cases d with
 |ok c a=>exact O2 P c a
 |halt b a=>exact Eq.refl (Result.halt b a)
@[simp,go_sem] theorem SQ (P:Uf) (d:Nat) (t:Uh):(aB P).eqGuardType d t=P.eqGuardType d t:=YtjidbonhhpkljaaGreat.Cc.NY (ay.tables P).symm d t
@[simp,go_sem] theorem depth (P:Uf):(aB P).depth=P.depth:=YtjidbonhhpkljaaGreat.Cc.lz (ay.tables P).symm
@[simp,go_sem] theorem IG (P:Uf) (t:Uh):(aB P).stoodInHeld t=P.stoodInHeld t:=YtjidbonhhpkljaaGreat.Cc.tH (ay.tables P).symm t
def Np {P:Uf} {f:Nat} {fn:WC} (h:P.funcs[f]? =I fn) (b:(fn.name == "runtime.NumGoroutine")=T7) (a:fn.body.isNone=T7) (args:Array U) (w:F):Wt P (callFunc f args) w= .ok (.enter f args) w:=by
 unfold callFunc program;simp only[bind,pure,Sem.bind,Wt,h,b,a,UB,if_false]
def aD{f:Nat}{fn:WC}(h:(aB T4).funcs[f]? =I fn)(e:fn.body.isNone=T7)(args:Array U)(w:F):Wt (aB T4) (callFunc f args) w= .ok (.enter f args) w:=by
 refine Np h ?_ e args w;rcases YtjidbonhhpkljaaGreat.Cc.oD f with a|⟨b,g,c,d⟩
 ·rw[<-a] at h;simpa using YtjidbonhhpkljaaGreat.Cc.jG YtjidbonhhpkljaaGreat.Cc.tO h
 ·rw[d] at h;cases h;exact(by simpa using YtjidbonhhpkljaaGreat.Cc.jG YtjidbonhhpkljaaGreat.Cc.tO c:(b.name == "runtime.NumGoroutine")=T7)
def func8:=bD Tryz.func8 rfl
def func9:=bD Tryz.func9 rfl
def func14:=bD Tryz.func14 rfl
def func19:=bD Tryz.func19 rfl
def func20:=bD Tryz.func20 rfl
def func21:=bD Tryz.func21 rfl
def func22:=bD Tryz.func22 rfl
def func23:=bD Tryz.func23 rfl
def func24:=bD Tryz.func24 rfl
def func25:=bD Tryz.func25 rfl
def func28:=bD Tryz.func28 rfl
def func29:=bD Tryz.func29 rfl
def func31:=bD Tryz.func31 rfl
def func32:=bD Tryz.func32 rfl
def func36:=bD Tryz.func36 rfl
def func38:=bD Tryz.func38 rfl
def func39:=bD Tryz.func39 rfl
def func40:=bD Tryz.func40 rfl
def func41:=bD Tryz.func41 rfl
def func42:=bD Tryz.func42 rfl
def func43:=bD Tryz.func43 rfl
def func44:=bD Tryz.func44 rfl
def func45:=bD Tryz.func45 rfl
def func48:=bD Tryz.func48 rfl
def func53:=bD Tryz.func53 rfl
def func55:=bD Tryz.func55 rfl
def func56:=bD Tryz.func56 rfl
def func57:=bD Tryz.func57 rfl
def func58:=bD Tryz.func58 rfl
def func59:=bD Tryz.func59 rfl
def func60:=bD Tryz.func60 rfl
def func61:=bD Tryz.func61 rfl
def func62:=bD Tryz.func62 rfl
def func63:=bD Tryz.func63 rfl
def func64:=bD Tryz.func64 rfl
def func65:=bD Tryz.func65 rfl
def func66:=bD Tryz.func66 rfl
def func68:=bD Tryz.func68 rfl
def func69:=bD Tryz.func69 rfl
def func70:=bD Tryz.func70 rfl
def func71:=bD Tryz.func71 rfl
def func76:=bD Tryz.func76 rfl
def func77:=bD Tryz.func77 rfl
def func80:=bD Tryz.func80 rfl
def func81:=bD Tryz.func81 rfl
def func82:=bD Tryz.func82 rfl
def func83:=bD Tryz.func83 rfl
def func84:=bD Tryz.func84 rfl
def func85:=bD Tryz.func85 rfl
def func86:=bD Tryz.func86 rfl
def func87:=bD Tryz.func87 rfl
def func88:=bD Tryz.func88 rfl
def func89:=bD Tryz.func89 rfl
def func90:=bD Tryz.func90 rfl
def func91:=bD Tryz.func91 rfl
def func92:=bD Tryz.func92 rfl
def func93:=bD Tryz.func93 rfl
def func94:=bD Tryz.func94 rfl
def func95:=bD Tryz.func95 rfl
def func96:=bD Tryz.func96 rfl
def func97:=bD Tryz.func97 rfl
def func98:=bD Tryz.func98 rfl
def func106:=bD Tryz.func106 rfl
def func107:=bD Tryz.func107 rfl
def func110:=bD Tryz.func110 rfl
def func114:=bD Tryz.func114 rfl
def func115:=bD Tryz.func115 rfl
def func118:=bD Tryz.func118 rfl
def func119:=bD Tryz.func119 rfl
def func120:=bD Tryz.func120 rfl
def func121:=bD Tryz.func121 rfl
def func122:=bD Tryz.func122 rfl
def func123:=bD Tryz.func123 rfl
def func124:=bD Tryz.func124 rfl
def func125:=bD Tryz.func125 rfl
def func126:=bD Tryz.func126 rfl
def func127:=bD Tryz.func127 rfl
def func128:=bD Tryz.func128 rfl
def func129:=bD Tryz.func129 rfl
def func130:=bD Tryz.func130 rfl
def func131:=bD Tryz.func131 rfl
def func133:=bD Tryz.func133 rfl
def func135:=bD Tryz.func135 rfl
def func139:=bD Tryz.func139 rfl
def func140:=bD Tryz.func140 rfl
def func141:=bD Tryz.func141 rfl
def func142:=bD Tryz.func142 rfl
def func143:=bD Tryz.func143 rfl
def func144:=bD Tryz.func144 rfl
def func145:=bD Tryz.func145 rfl
def func146:=bD Tryz.func146 rfl
def func147:=bD Tryz.func147 rfl
def func148:=bD Tryz.func148 rfl
def func149:=bD Tryz.func149 rfl
def func150:=bD Tryz.func150 rfl
def func151:=bD Tryz.func151 rfl
def func152:=bD Tryz.func152 rfl
def func153:=bD Tryz.func153 rfl
def func154:=bD Tryz.func154 rfl
def func155:=bD Tryz.func155 rfl
def func156:=bD Tryz.func156 rfl
def func157:=bD Tryz.func157 rfl
def func158:=bD Tryz.func158 rfl
def func159:=bD Tryz.func159 rfl
def func160:=bD Tryz.func160 rfl
def func161:=bD Tryz.func161 rfl
def func162:=bD Tryz.func162 rfl
def func163:=bD Tryz.func163 rfl
def func164:=bD Tryz.func164 rfl
def func165:=bD Tryz.func165 rfl
def func166:=bD Tryz.func166 rfl
def func167:=bD Tryz.func167 rfl
def func168:=bD Tryz.func168 rfl
def func169:=bD Tryz.func169 rfl
def func170:=bD Tryz.func170 rfl
def func171:=bD Tryz.func171 rfl
def func172:=bD Tryz.func172 rfl
def func173:=bD Tryz.func173 rfl
def func175:=bD Tryz.func175 rfl
def func176:=bD Tryz.func176 rfl
def func177:=bD Tryz.func177 rfl
def func178:=bD Tryz.func178 rfl
@[simp,go_sem] def call14:=aD func14 rfl
@[simp,go_sem] def call19:=aD func19 rfl
@[simp,go_sem] def call20:=aD func20 rfl
@[simp,go_sem] def call22:=aD func22 rfl
@[simp,go_sem] def call23:=aD func23 rfl
@[simp,go_sem] def call24:=aD func24 rfl
@[simp,go_sem] def call25:=aD func25 rfl
@[simp,go_sem] def call28:=aD func28 rfl
@[simp,go_sem] def call29:=aD func29 rfl
@[simp,go_sem] def call38:=aD func38 rfl
@[simp,go_sem] def call39:=aD func39 rfl
@[simp,go_sem] def call40:=aD func40 rfl
@[simp,go_sem] def call41:=aD func41 rfl
@[simp,go_sem] def call42:=aD func42 rfl
@[simp,go_sem] def call43:=aD func43 rfl
@[simp,go_sem] def call44:=aD func44 rfl
@[simp,go_sem] def call45:=aD func45 rfl
@[simp,go_sem] def call48:=aD func48 rfl
@[simp,go_sem] def call53:=aD func53 rfl
@[simp,go_sem] def call55:=aD func55 rfl
@[simp,go_sem] def call56:=aD func56 rfl
@[simp,go_sem] def call57:=aD func57 rfl
@[simp,go_sem] def call58:=aD func58 rfl
@[simp,go_sem] def call59:=aD func59 rfl
@[simp,go_sem] def call60:=aD func60 rfl
@[simp,go_sem] def call61:=aD func61 rfl
@[simp,go_sem] def call62:=aD func62 rfl
@[simp,go_sem] def call63:=aD func63 rfl
@[simp,go_sem] def call64:=aD func64 rfl
@[simp,go_sem] def call65:=aD func65 rfl
@[simp,go_sem] def call66:=aD func66 rfl
@[simp,go_sem] def call68:=aD func68 rfl
@[simp,go_sem] def call69:=aD func69 rfl
@[simp,go_sem] def call70:=aD func70 rfl
@[simp,go_sem] def call71:=aD func71 rfl
@[simp,go_sem] def call80:=aD func80 rfl
@[simp,go_sem] def call81:=aD func81 rfl
@[simp,go_sem] def call82:=aD func82 rfl
@[simp,go_sem] def call83:=aD func83 rfl
@[simp,go_sem] def call84:=aD func84 rfl
@[simp,go_sem] def call85:=aD func85 rfl
@[simp,go_sem] def call86:=aD func86 rfl
@[simp,go_sem] def call87:=aD func87 rfl
@[simp,go_sem] def call88:=aD func88 rfl
@[simp,go_sem] def call89:=aD func89 rfl
@[simp,go_sem] def call90:=aD func90 rfl
@[simp,go_sem] def call91:=aD func91 rfl
@[simp,go_sem] def call92:=aD func92 rfl
@[simp,go_sem] def call93:=aD func93 rfl
@[simp,go_sem] def call94:=aD func94 rfl
@[simp,go_sem] def call95:=aD func95 rfl
@[simp,go_sem] def call96:=aD func96 rfl
@[simp,go_sem] def call97:=aD func97 rfl
@[simp,go_sem] def call98:=aD func98 rfl
@[simp,go_sem] def call106:=aD func106 rfl
@[simp,go_sem] def call107:=aD func107 rfl
@[simp,go_sem] def call114:=aD func114 rfl
@[simp,go_sem] def call115:=aD func115 rfl
@[simp,go_sem] def call120:=aD func120 rfl
@[simp,go_sem] def call121:=aD func121 rfl
@[simp,go_sem] def call122:=aD func122 rfl
@[simp,go_sem] def call123:=aD func123 rfl
@[simp,go_sem] def call124:=aD func124 rfl
@[simp,go_sem] def call125:=aD func125 rfl
@[simp,go_sem] def call126:=aD func126 rfl
@[simp,go_sem] def call127:=aD func127 rfl
@[simp,go_sem] def call128:=aD func128 rfl
@[simp,go_sem] def call129:=aD func129 rfl
@[simp,go_sem] def call130:=aD func130 rfl
@[simp,go_sem] def call131:=aD func131 rfl
@[simp,go_sem] def call135:=aD func135 rfl
@[simp,go_sem] def call140:=aD func140 rfl
@[simp,go_sem] def call141:=aD func141 rfl
@[simp,go_sem] def call142:=aD func142 rfl
@[simp,go_sem] def call143:=aD func143 rfl
@[simp,go_sem] def call144:=aD func144 rfl
@[simp,go_sem] def call145:=aD func145 rfl
@[simp,go_sem] def call146:=aD func146 rfl
@[simp,go_sem] def call147:=aD func147 rfl
@[simp,go_sem] def call148:=aD func148 rfl
@[simp,go_sem] def call149:=aD func149 rfl
@[simp,go_sem] def call150:=aD func150 rfl
@[simp,go_sem] def call151:=aD func151 rfl
@[simp,go_sem] def call152:=aD func152 rfl
@[simp,go_sem] def call153:=aD func153 rfl
@[simp,go_sem] def call154:=aD func154 rfl
@[simp,go_sem] def call155:=aD func155 rfl
@[simp,go_sem] def call156:=aD func156 rfl
@[simp,go_sem] def call157:=aD func157 rfl
@[simp,go_sem] def call158:=aD func158 rfl
@[simp,go_sem] def call159:=aD func159 rfl
@[simp,go_sem] def call160:=aD func160 rfl
@[simp,go_sem] def call161:=aD func161 rfl
@[simp,go_sem] def call162:=aD func162 rfl
@[simp,go_sem] def call163:=aD func163 rfl
@[simp,go_sem] def call164:=aD func164 rfl
@[simp,go_sem] def call165:=aD func165 rfl
@[simp,go_sem] def call166:=aD func166 rfl
@[simp,go_sem] def call167:=aD func167 rfl
@[simp,go_sem] def call169:=aD func169 rfl
@[simp,go_sem] def call170:=aD func170 rfl
@[simp,go_sem] def call171:=aD func171 rfl
@[simp,go_sem] def call172:=aD func172 rfl
@[simp,go_sem] def call173:=aD func173 rfl
@[simp,go_sem] def call175:=aD func175 rfl
@[simp,go_sem] def call176:=aD func176 rfl
@[simp,go_sem] def call177:=aD func177 rfl
@[simp,go_sem] def call178:=aD func178 rfl
@[simp,go_sem] def underlying2:=(tJ _ _).trans Tryz.underlying2
@[simp,go_sem] def underlying3:=(tJ _ _).trans Tryz.underlying3
@[simp,go_sem] def underlying4:=(tJ _ _).trans Tryz.underlying4
@[simp,go_sem] def underlying5:=(tJ _ _).trans Tryz.underlying5
@[simp,go_sem] def underlying9:=(tJ _ _).trans Tryz.underlying9
@[simp,go_sem] def underlying20:=(tJ _ _).trans Tryz.underlying20
@[simp,go_sem] def underlying22:=(tJ _ _).trans Tryz.underlying22
@[simp,go_sem] def underlying23:=(tJ _ _).trans Tryz.underlying23
@[simp,go_sem] def underlying26:=(tJ _ _).trans Tryz.underlying26
@[simp,go_sem] def underlying43:=(tJ _ _).trans Tryz.underlying43
@[simp,go_sem] def underlying44:=(tJ _ _).trans Tryz.underlying44
@[simp,go_sem] def underlying59:=(tJ _ _).trans Tryz.underlying59
@[simp,go_sem] def underlying63:=(tJ _ _).trans Tryz.underlying63
@[simp,go_sem] def underlying103:=(tJ _ _).trans Tryz.underlying103
@[simp,go_sem] def underlying133:=(tJ _ _).trans Tryz.underlying133
@[simp,go_sem] def underlying137:=(tJ _ _).trans Tryz.underlying137
@[simp,go_sem] def underlying141:=(tJ _ _).trans Tryz.underlying141
@[simp,go_sem] def underlying160:=(tJ _ _).trans Tryz.underlying160
@[simp,go_sem] def underlying170:=(tJ _ _).trans Tryz.underlying170
@[simp,go_sem] def underlying176:=(tJ _ _).trans Tryz.underlying176
@[simp,go_sem] def underlying205:=(tJ _ _).trans Tryz.underlying205
@[simp,go_sem] def underlying206:=(tJ _ _).trans Tryz.underlying206
@[simp,go_sem] def underlying229:=(tJ _ _).trans Tryz.underlying229
end ay
end Go.Proofs
namespace Go.Proofs.YtjidbonhhpkljaaGreat
namespace Pk
open Go.RowKit
def Ix{k:Wx}{a b:Int}(h:a=b):Ending.returned (.int k a)= .returned (.int k b):=by rw[h]
def pw (n:Nat):Int:=((2^n:Nat):Int)
def Cm(n:Nat):0<pw n:=by
 have:0<2^n:=Nat.pow_pos (by omega);unfold pw;omega
def SB(n m:Nat)(h:n<=m):pw n<=pw m:=by
 have:=VO (show 0<2 by omega) h;unfold pw;omega
def PF(n:Nat):pw (n+1)=2*pw n:=by
 unfold pw;rw[WL];omega
def Iu(n:Nat)(h:n<=16):pw n<=65536:=SB n 16 h
def J3(n:Nat)(j:n<=16)(w:F):
 bH 135 #[.int .i64 n] w λe w'=>e= .returned (.int .i64 (pw n))/\w'=w:=by
 go_enter ay.func135,Tryz.ntmps135;go_wp2
 go_loop [3,4] (λd b=>∃a:Nat,a<=n/\b= .int .i64 a/\d= .int .i64 (pw a)) (λ_ b=>n-(US b).toNat)
 case atStart=>exact⟨0,UE _,rfl,rfl⟩
 case round=>
  obtain⟨a,h,rfl,rfl⟩:=hrel;have f:=Cm a;have g:=Iu a (by omega);by_cases i:a<n
  ·go_wp2
   go_round
   case rel=>exact⟨a+1,by omega,by go_num,by rw[PF]⟩
   case measure=>simp[US];omega
  ·have c:a=n:=by omega
   subst c;go_wp2;go_ret;exact⟨rfl,rfl⟩
def FI (n:Int):Int:=if n<0\/100<n then 6 else 0
def pN(n:Int)(w:F):
 bH 141 #[.int .i64 n] w λe w'=>e= .returned (.int .i64 (FI n))/\w'=w:=by
 by_cases a:n<0
 ·go_enter ay.func141,Tryz.ntmps141;go_wp2
  all_goals go_ret
  all_goals exact⟨Ix (by simp[FI,a]),rfl⟩
 ·by_cases b:100<n
  all_goals
   go_enter ay.func141,Tryz.ntmps141;go_wp2
   all_goals go_ret
   all_goals exact⟨Ix (by simp[FI,a,b]),rfl⟩
end Pk
namespace Pm
def V:List Nat->Nat
 | []=>0
 |b::a=>b+256*V a
def N (w:Nat):List Nat->Nat
 | []=>0
 |x::a=>x+2^w*N w a
def Di(a b:List Nat):V (a++b)=V a+256^a.length*V b:=by
 induction a with
 |nil=>simp[V]
 |cons e d c=>simp only[Wd,V,c,VI,WL];rw[Ye,Xx (256^d.length) 256,Nat.mul_assoc,U5]
def S4(a:List Nat)(h:∀x∈a,x<256):V a<256^a.length:=by
 induction a with
 |nil=>simp[V]
 |cons x g c=>
  have e:=h x (by simp);have f:=c (λd b=>h d (by simp[b]));simp only[V,VI,WL];omega
def Si(a b:List Nat)(g:∀x∈a,x<256)(i:∀x∈b,x<256)(c:a.length=b.length)(h:V a=V b):a=b:=by
 induction a generalizing b with
 |nil=>cases b with
  |nil=>rfl
  |cons e s=>simp at c
 |cons x m l=>cases b with
  |nil=>simp at c
  |cons e s=>
   simp only[V] at h;have n:=g x (by simp);have o:=i e (by simp);have j:x=e:=by omega
   have k:V m=V s:=by omega
   rw[j,l s (λf d=>g f (by simp[d])) (λf d=>i f (by simp[d])) (by simpa using c) k]
def QS(a:List Nat)(n:Nat)(h:∀x∈a,x<256):V (a.take n)=V a%256^n:=by
 induction a generalizing n with
 |nil=>simp[V]
 |cons b c g=>
  cases n with
  |zero=>simp[V,Nat.mod_one]
  |succ d=>
   have j:=h b (by simp);have e:=g d (λi f=>h i (by simp[f]));simp only[List.take_succ_cons,V,e,WL];rw[Xx (256^d) 256,Nat.mod_mul,show(b+256*V c)%256=b by omega,show(b+256*V c)/256=V c by omega]
def Sg(a:List Nat)(j:Nat)(h:∀x∈a,x<256):(a[j]?.getD 0)=V a/256^j%256:=by
 induction a generalizing j with
 |nil=>simp[V]
 |cons d c g=>
  have k:=h d (by simp);cases j with
  |zero=>simp[V];omega
  |succ b=>
   have e:=g b (λi f=>h i (by simp[f]));simp only[List.getElem?_cons_succ,e,V,WL];rw[Xx (256^b) 256,<-Nat.div_div_eq_div_mul,show(d+256*V c)/256=V c by omega]
def Ll(w:Nat)(l:List Nat)(x:Nat):N w (l++[x])=N w l+2^(w*l.length)*x:=by
 induction l with
 |nil=>simp[N]
 |cons c a b=>
  simp only[Wd,N,b,VI];rw[Ye,<-Nat.mul_assoc,<-Xk,U5,show w+w*a.length=w*(a.length+1) by rw[Nat.mul_succ];omega]
def S2(w:Nat)(l:List Nat)(h:∀x∈l,x<2^w):N w l<2^(w*l.length):=by
 induction l with
 |nil=>simp[N]
 |cons f a e=>
  have i:=h f (by simp);have b:=e (λg d=>h g (by simp[d]));simp only[N,VI];rw[show w*(a.length+1)=w+w*a.length by rw[Nat.mul_succ];omega,Xk];have c:2^w*(N w a+1)<=2^w*2^(w*a.length):=Xi _ b;rw[Ye] at c;omega
def D (w v:Nat):Nat->List Nat
 |0=>[]
 |n+1=>D w v n++[v/2^(w*n)%2^w]
def pu(w v n:Nat):(D w v n).length=n:=by
 induction n with
 |zero=>rfl
 |succ b a=>simp[D,a]
def QJ(w v n:Nat):∀x∈D w v n,x<2^w:=by
 induction n with
 |zero=>simp[D]
 |succ c b=>
  intro x a;simp only[D,U1,WI] at a;rcases a with a|a
  ·exact b x a
  ·rw[a];exact Nat.mod_lt _ (Nat.pow_pos (by omega))
def SO(w v n:Nat):N w (D w v n)=v%2^(w*n):=by
 induction n with
 |zero=>simp[D,N,Nat.mod_one]
 |succ a b=>
  rw[D,Ll,b,pu,show w*(a+1)=w*a+w by rw[Nat.mul_succ],Xk,Nat.mod_mul]
def Ck(n:Nat):256^n=2^(8*n):=by rw[Nat.pow_mul]
def Dd(a:Nat)(l:List Nat)(k:Nat)(b:k<l.length):N a (l.take (k+1))=N a (l.take k)+2^(a*k)*l[k]:=by
 rw[Uo b,Ll,List.length_take,Nat.min_eq_left (by omega)]
end Pm
namespace Pk
open Go.RowKit Pm
def ay.rG:((aB T4).info? 5).map (λi=>(i.zero,i.size,i.bytes))=I (I (.int .u8 0),1,1):=by kernel_rfl
def ay.vD:((aB T4).info? 3).map (λi=>(i.zero,i.size,i.bytes))=I (I (.int .i64 0),1,8):=by kernel_rfl
def aG (b:List Nat):List U:=b.map fun(a:Nat)=>VY .u8 (a:Int)
def Fy(a:List Nat)(i:Nat)(h:i<a.length):(aG a)[i]? =I (.int .u8 ((a[i]:Nat):Int)):=by
 simp[aG,h]
def I6{w:F}{base g n cap:Nat}{a:List Nat}(h:w.ownsRow base 5 1 (.slice (I ⟨g,0,K⟩) n cap) n (aG a))(c:a.length=n):
 ∀i,i<n->aM w g (0+i) (.int .u8 ((a.map (fun(n:Nat)=>(n:Int))).getD i 0)):=by
 intro i b;rw[Nat.zero_add,h.cellAt i (by omega),Fy a i (by omega)];simp[Yw,show i<a.length by omega]
def Hs{x:Int}(a:0<=x)(h1:x<256):Yu.wrap x=x:=by
 simp[IntKind.wrap,XU,Yg];omega
def below_drewN{B:Nat}{a w:F}(h:XS B a w)(n:Nat):XS B a (w.drewN n):=h.trans ⟨rfl,rfl,rfl,T8 _,λ_ _=>rfl⟩
def rJ{w:F}{base:Nat}{e:Uh}{a:Nat}{v:U}{n:Nat}{b:List U}(h:w.ownsRow base e a v n b)(k:Nat):(w.drewN k).ownsRow base e a v n b:=by
 induction k with
 |zero=>exact h
 |succ k c=>exact c.drew
def bM{w:F}{base B:Nat}{e:Uh}{b:Nat}{v:U}{n:Nat}{c:List U}(h:w.ownsRow base e b v n c)(k:B<=base):w.ownsRow B e b v n c:=by
 refine⟨h.1,?_⟩;rcases h.2 with a|⟨g,d,f,a,i,j⟩
 ·exact .inl a
 ·exact .inr ⟨g,d,f,a,Uy k i,j⟩
def aK{w w':F}{base:Nat}{e:Uh}{d:Nat}{v:U}{n:Nat}{f:List U}(h:w.ownsRow base e d v n f)(l:aP w w'):w'.ownsRow base e d v n f:=by
 refine⟨h.1,?_⟩;rcases h.2 with a|⟨b,g,i,a,j,c,k⟩
 ·exact .inl a
 ·exact .inr ⟨b,g,i,a,j,by rw[l.block b (Ue c)];exact c,k⟩
def aT{P:Uf}(w:F){ops:Array Oper}{rest:List Oper}{o:Oper}{a:Act}{Q:Exit->Act->F->Prop}
 (D:o.guard=K) (s x:U6) (t:Uh) (G:o.op=Op.call {callee:=Callee.builtin Builtin.append,args:= #[s,x],argTypes:= #[t,t]})
 (base:Nat) (e:Uh) (i:TypeInfo) (z:U) (b bytes:Nat) (h1:P.underlying t=I (.slice e)) (A:P.info? e=I i) (M:i.zero=I z) (B:i.size=b) (N:i.bytes=bytes) (O:z.cells.size=b) (R:0<b)
 (v:U) (n:Nat) (g:List U) (H:a.eval s=v) (l:w.ownsRow base e b v n g)
 (h:UJ) (m c:Nat) (news:List U) (J:a.eval x= .slice (I h) m c) (al:0<m) (E:news.length=m*b) (hc:∀j u,news[j]? =I u->w.cell? (h.add j)=I u) (y:∀u∈news,u.oneCell'=Z)
 (b1:n+m<=Uq) (b2:(n+m)*bytes<=140737488355328) (L:base<=w.heap.size)
 (C:∀d w',w'.ownsRow base e b d (n+m) (g++news)->((w.grownBy w' K/\w'.ownsRow w.heap.size e b d (n+m) (g++news))\/(d.ownBlock=v.ownBlock/\w.grownBy w' v.ownBlock))->wpList P ops Q rest (a.put o.dst d) w'):
 wpList P ops Q (o::rest) a w:=by
 rcases l.2 with⟨rfl,rfl⟩|⟨q,p,X,rfl,aa,ae,am,ab,ad,ao⟩
 ·have W:g=[]:=Vh (by simpa using l.1);subst W;exact wpList_append_grows w D s x t G e i z b bytes h1 A M B N O R K 0 0 [] H (λ_=>⟨rfl,rfl⟩) (by simp) (λS r=>by cases r) h m c news J E hc y (by omega) b1 b2
   λd w' f k=>C d w' (bM f L) (.inl ⟨k,f⟩)
 ·by_cases V:n+m<=p
  ·exact wpList_append_fits w D s x t G base e i b h1 A B q n p g H l h m c news J E hc y V λw' f k=>C _ w' f (.inr ⟨rfl,k⟩)
  ·exact wpList_append_grows w D s x t G e i z b bytes h1 A M B N O R (I ⟨q,0,K⟩) n p g H (λr=>by cases r) l.1 (λS T=>by cases T;exact l.cells (g:=q) Y) h m c news J E hc y (by omega) b1 b2
    λd w' f k=>C d w' (bM f L) (.inl ⟨k,f⟩)
def fh{a:List Int}{k:Nat}(h:k<a.length):a.getD k 0=a[k]:=by simp[Yw,h]
def bz (a:List Int):List U:=a.map (VY .i64)
def zZ{w:F}{base g n:Nat}{e:Uh}{b:List U}(h:w.ownsRow base e 1 (.slice (I ⟨g,0,K⟩) n n) n b):w.heap[g]? =I (.cells b.toArray e (0,0)):=by
 rcases h.2 with⟨a,_⟩|⟨k,j,c,a,_,d,_,_,f,i⟩
 ·simp at a
 ·simp only[VA,U8,Wh,and_true,true_and] at a;obtain⟨rfl,rfl⟩:=a;rw[d];have:c.toList=b:=by rw[<-i];exact(UO (by simp[f])).symm
  rw[<-this]
def F6(a:List Int)(i:Nat)(h:i<a.length):(bz a)[i]? =I (.int .i64 a[i]):=by simp[bz,h]
def By(n:Int)(a:0<=n)(b:n<2^62):XM.wrap n=n:=by rw[WY];omega
def MZ(b x a:Nat)(f:a<=16)(h:x<65536)(e:b<2^a):bits .or .i64 (b:Int) (Vb ((x:Int)*2^a))=((b+2^a*x:Nat):Int):=by
 have d:2^a<=2^16:=VO (by omega) f;have g:2^a*x<=2^16*65536:=Nat.mul_le_mul d (by omega);have c:Vb ((x:Int)*2^a)=((2^a*x:Nat):Int):=by
  rw[show(x:Int)*2^a=((2^a*x:Nat):Int) from by push_cast;rw[Int.mul_comm]];generalize 2^a*x=i at*;unfold Vb;omega
 rw[c,(bits_nat .i64 62 (by decide) By b (2^a*x) (by omega) (by omega)).2,Nat.or_comm,<-Nat.two_pow_add_eq_or_of_lt e x,Nat.add_comm]
def OZ(n b k a:Nat)(h:8*n+b=k*a):8*n+(b+a)=(k+1)*a:=by rw[Nat.add_mul k 1 a,Nat.one_mul];omega
def eR(a:List Nat)(x:Nat):aG a++[.int .u8 (x:Int)]=aG (a++[x]):=by simp[aG]
def IB(b:List Nat)(x:Nat)(h:∀y∈b,y<256)(d:x<256):∀y∈b++[x],y<256:=by
 intro y c;rcases U1.1 c with a|a
 ·exact h y a
 ·simp at a;omega
def QR(b:List Nat)(a A:Nat)(h:V b+256^b.length*a=A):V (b++[a%256])+256^(b++[a%256]).length*(a/256)=A:=by
 rw[Di,Ua,List.length_singleton,WL,Nat.mul_assoc,<-h];have:V [a%256]=a%256:=by simp[V]
 rw[this,U5,<-Ye];congr 2;omega
def FV(b a:Nat)(c:8<=a)(h:b<2^a):b/256<2^(a-8):=by
 rw[Nat.div_lt_iff_lt_mul (by omega),show(256:Nat)=2^8 by rfl,<-Xk,show a-8+8=a by omega];exact h
def Fu(c x a b:Nat)(h:c<2^a)(d:x<2^b):c+2^a*x<2^(a+b):=by
 rw[Xk];have:2^a*(x+1)<=2^a*2^b:=Xi _ d;rw[Ye] at this;omega
def QN(a:List Nat)(c x d b k:Nat)(l:List Nat)(e:k<l.length)(g:l[k]=x)(f:8*a.length+d=k*b)(h:V a+256^a.length*c=N b (l.take k)):
 V a+256^a.length*(c+2^d*x)=N b (l.take (k+1)):=by
 rw[Dd b l k e,g,<-h,Ye,<-Nat.mul_assoc,Ck,<-Xk,f,Xx k b,U5]
end Pk
end Go.Proofs.YtjidbonhhpkljaaGreat
namespace Go.Proofs.YtjidbonhhpkljaaGreat.Pm
def Lp(l:List Nat):V l=N 8 l:=by
 induction l with
 |nil=>rfl
 |cons c b a=>simp only[V,N,a]
def cJ (a:Nat)(l:List Nat):List Nat:=D 8 (N a l) ((l.length*a+7)/8)
def tf(b:Nat)(l:List Nat):∀x∈cJ b l,x<256:=λx a=>QJ 8 _ _ x a
def eZ(a:Nat)(l:List Nat):(cJ a l).length=(l.length*a+7)/8:=pu _ _ _
def tj(b:Nat)(l a:List Nat)(h1:a.length=(l.length*b+7)/8)(c:∀x∈a,x<256)(d:V a=N b l):a=cJ b l:=by
 refine Si a _ c (tf b l) (by rw[eZ,h1]) ?_;rw[Lp (cJ b l),cJ,SO,<-d,<-h1,<-Ck,Nat.mod_eq_of_lt (S4 a c)]
end Go.Proofs.YtjidbonhhpkljaaGreat.Pm
namespace Go.Proofs.YtjidbonhhpkljaaGreat.Pk
open Go.RowKit Go.Proofs.YtjidbonhhpkljaaGreat.Pm
def strOf(b:List Nat):ByteArray:=strOfNums (b.map (fun(a:Nat)=>(a:Int)))
def kK(a:List Nat):(strOf a).size=a.length:=by
 unfold strOf strOfNums;simp[ByteArray.size]
def Qy (b:Nat)(c:List Int):Bool:=c.all λa=>decide (0<=a)&&decide (a<pw b)
def Jw{a:Nat}{b:List Int}(h:Qy a b=Z):∀z∈b,0<=z/\z<pw a:=by
 intro z c;have:=Uz.1 h z c;simpa using this
def toNat_lt{a:Nat}{b:List Int}(h:Qy a b=Z):∀x∈b.map Int.toNat,x<2^a:=by
 intro x c;obtain⟨e,d,rfl⟩:=U7.1 c;have:=Jw h e d;unfold pw at this;omega
def qi{w:F}{base n:Nat}{v:U}{a:List Nat}(h:w.ownsRow base 5 1 v n (aG a))(c:a.length=n):
 (convert 133 9 v).run (aB T4) w= .ok (.string (strOf a)) w:=by
 rcases h.2 with⟨b,i⟩|⟨e,d,g,b,_⟩
 ·have f:a=[]:=Vh (by omega);subst f;subst b;exact run_convert_bytes_nil w 133 5 ay.underlying133 ay.underlying5 0 0 9 ay.underlying9
 ·subst b;exact run_convert_bytes_arg w 133 5 ay.underlying133 ay.underlying5 e 0 n d _ (by simp[c]) (I6 h c) 9 ay.underlying9
end Go.Proofs.YtjidbonhhpkljaaGreat.Pk
namespace Go.Proofs.YtjidbonhhpkljaaGreat.Pm
end Go.Proofs.YtjidbonhhpkljaaGreat.Pm
namespace Go.Proofs.YtjidbonhhpkljaaGreat.Pk
open Go.RowKit Go.Proofs.YtjidbonhhpkljaaGreat.Pm
def bytesOf(s:ByteArray):List Nat:=s.data.toList.map UInt8.toNat
def jA(s:ByteArray):∀x∈bytesOf s,x<256:=by
 intro x a;obtain⟨b,_,rfl⟩:=U7.1 a;exact b.toNat_lt
def aj(s:ByteArray):(bytesOf s).length=s.size:=by simp[bytesOf]
def vv(s:ByteArray)(j:Nat)(h:j<s.size):(bytesOf s)[j]'(by rw[aj];exact h)=s[j].toNat:=by
 simp only[bytesOf,List.getElem_map];rfl
def jU (l:List Nat):List Int:=l.map (fun(a:Nat)=>(a:Int))
def eS(a:List Int)(x:Int):bz a++[.int .i64 x]=bz (a++[x]):=by simp[bz]
end Go.Proofs.YtjidbonhhpkljaaGreat.Pk
namespace Go.Proofs.YtjidbonhhpkljaaGreat
namespace Pk
open Go.RowKit Pm
def nG(a:List Nat)(h:∀x∈a,x<256):bytesOf (strOf a)=a:=by
 unfold bytesOf strOf strOfNums;simp only[List.map_map];have:∀x∈a,(UInt8.toNat ∘ (fun(b:Int)=>UInt8.ofNat b.toNat) ∘ fun(b:Nat)=>(b:Int)) x=x:=by
  intro x c;have:=h x c;simp;omega
 rw[List.map_congr_left this];simp
def m9{s t:ByteArray}(h:bytesOf s=bytesOf t):s=t:=by
 have a:s.data.toList=t.data.toList:=by
  unfold bytesOf at h;exact List.map_inj_right (λc d b=>UInt8.toNat_inj.1 b) |>.1 h
 cases s;cases t;simp at a;simp[a]
def toList_inj{s t:ByteArray}(h:s.toList=t.toList):s=t:=by
 have b:∀a:ByteArray,a.toList=a.data.toList:=λa=>XJ a;rw[b,b] at h;cases s;cases t;simp at h;simp[h]
def DQ(s:ByteArray)(p:Nat)(h:p<s.size):s.extract p (p+1)=⟨#[s[p]]⟩:=by
 apply m9;unfold bytesOf;congr 1;rw[ByteArray.data_extract];simp only[Array.toList_extract];have a:p<s.data.toList.length:=h;rw[show List.extract s.data.toList p (p+1)=(s.data.toList.drop p).take 1 from by simp[List.extract],Wo a];rfl
def cg (s:ByteArray)(p:Nat):Xv:=.cells #[.string s,.int .i64 (p:Int)] 182 (0,0)
def eD (p:Nat):List Vr:=[{v:=.iface 205 (.agg #[.int .i64 (p:Int)]),recovered:=T7}]
def kJ{w:F}{r p:Nat}{s:ByteArray}(h:w.heap[r]? =I (cg s p)):
 aM w r 0 (.string s)/\aM w r 1 (.int .i64 (p:Int))/\w.frozen? ⟨r,0,K⟩=T7/\w.frozen? ⟨r,1,K⟩=T7:=by
 unfold cg at h;refine⟨?_,?_,?_,?_⟩
 ·simp[Us,h]
 ·simp[Us,h]
 ·simp[UQ,h]
 ·simp[UQ,h]
def DL(w:F)(a:UJ)(v:U)(m n:Nat):((w.drewN m).setCell a v).drewN n=(w.setCell a v).drewN (m+n):=by
 rw[show(w.drewN m).setCell a v=(w.setCell a v).drewN m from by unfold Ya;rfl,Xh]
def b8(r p:Nat)(s:ByteArray)(w:F)(h:w.heap[r]? =I (cg s p)):
 bH 97 #[.pointer (I ⟨r,0,K⟩)] w λe w'=>e= .panicked (eD p)/\w'=w:=by
 obtain⟨a,b,c,d⟩:=kJ h;go_enter ay.func97,Tryz.ntmps97;go_wp2;exact⟨rfl,rfl,rfl⟩
def NU(r p:Nat)(s:ByteArray)(w:F)(b:s.size<=Uq)(j:¬p<s.size)(k:p<=s.size)(h:w.heap[r]? =I (cg s p)):
 bH 128 #[.pointer (I ⟨r,0,K⟩),.int .i64 1] w λe w'=>e= .panicked (eD p)/\∃n,w'=w.drewN n:=by
 obtain⟨c,d,f,g⟩:=kJ h;unfold Uq at b;have a:=af h;have i:decide ((s.size:Int)-(p:Int)<1)=Z:=by simp;omega
 go_enter ay.func128,Tryz.ntmps128
 go_wp2_with fail
 go_quiet (fail)
 go_wp2_with (go_at_call 97;refine(b8 r p s _ (by exact a.o)).mono ?_;rintro e w' ⟨rfl,rfl⟩)
 exact⟨rfl,rfl,nq,rfl⟩
def P5(r p:Nat)(s:ByteArray)(w:F)(a:s.size<=Uq)(b:p<s.size)(h:w.heap[r]? =I (cg s p)):
 bH 128 #[.pointer (I ⟨r,0,K⟩),.int .i64 1] w λe w'=>e= .returned (.string ⟨#[s[p]]⟩)/\∃n,w'=(w.setCell ⟨r,1,K⟩ (.int .i64 ((p+1:Nat):Int))).drewN n:=by
 obtain⟨c,d,f,g⟩:=kJ h;unfold Uq at a;have i:decide ((s.size:Int)-(p:Int)<1)=T7:=by simp;omega
 have j:(0:Int)<=(p:Int)+1:=by omega
 have k:(p:Int)+1<=(s.size:Int):=by omega
 have l:(p:Int)<=(p:Int)+1:=by omega
 have o:((p:Int)+1).toNat=p+1:=by omega
 have q:=DQ s p b;go_enter ay.func128,Tryz.ntmps128
 go_wp2_with fail
 go_quiet (fail)
 generalize nq=m at*
 go_wp2_with fail
 go_quiet (fail)
 go_wp2;go_ret;exact⟨rfl,m+nq,DL _ _ _ _ _⟩
def sM(r p:Nat)(s:ByteArray)(w:F)(b:s.size<=Uq)(c:¬p<s.size)(d:p<=s.size)(h:w.heap[r]? =I (cg s p)):
 bH 129 #[.pointer (I ⟨r,0,K⟩)] w λe w'=>e= .panicked (eD p)/\∃n,w'=w.drewN n:=by
 have a:=af h;go_enter ay.func129,Tryz.ntmps129
 go_wp2_with (go_at_call 128;refine(NU r p s _ b c d a.o).mono ?_;rintro e w' ⟨rfl,n,rfl⟩)
 exact⟨rfl,rfl,n,rfl⟩
def xf(r p:Nat)(s:ByteArray)(w:F)(b:s.size<=Uq)(c:p<s.size)(h:w.heap[r]? =I (cg s p)):
 bH 129 #[.pointer (I ⟨r,0,K⟩)] w λe w'=>e= .returned (.int .u8 (s[p].toNat:Int))/\∃n,w'=(w.setCell ⟨r,1,K⟩ (.int .i64 ((p+1:Nat):Int))).drewN n:=by
 have a:=af h;go_enter ay.func129,Tryz.ntmps129
 go_wp2_with (go_at_call 128;refine(P5 r p s _ b c a.o).mono ?_;rintro e w' ⟨rfl,n,rfl⟩)
 go_ret;exact⟨rfl,n,rfl⟩
def BX(r p:Nat)(s:ByteArray)(w:F)(b:s.size<=Uq)(j:p<s.size)(h:w.heap[r]? =I (cg s p)):
 bH 93 #[.pointer (I ⟨r,0,K⟩)] w λe w'=>e= .panicked (eD p)/\∃n,w'=w.drewN n:=by
 obtain⟨c,d,f,g⟩:=kJ h;unfold Uq at b;have a:=af h;have i:decide ((p:Int)<(s.size:Int))=Z:=by simp;omega
 go_enter ay.func93,Tryz.ntmps93
 go_wp2_with fail
 go_quiet (fail)
 go_wp2_with (go_at_call 97;refine(b8 r p s _ (by exact a.o)).mono ?_;rintro e w' ⟨rfl,rfl⟩)
 exact⟨rfl,rfl,nq,rfl⟩
def FY(r p:Nat)(s:ByteArray)(w:F)(a:s.size<=Uq)(i:¬p<s.size)(h:w.heap[r]? =I (cg s p)):
 bH 93 #[.pointer (I ⟨r,0,K⟩)] w λe w'=>e= .returned (.tuple #[])/\∃n,w'=w.drewN n:=by
 obtain⟨b,c,d,f⟩:=kJ h;unfold Uq at a;have g:decide ((p:Int)<(s.size:Int))=T7:=by simp;omega
 go_enter ay.func93,Tryz.ntmps93
 go_wp2_with fail
 go_quiet (fail)
 go_wp2
 go_end0
 exact⟨rfl,nq,rfl⟩
def nM(s:ByteArray)(w:F):
 bH 65 #[.string s] w λe w'=>e= .returned (.pointer (I ⟨w.heap.size,0,K⟩))/\w'=w.alloc (cg s 0):=by
 go_enter ay.func65,Tryz.ntmps65;go_wp2;go_ret;exact⟨rfl,rfl⟩
def lV{w:F}{r p q:Nat}{s:ByteArray}(h:w.heap[r]? =I (cg s p))(n:Nat):((w.setCell ⟨r,1,K⟩ (.int .i64 (q:Int))).drewN n).heap[r]? =I (cg s q):=by
 show(w.setCell ⟨r,1,K⟩ (.int .i64 (q:Int))).heap[r]? =_;unfold cg at*;rw[heap_setCell_same w r 1 _ _ _ h];rfl
def Kp (r:Nat)(w w':F):Prop:=w.grownBy w' (I r)
def Kp.refl(r:Nat)(w:F):Kp r w w:=YQ w _
def Kp.size{r:Nat}{w w':F}(h:Kp r w w'):w.heap.size<=w'.heap.size:=Xo h
def Kp.trans{r:Nat}{w d e:F}(h:Kp r w d)(k:Kp r d e):Kp r w e:=
 ⟨k.os.trans h.os,k.tape.trans h.tape,k.output.trans h.output,Uy (Xo h) (Xo k),λc a b=>(Wv k c (Ud a (Xo h)) b).trans (Wv h c a b)⟩
def Kp.drewN{r:Nat}{w a:F}(h:Kp r w a)(n:Nat):Kp r w (a.drewN n):=Kp.trans h ⟨rfl,rfl,rfl,T8 _,λ_ _ _=>rfl⟩
def Kp.alloc{r:Nat}{w a:F}(h:Kp r w a)(o:Xv):Kp r w (a.alloc o):=Kp.trans h (World.grownBy_alloc a o _)
def Kp.grown{r:Nat}{w d e:F}{c:Option Nat}(h:Kp r w d)(k:d.grownBy e c)(j:∀g,c=I g->w.heap.size<=g):Kp r w e:=
 ⟨k.os.trans h.os,k.tape.trans h.tape,k.output.trans h.output,Uy (Xo h) k.size,λa b i=>(k.block a (Ud b (Xo h)) (λf=>by have:=j a f.symm;omega)).trans (Wv h a b i)⟩
def Kp.set{r:Nat}{w a:F}(h:Kp r w a)(o:Nat)(v:U)(n:Nat):Kp r w ((a.setCell ⟨r,o,K⟩ v).drewN n):=
 Kp.trans h ⟨rfl,rfl,rfl,by simp,λd e c=>by
  show(a.setCell ⟨r,o,K⟩ v).heap[d]? =_;exact heap_setCell_other _ _ _ _ (λb=>c (by cases b;rfl))⟩
def Kp.below{r:Nat}{w a:F}(h:Kp r w a)(e:r<=w.heap.size):XS r w a:=⟨h.os,h.tape,h.output,Xo h,λc d=>Wv h c (by omega) (λb=>by cases b;omega)⟩
def Kp.cr{r:Nat}{w a:F}(h:aP w a):Kp r w a:=⟨h.os,h.tape,h.output,h.size,λc b _=>h.block c b⟩
def Kp.own{r:Nat}{w b:F}{base e a n:Nat}{v:U}{c:List U}(k:Kp r w b)(h:w.ownsRow base e a v n c)(g:r<base):b.ownsRow base e a v n c:=
 h.kept k (by
  cases d:v.ownBlock with
  |none=>exact .inl Y
  |some f=>exact .inr (λe=>by cases e;have:=(h.lt r d).1;omega))
def Kp.block{r:Nat}{w a:F}(k:Kp r w a){i:Nat}{o:Xv}(h:w.heap[i]? =I o)(c:i≠r):a.heap[i]? =I o:=by
 rw[Wv k i (Ue h) (λb=>c (by cases b;rfl))];exact h
end Pk
namespace Ec
open Pk Pm
def ju:Nat->Nat->List Nat
 |0,a=>[]
 |f+1,a=>if a<128 then[a] else(a%128+128)::ju f (a/128)
def aL (n:Nat):List Nat:=ju 10 n
def fL(f n:Nat)(h:n<128):ju (f+1) n=[n]:=by simp[ju,h]
def iR(f n:Nat)(h:¬n<128):ju (f+1) n=(n%128+128)::ju f (n/128):=by simp[ju,h]
def N6(f n:Nat):∀x∈ju f n,x<256:=by
 induction f generalizing n with
 |zero=>simp[ju]
 |succ f d=>
  intro x a;by_cases b:n<128
  ·rw[fL f n b] at a;simp at a;omega
  ·rw[iR f n b] at a;rcases VM.1 a with c|c
   ·omega
   ·exact d _ x c
def cm(f n:Nat):(ju f n).length<=f:=by
 induction f generalizing n with
 |zero=>simp[ju]
 |succ f b=>
  by_cases a:n<128
  ·rw[fL f n a];simp
  ·rw[iR f n a];have:=b (n/128);simp;omega
def Ru(f:Nat)(n:Nat)(h:n<128^(f+1)):n/128<128^f:=by
 rw[WL] at h;exact Nat.div_lt_of_lt_mul (by rw[Xx];exact h)
def JP(n:Nat)(h:n<18446744073709551616):n<128^10:=by
 have:(128:Nat)^10=1180591620717411303424:=by decide
 omega
def zz (n:Int):Nat:=if n<0 then(-2*n-1).toNat else(2*n).toNat
def BA(n:Int)(a: -9223372036854775808<=n)(h1:n<=9223372036854775807):zz n<18446744073709551616:=by
 unfold zz;split<;>omega
def Sz:∀x,x<256->x|||128=x%128+128:=by decide +kernel
end Ec
end Go.Proofs.YtjidbonhhpkljaaGreat
namespace Go.Proofs.YtjidbonhhpkljaaGreat.Ec
open Go.RowKit Go.Proofs.YtjidbonhhpkljaaGreat.Pk
structure aE where
 null:Bool
 n:Int
 s:ByteArray
def aE.agg(v:aE):U:=.agg #[.bool v.null,.int .i64 v.n,.string v.s]
def aH (l:List aE):List U:=l.flatMap λv=>[.bool v.null,.int .i64 v.n,.string v.s]
structure sJ(w:F)(ao:Option UJ)(b off:Nat)(l:List aE):Prop where
 addr:0<l.length->ao=I ⟨b,off,K⟩
 lt:0<l.length->b<w.heap.size
 c0:∀j (h:j<l.length),aM w b (off+j*3) (.bool l[j].null)
 c1:∀j (h:j<l.length),aM w b (off+j*3+1) (.int .i64 l[j].n)
 c2:∀j (h:j<l.length),aM w b (off+j*3+2) (.string l[j].s)
def sJ.below{w w':F}{e:Option UJ}{b off:Nat}{l:List aE}(h:sJ w e b off l)(d:aP w w'):sJ w' e b off l:=
 ⟨h.addr,λf=>Ud (h.lt f) d.size,
  λa c=>(d.cell (p:=⟨b,off+a*3,K⟩) (h.lt (by omega))).trans (h.c0 a c),
  λa c=>(d.cell (p:=⟨b,off+a*3+1,K⟩) (h.lt (by omega))).trans (h.c1 a c),
  λa c=>(d.cell (p:=⟨b,off+a*3+2,K⟩) (h.lt (by omega))).trans (h.c2 a c)⟩
def Fi (x y:aE):Bool:=(x.null==y.null)&&(x.n==y.n)&&(x.s.toList==y.s.toList)
def nB{x y:aE}:Fi x y=Z↔x=y:=by
 unfold Fi;constructor
 ·intro a;simp only[Uw,beq_iff_eq] at a;obtain⟨⟨b,c⟩,d⟩:=a;cases x;cases y;simp only at b c d;rw[b,c,toList_inj d]
 ·rintro rfl;simp
def EC(w:F)(x y:aE):(binOp .neq 59 (.agg #[.bool x.null,.int .i64 x.n,.string x.s]) (.agg #[.bool y.null,.int .i64 y.n,.string y.s])).run (aB T4) w= .ok (.bool (!Fi x y)) w:=by
 go_simp;unfold Fi;by_cases a:x.null=y.null<;>by_cases b:x.n=y.n<;>by_cases c:x.s.toList=y.s.toList<;>simp[a,b,c]
def zi(c d:List aE)(v bo:Option UJ)(b off cap b2 q H:Nat)(w:F)(I:c.length<=Uq)(J:d.length<=Uq)
 (h1:sJ w v b off c) (j:sJ w bo b2 q d):
 bH 29 #[.slice v c.length cap,.slice bo d.length H] w λe w'=>∃b,e= .returned (.bool b)/\(b=Z↔c=d)/\∃n,w'=w.drewN n:=by
 unfold Uq at I J;by_cases o:c.length=d.length
 ·have y:((c.length:Int) !=(d.length:Int))=T7:=by simp[o]
  have u:=af o;clear o;go_enter ay.func29,Tryz.ntmps29
  go_wp2_with fail
  clear y
  go_loopw [5] (λt wr=>∃a:Nat,a<=c.length/\t= .int .i64 a/\c.take a=d.take a/\∃n,wr=w.drewN n) (λt _=>c.length-(US t).toNat)
  case atStart=>exact⟨0,UE _,rfl,rfl,0,rfl⟩
  case round=>
   obtain⟨a,K,rfl,A,n,f⟩:=hrel;have r:=af A;clear A;by_cases l:a<c.length
   ·have p:a<d.length:=by rw[<-u.o];exact l
    obtain rfl:=h1.addr (by omega);obtain rfl:=j.addr (by omega);have L:aM wr b (off+a*3) (.bool c[a].null):=by rw[f];exact h1.c0 a l
    have M:aM wr b (off+a*3+1) (.int .i64 c[a].n):=by rw[f];exact h1.c1 a l
    have N:aM wr b (off+a*3+2) (.string c[a].s):=by rw[f];exact h1.c2 a l
    have O:aM wr b2 (q+a*3) (.bool d[a].null):=by rw[f];exact j.c0 a p
    have P:aM wr b2 (q+a*3+1) (.int .i64 d[a].n):=by rw[f];exact j.c1 a p
    have Q:aM wr b2 (q+a*3+2) (.string d[a].s):=by rw[f];exact j.c2 a p
    have m:=af f;have i:X (c[a]≠d[a]->c≠d):=λg e=>g (by subst e;rfl);have s:X (c[a]=d[a]->c.take (a+1)=d.take (a+1)):=λg=>by rw[Uo l,Uo p,r.o,g]
    have z:=λw=>EC w c[a] d[a];clear f h1 j r;generalize c[a]=B at*;generalize d[a]=C at*;by_cases h:B=C
    ·have k:=nB.2 h;have G:=af (s.o h);rw[k] at z;clear s i h k
     go_wp2_with fail
     go_quiet (fail)
     go_wp2
     go_roundw
     case rel=>exact⟨a+1,by omega,by go_num,G.o,n+nq,by rw[m.o];exact Xh _ _ _⟩
     case measure=>simp[US];omega
    ·have k:Fi B C=T7:=by rw[Bool.eq_false_iff];intro g;exact h (nB.1 g)
     have E:=af (i.o h);rw[k] at z;clear s i h k
     go_wp2_with fail
     go_quiet (fail)
     go_wp2;go_ret;exact⟨T7,rfl,by simp;exact E.o,n+nq,by rw[m.o];exact Xh _ _ _⟩
   ·have x:c=d:=by
     have:=r.o;rwa [UO (by omega),UO (by rw[<-u.o];omega)] at this
    have D:=af x;have m:=af f;clear x f;go_wp2;go_ret;exact⟨Z,rfl,by simp;exact D.o,n,m.o⟩
 ·have y:((c.length:Int) !=(d.length:Int))=Z:=by simp;omega
  have i:X (c≠d):=λg=>o (by rw[g]);go_enter ay.func29,Tryz.ntmps29;go_wp2;go_ret;exact⟨T7,rfl,by simp;exact i.o,0,rfl⟩
end Go.Proofs.YtjidbonhhpkljaaGreat.Ec
namespace Go.Proofs.YtjidbonhhpkljaaGreat
abbrev gZ(x:Ec.aE):Array U:= #[.bool x.null,.int .i64 x.n,.string x.s]
end Go.Proofs.YtjidbonhhpkljaaGreat
namespace Go.Proofs.YtjidbonhhpkljaaGreat
namespace Ec
open Go.RowKit Pk Pm
structure aR(w w':F)(v v':U):Prop where
 fO:w.grownBy w' v.ownBlock
 at_:∀g,v'.ownBlock=I g->v.ownBlock=I g\/w.heap.size<=g
def aR.refl(w:F)(v:U):aR w w v v:=⟨YQ w _,λ_ a=>.inl a⟩
def aR.trans{w g h:F}{v v1 v2:U}(h1:aR w g v v1)(b:aR g h v1 v2):aR w h v v2:=by
 refine⟨⟨b.fO.os.trans h1.fO.os,b.fO.tape.trans h1.fO.tape,b.fO.output.trans h1.fO.output,Uy h1.fO.size b.fO.size,?_⟩,?_⟩
 ·intro c e f;rw[b.fO.block c (Ud e h1.fO.size) (λj=>?_),h1.fO.block c e f];rcases h1.at_ c j.symm with a|a
  ·exact f a.symm
  ·omega
 ·intro d i;rcases b.at_ d i with a|a
  ·exact h1.at_ d a
  ·exact .inr (Uy h1.fO.size a)
def aR.alloc{w a:F}{v v1:U}(h:aR w a v v1)(o:Xv):aR w (a.alloc o) v v1:=
 h.trans ⟨World.grownBy_alloc a o _,λ_ h=>.inl h⟩
def aR.drewN{w a:F}{v v1:U}(h:aR w a v v1)(n:Nat):aR w (a.drewN n) v v1:=
 h.trans ⟨⟨rfl,rfl,rfl,T8 _,λ_ _ _=>rfl⟩,λ_ h=>.inl h⟩
def aR.below{w w':F}{v c:U}{base:Nat}(h:aR w w' v c)(b:∀g,v.ownBlock=I g->base<=g)(a:base<=w.heap.size):XS base w w':=
 (Up base w).grown h.fO a b
def aR.append{w b:F}{v v1:U}{e k n:Nat}{l:List U}{o:Xv}
 (h:((w.alloc o).grownBy b K/\b.ownsRow (w.alloc o).heap.size e k v1 n l)\/(v1.ownBlock=v.ownBlock/\(w.alloc o).grownBy b v.ownBlock)):aR w b v v1:=by
 have g:=(aR.refl w v).alloc o;refine g.trans ?_;rcases h with⟨a,c⟩|⟨a,c⟩
 ·refine⟨⟨a.os,a.tape,a.output,a.size,λj i _=>a.block j i (by simp)⟩,λf d=>.inr (c.lt f d).1⟩
 ·exact⟨c,λf d=>.inl (by rw[<-a];exact d)⟩
def LQ{w:F}{g:Nat}{x:Nat}(hc:aM w g 0 (.int .u8 (x:Int))):
 (convert 133 9 (.slice (I ⟨g,0,K⟩) 1 1)).run (aB T4) w= .ok (.string (strOf [x])) w:=
 run_convert_bytes_arg w 133 5 ay.underlying133 ay.underlying5 g 0 1 1 [(x:Int)] Y (λa b=>by
  have:a=0:=by omega
  subst this;exact hc) 9 ay.underlying9
def gS(w:F)(a:U)(t:Uh):∀(j:Nat) (u:U),[a][j]? =I u->(w.alloc (.cells #[a] t)).cell? ((⟨w.heap.size,0,K⟩:UJ).add j)=I u:=by
 intro j u b
 match j,b with
 |0,b=>simp at b;subst b;simp[Yr]
def jm(x:Int):∀u∈[VY .u8 x],u.oneCell'=Z:=by
 intro u a;simp at a;subst a;rfl
def DC(w:F)(x:Nat):(convert 133 9 (.slice (I ⟨w.heap.size,0,K⟩) 1 1)).run (aB T4) (w.alloc (.cells #[.int .u8 (x:Int)] 5))= .ok (.string (strOf [x])) (w.alloc (.cells #[.int .u8 (x:Int)] 5)):=
 LQ (by simp)
def Qc(f n:Nat)(w:F)(h:n<128):bH 133 #[.int .u64 n] w λe w'=>e= .returned (.string (strOf (ju (f+1) n)))/\aP w w':=by
 rw[fL f n h];have a:=DC w n;go_enter ay.func133,Tryz.ntmps133;go_wp2;go_ret;exact⟨rfl,(Up _ _).alloc (T8 _) _⟩
def SA(n:Nat):bits .or .u8 ((n:Int)%256) 128=((n%128+128:Nat):Int):=by
 have a:=(bits_nat .u8 8 (by decide) wraps_u8 (n%256) 128 (by omega) (by omega)).2;rw[show((n%256:Nat):Int)=(n:Int)%256 from by omega,Sz (n%256) (by omega)] at a;rw[show(128:Int)=((128:Nat):Int) from rfl,a];omega
def nU(v:U)(pre:List Nat)(n base:Nat)(w:F)(C:n<18446744073709551616)(V:pre.length<=4000000)(R:base<=w.heap.size)
 (d:w.ownsRow base 5 1 v pre.length (aG pre)):
 bH 121 #[v,.int .u64 n] w λe w'=>∃l,e= .returned l/\w'.ownsRow base 5 1 l (pre++aL n).length (aG (pre++aL n))/\aR w w' v l:=by
 obtain⟨I,A,E,G,H⟩:=Ve ay.rG;go_enter ay.func121,Tryz.ntmps121
 go_wp2_with fail
 go_loopw [0,1] (λs k wr=>∃(f m:Nat) (a:List Nat),f<=9/\k= .int .u64 m/\m<128^(f+1)/\m<18446744073709551616/\a.length+f=9/\a++ju (f+1) m=aL n/\wr.ownsRow base 5 1 s (pre++a).length (aG (pre++a))/\aR w wr v s/\w.heap.size<=wr.heap.size) (λ_ k _=>(US k).toNat)
 case atStart=>exact⟨9,n,[],by omega,rfl,JP n C,C,rfl,rfl,by simpa using d,aR.refl _ _,T8 _⟩
 case round=>
  obtain⟨f,m,a,S,rfl,B,W,u,x,d,y,aa⟩:=hrel;have q:=af B;have o:=af x;have L:=af u;have Z:(pre++a).length<=4000009:=by simp;omega
  clear B x u;have p:=af y;clear y;have M:X (∃c,c=pre++a):=⟨_,rfl⟩;generalize D:pre++a=c at*;have r:=af D;clear D M;by_cases t:m<128
  ·have ab:Yu.wrap (m:Int)=(m:Int):=Hs (by omega) (by omega)
   go_wp2_with (at_builtin;refine aT _ Y _ _ 133 Y base 5 I (.int .u8 0) 1 1 ay.underlying133 A E G H Y (by decide) _ c.length _ Y (d.alloc _) ⟨wr.heap.size,0,K⟩ 1 1 [.int .u8 (m:Int)] Y (by decide) Y (gS _ _ _) (jm _) (by unfold Uq;omega) (by omega) (by simp;omega) ?_;intro Q J b i)
   go_ret;refine⟨_,rfl,?_,p.o.trans (aR.append i)⟩;rw[eR] at b;have e:pre++aL n=c++[m]:=by rw[<-o.o,fL f m t,<-r.o,UC]
   rw[e];simpa using b
  ·have O:=SA m;obtain⟨g,j⟩:∃g,g=m%128+128:=⟨_,rfl⟩;rw[<-j] at O;have T:0<f:=by
    rcases Nat.eq_zero_or_pos f with h|h
    ·subst h;have:=q.o;simp at this;omega
    ·exact h
   have N:=af j;clear j
   go_wp2_with (at_builtin;refine aT _ Y _ _ 133 Y base 5 I (.int .u8 0) 1 1 ay.underlying133 A E G H Y (by decide) _ c.length _ Y (d.alloc _) ⟨wr.heap.size,0,K⟩ 1 1 [.int .u8 (g:Int)] Y (by decide) Y (gS _ _ _) (jm _) (by unfold Uq;omega) (by omega) (by simp;omega) ?_;intro Q J b i)
   have z:=p.o.trans (aR.append i);have P:w.heap.size<=J.heap.size:=z.fO.size;rw[eR] at b;refine⟨⟨f-1,m/128,a++[g],by omega,by go_num,?_,by omega,by have:=L.o;simp;omega,?_,?_,z,P⟩,by simp[US];omega⟩
   ·have:=Ru f m q.o;rwa [show f-1+1=f by omega]
   ·rw[<-o.o,iR f m t,show f-1+1=f by omega,N.o,UC];rfl
   ·rw[<-UC,r.o];simpa using b
def wrap_u64(n:Int):Wl.wrap n=n%18446744073709551616:=by simp[IntKind.wrap,Yg,XU]
def xor_zero(x:Nat)(a:x<18446744073709551616):bits .xor .u64 (x:Int) 0=(x:Int):=by
 show Wl.wrap (((Xb 64 (x:Int))^^^(Xb 64 0)).toNat:Int)=_;rw[BitVec.ofInt_natCast,show Xb 64 0=0#64 from rfl,BitVec.xor_zero,BitVec.toNat_ofNat,wrap_u64];omega
def Of(x:Nat)(a:x<18446744073709551616):bits .xor .u64 (x:Int) 18446744073709551615=((18446744073709551615-x:Nat):Int):=by
 show Wl.wrap (((Xb 64 (x:Int))^^^(Xb 64 18446744073709551615)).toNat:Int)=_;rw[BitVec.ofInt_natCast,show Xb 64 18446744073709551615=BitVec.allOnes 64 from by decide +kernel,BitVec.xor_allOnes,BitVec.toNat_not,BitVec.toNat_ofNat,wrap_u64];omega
def Ok(n:Int)(e: -9223372036854775808<=n)(h1:n<=9223372036854775807):
 bits .xor .u64 (Wl.wrap (Vb (n*2))) (Wl.wrap (n/9223372036854775808))=(zz n:Int):=by
 by_cases d:n<0
 ·have c:Wl.wrap (n/9223372036854775808)=18446744073709551615:=by rw[wrap_u64];omega
  obtain⟨b,a⟩:∃b:Nat,Wl.wrap (Vb (n*2))=(b:Int):=⟨(Wl.wrap (Vb (n*2))).toNat,by rw[wrap_u64];omega⟩;rw[a,c];rw[wrap_u64] at a;unfold Vb at a;rw[Of b (by omega)];unfold zz;rw[if_pos d];omega
 ·have c:Wl.wrap (n/9223372036854775808)=0:=by rw[wrap_u64];omega
  obtain⟨b,a⟩:∃b:Nat,Wl.wrap (Vb (n*2))=(b:Int):=⟨(Wl.wrap (Vb (n*2))).toNat,by rw[wrap_u64];omega⟩;rw[a,c];rw[wrap_u64] at a;unfold Vb at a;rw[xor_zero b (by omega)];unfold zz;rw[if_neg d];omega
def fX (k:Int):Bool:=decide (1<=k)&&decide (k<=3)
def bJ (k e:Int):Bool:=((e==0||e==2)&&fX k)||(e==1&&k==1)||(e==3&&k==2)
def oz(k:Int)(w:F):bH 120 #[.int .i64 k] w λe w'=>e= .returned (.bool (fX k))/\w'=w:=by
 by_cases a:1<=k<;>by_cases b:k<=3
 all_goals
  go_enter ay.func120,Tryz.ntmps120;go_wp2
  all_goals go_ret
  all_goals exact⟨by simp[fX,a,b],rfl⟩
def BM(e:Int):e=0\/e=1\/e=2\/e=3\/((e==0)=T7/\(e==1)=T7/\(e==2)=T7/\(e==3)=T7):=by
 by_cases a:e=0
 ·exact .inl a
 by_cases b:e=1
 ·exact .inr (.inl b)
 by_cases c:e=2
 ·exact .inr (.inr (.inl c))
 by_cases d:e=3
 ·exact .inr (.inr (.inr (.inl d)))
 exact .inr (.inr (.inr (.inr ⟨by simpa using a,by simpa using b,by simpa using c,by simpa using d⟩)))
def o7(k e:Int)(w:F):bH 83 #[.int .i64 k,.int .i64 e] w λr w'=>r= .returned (.bool (bJ k e))/\w'=w:=by
 have g:∀a:Bool,(a||false)=a:=by simp
 rcases BM e with rfl|rfl|rfl|rfl|⟨b,c,d,f⟩
 ·rw[show bJ k 0=fX k from by simp[bJ]];go_enter ay.func83,Tryz.ntmps83
  go_wp2_with (go_at_call 120;refine(oz k _).mono ?_;rintro e w' ⟨rfl,rfl⟩)
  go_ret;exact⟨rfl,rfl⟩
 ·rw[show bJ k 1=(k==1) from by simp[bJ]];go_enter ay.func83,Tryz.ntmps83;go_wp2
  all_goals go_ret
  all_goals exact⟨rfl,rfl⟩
 ·rw[show bJ k 2=fX k from by simp[bJ]];go_enter ay.func83,Tryz.ntmps83
  go_wp2_with (go_at_call 120;refine(oz k _).mono ?_;rintro e w' ⟨rfl,rfl⟩)
  go_ret;exact⟨rfl,rfl⟩
 ·rw[show bJ k 3=(k==2) from by simp[bJ]];go_enter ay.func83,Tryz.ntmps83;go_wp2
  all_goals go_ret
  all_goals exact⟨rfl,rfl⟩
 ·rw[show bJ k e=T7 from by simp[bJ,b,c,d,f]];go_enter ay.func83,Tryz.ntmps83;go_wp2
  all_goals go_ret
  all_goals exact⟨rfl,rfl⟩
def MT{k e:Int}(a:(k==1)=T7)(b:(k==2)=T7)(f:(k==3)=T7):bJ k e=T7:=by
 have d:fX k=T7:=by
  simp at a b f;unfold fX;by_cases c:1<=k
  ·have:¬k<=3:=by omega
   simp[this]
  ·simp[c]
 simp[bJ,d,a,b]
def Pu{k e:Int}(a:(e==0)=T7)(h1:(e==1)=T7)(b:(e==2)=T7)(c:(e==3)=T7):bJ k e=T7:=by simp[bJ,a,h1,b,c]
def jC (n k e:Int):Int:=if n<0\/100<n then 6 else if bJ k e then 0 else 2
def o5(n k e:Int)(w:F):bH 123 #[.int .i64 n,.int .i64 k,.int .i64 e] w λr w'=>r= .returned (.int .i64 (jC n k e))/\w'=w:=by
 by_cases b:n<0\/100<n
 ·have a:=pN n w;rw[show FI n=6 from by simp[FI,b]] at a;rw[show jC n k e=6 from by simp[jC,b]];go_enter ay.func123,Tryz.ntmps123
  go_wp2_with (go_at_call 141;refine a.mono ?_;rintro e w' ⟨rfl,rfl⟩)
  all_goals go_ret
  all_goals exact⟨rfl,rfl⟩
 ·have a:=pN n w;rw[show FI n=0 from by simp[FI,b]] at a;have c:=o7 k e;by_cases d:bJ k e=Z
  ·rw[show jC n k e=0 from by simp[jC,b,d]];rw[d] at c;go_enter ay.func123,Tryz.ntmps123
   go_wp2_with (first|(go_at_call 141;refine a.mono ?_;rintro e w' ⟨rfl,rfl⟩)|(go_at_call 83;refine(c _).mono ?_;rintro e w' ⟨rfl,rfl⟩))
   all_goals go_ret
   all_goals exact⟨rfl,rfl⟩
  ·have f:bJ k e=T7:=by simpa using d
   rw[show jC n k e=2 from by simp[jC,b,f]];rw[f] at c;go_enter ay.func123,Tryz.ntmps123
   go_wp2_with (first|(go_at_call 141;refine a.mono ?_;rintro e w' ⟨rfl,rfl⟩)|(go_at_call 83;refine(c _).mono ?_;rintro e w' ⟨rfl,rfl⟩))
   all_goals go_ret
   all_goals exact⟨rfl,rfl⟩
def cP(v:U)(pre:List Nat)(n base:Nat)(w:F)(i:n<2147483648)(g:pre.length<=4000000)(f:base<=w.heap.size)
 (h:w.ownsRow base 5 1 v pre.length (aG pre)):
 bH 84 #[v,.int .i64 n] w λe w'=>∃a,e= .returned a/\w'.ownsRow base 5 1 a (pre++aL n).length (aG (pre++aL n))/\aR w w' v a:=by
 have b:X (bH 121 #[v,.int .u64 n] w λe w'=>∃a,e= .returned a/\w'.ownsRow base 5 1 a (pre++aL n).length (aG (pre++aL n))/\aR w w' v a):=
  nU v pre n base w (by omega) g f h
 go_enter ay.func84,Tryz.ntmps84
 go_wp2_with fail
 refine b.o.mono ?_;rintro e w' ⟨a,rfl,c,d⟩;go_wp2;go_ret;exact⟨_,rfl,c,d⟩
def DI(n:Int)(a: -9223372036854775808<=n)(h1:n<=9223372036854775807)(w:F):
 bH 140 #[.int .i64 n] w λe w'=>e= .returned (.int .u64 (zz n))/\w'=w:=by
 have b:=Ok n a h1;go_enter ay.func140,Tryz.ntmps140;go_wp2;go_ret;exact⟨rfl,rfl⟩
def fQ (v:aE)(k:Int):Bool:=
 if v.null then(v.n==0)&&(v.s.toList==[]) else if k==1 then v.s.toList==[] else if k==2 then(v.n==0||v.n==1)&&(v.s.toList==[]) else(v.n==0)&&decide ((v.s.size:Int)<=32)
def j5{a b:Bool}(h:a=b):Ending.returned (.bool a)= .returned (.bool b):=by rw[h]
def qH(v:aE)(k:Int)(w:F)(a:k=1\/k=2\/k=3):
 bH 82 #[.agg (gZ v),.int .i64 k] w λe w'=>e= .returned (.bool (fQ v k))/\aP w w':=by
 have b:=oz k;rw[show fX k=Z from by rcases a with rfl|rfl|rfl<;>rfl] at b;cases c:v.null
 ·rcases a with rfl|rfl|rfl
  all_goals
   go_enter ay.func82,Tryz.ntmps82;go_wp2
   all_goals go_ret
   all_goals refine⟨j5 ?_,(Up _ _).alloc (T8 _) _⟩
   all_goals rw[XF]
   all_goals simp[fQ, *]
   all_goals try omega
 ·rcases a with rfl|rfl|rfl
  all_goals
   go_enter ay.func82,Tryz.ntmps82
   go_wp2_with (go_at_call 120;refine(b _).mono ?_;rintro e w' ⟨rfl,rfl⟩)
   all_goals go_ret
   all_goals refine⟨j5 ?_,(Up _ _).alloc (T8 _) _⟩
   all_goals rw[XF]
   all_goals simp[fQ, *]
   all_goals try omega
def dG (x:Int):List Int->Nat
 | []=>0
 |y::a=>if y=x then dG x a+1 else 0
def byteOf(x:Int):Nat:=(x%256).toNat
def iD:Nat->List Int->List Nat
 |0,_=>[]
 |f+1,b=>match b with
  | []=>[]
  |x::a=>aL (dG x (x::a))++([byteOf x]++iD f ((x::a).drop (dG x (x::a))))
def cy (l:List Int):List Nat:=iD l.length l
def Bh(x:Int)(l:List Int):dG x l<=l.length:=by
 induction l with
 |nil=>simp[dG]
 |cons c b a=>simp only[dG];split<;>simp<;>omega
def Kl(x:Int)(l:List Int)(n:Nat)(h:n<dG x l):∃e:n<l.length,l[n]=x:=by
 induction l generalizing n with
 |nil=>simp[dG] at h
 |cons g f d=>
  simp only[dG] at h
  split at h
  ·rename_i c;cases n with
   |zero=>exact⟨by simp,by simpa using c⟩
   |succ m=>
    obtain⟨a,b⟩:=d m (by omega);exact⟨by simp;exact a,by simpa using b⟩
  ·omega
def zg(x:Int)(l:List Int)(h:dG x l<l.length):l[dG x l]≠x:=by
 induction l with
 |nil=>simp at h
 |cons c d b=>
  simp only[dG] at h ⊢;by_cases a:c=x
  ·simp only[a,if_true] at h ⊢;have:=b (by simpa using h);simpa using this
  ·simp only[a,if_false] at h ⊢;simpa using a
def lO (a:List Int)(i:Nat):Nat:=dG (a.getD i 0) (a.drop i)
def Kk(a:List Int)(i:Nat)(h:i<a.length):0<lO a i:=by
 unfold lO;rw[Wo h,fh h];simp[dG]
def No(a:List Int)(i:Nat)(h:i<a.length):i+lO a i<=a.length:=by
 have:=Bh (a.getD i 0) (a.drop i);unfold lO;rw[Xa] at this;omega
def Nn(a:List Int)(i n:Nat)(h:n<lO a i):∃e:i+n<a.length,a[i+n]=a.getD i 0:=by
 obtain⟨b,c⟩:=Kl _ _ n h;have d:i+n<a.length:=by simp at b;omega
 exact⟨d,by simpa using c⟩
def Kj(a:List Int)(i:Nat)(h:i+lO a i<a.length):a[i+lO a i]≠a.getD i 0:=by
 have:=zg (a.getD i 0) (a.drop i) (by unfold lO at h;rw[Xa];omega);simpa [lO] using this
def GF(f:Nat)(a:List Int)(i:Nat)(h:i<a.length):iD (f+1) (a.drop i)=aL (lO a i)++([byteOf (a.getD i 0)]++iD f (a.drop (i+lO a i))):=by
 unfold lO;rw[Wo h,fh h];simp only[iD];rw[<-Wo h,List.drop_drop]
def Kr(f:Nat)(a:List Int)(i:Nat)(h:¬i<a.length):iD f (a.drop i)=[]:=by
 rw[List.drop_of_length_le (by omega)];cases f<;>rfl
def nY(x:Int):byteOf x<256:=by unfold byteOf;omega
def mA(x:Int):x%256=(byteOf x:Int):=by unfold byteOf;omega
def oL(f:Nat)(l:List Int):(iD f l).length<=11*f:=by
 induction f generalizing l with
 |zero=>simp[iD]
 |succ f c=>
  cases l with
  |nil=>simp[iD]
  |cons a b=>
   simp only[iD];have d:=cm 10 (dG a (a::b));have e:=c ((a::b).drop (dG a (a::b)));simp only[Ua,List.length_singleton];unfold aL;omega
def pJ(v:U)(pre:List Nat)(a:List Int)(a3:Option UJ)(b off cap base:Nat)(w:F)(b4:a.length<=100)(cl:pre.length<=100000)(a5:base<=w.heap.size)
 (b1:0<a.length->a3=I ⟨b,off,K⟩) (cc:0<a.length->b<w.heap.size) (aq:0<a.length->v.ownBlock≠I b) (hc:∀j,j<a.length->aM w b (off+j) (.int .i64 (a.getD j 0)))
 (t:w.ownsRow base 5 1 v pre.length (aG pre)):
 bH 142 #[v,.slice a3 a.length cap] w λe w'=>∃p,e= .returned p/\w'.ownsRow base 5 1 p (pre++cy a).length (aG (pre++cy a))/\aR w w' v p:=by
 obtain⟨bo,a9,bj,bl,bm⟩:=Ve ay.rG;go_enter ay.func142,Tryz.ntmps142
 go_wp2_with fail
 go_loopw [0,5] (λa4 aw wr=>∃(c f:Nat) (i:List Nat),c<=a.length/\aw= .int .i64 c/\a.length<=c+f/\f<=100/\i.length+11*f<=1100/\i++iD f (a.drop c)=cy a/\wr.ownsRow base 5 1 a4 (pre++i).length (aG (pre++i))/\aR w wr v a4) (λ_ aw _=>a.length-(US aw).toNat)
 case atStart=>exact⟨0,a.length,[],UE _,rfl,by omega,b4,by simp;omega,rfl,by simpa using t,aR.refl _ _⟩
 case round=>
  clear t;obtain⟨c,f,i,ci,rfl,ck,ch,cd,a6,t,am⟩:=hrel
  rename F=>az
  have R:=af a6;have N:=af am;have cx:w.heap.size<=az.heap.size:=am.fO.size;clear a6 am;have cs:(pre++i).length<=200000:=by simp;omega
  generalize bc:pre++i=n at*;have W:=af bc;clear bc;by_cases y:c<a.length
  ·obtain rfl:=b1 (by omega);have al:∀j,j<a.length->aM az b (off+j) (.int .i64 (a.getD j 0)):=λj bB=>N.o.fO.cell (hc j bB) (λu=>aq (by omega) u.symm);have a0:=af al;have a1:=af (GF (f-1) a c y);have cv:=Kk a c y;have cu:=No a c y;have bs:X (∀k,k<lO a c->∃P:c+k<a.length,a[c+k]=a.getD c 0):=λk P=>Nn a c k P;have bt:X (∀u:c+lO a c<a.length,a[c+lO a c]≠a.getD c 0):=λu=>Kj a c u;have O:=al c y;clear al;generalize lO a c=d at*;generalize be:a.getD c 0=h at*;have a2:=af be;clear be
   go_wp2_with fail
   go_loopw [6] (λj cb=>∃m:Nat,c+1<=m/\m<=c+d/\j= .int .i64 (m:Int)/\∃k,cb=az.drewN k) (λj _=>a.length+1-(US j).toNat)
   case atStart=>exact⟨c+1,by omega,by omega,by go_num,0,rfl⟩
   case round=>
    obtain⟨m,cn,co,rfl,k,l⟩:=hrel;have bv:=af l;have a7:aM wr b (off+c) (.int .i64 h):=by rw[l];exact O
    by_cases bb:m<c+d
    ·obtain⟨P,bd⟩:=bs.o (m-c) (by omega);have s:m<a.length:=by omega
     have G:aM wr b (off+m) (.int .i64 h):=by
      rw[l];have:=a0.o m s;rw[fh s] at this;rw[show a[m]=h from by rw[<-bd];congr 1;omega] at this;exact this
     have a8:decide ((m:Int)<(a.length:Int))=Z:=by simpa using s
     clear O l t P bd
     go_wp2_with fail
     go_quiet (fail)
     go_wp2
     go_roundw
     case rel=>exact⟨m+1,by omega,by omega,by go_num,k+nq,by rw[bv.o];exact Xh _ _ _⟩
     case measure=>simp[US];omega
    ·have A:X (m=c+d):=by show m=c+d;omega
     have cp:c<=m:=by omega
     have bu:X (Vb ((m:Int)-(c:Int))=(d:Int)):=by have:=A.o;show _=_;unfold Vb;omega
     by_cases s:m<a.length
     ·have G:∃x,aM wr b (off+m) (.int .i64 x)/\x≠h:=by
       refine⟨a.getD m 0,by rw[l];exact a0.o m s,?_⟩;have e:=A.o;clear bu;subst e;rw[fh s];exact bt.o s
      obtain⟨x,G,bi⟩:=G;have a8:decide ((m:Int)<(a.length:Int))=Z:=by simpa using s
      have cf:(x==h)=T7:=by simpa using bi
      have V:X (∀g,(wr.drewN g).ownsRow base 5 1 u0 n.length (aG n)):=λg=>by rw[l];exact aK t (below_drewN (below_drewN (Up _ _) k) g)
      have B:X (∀g,aR w (wr.drewN g) v u0):=λg=>by rw[l];exact(N.o.drewN k).drewN g
      clear O l t bb bi
      go_wp2_with fail
      go_quiet (fail)
      try clear G
      have av:Yu.wrap h=h%256:=by simp[IntKind.wrap,Yg,XU]
      rw[mA] at av;have bA:=nY h;have S:X (∃x,x=byteOf h):=⟨_,rfl⟩;generalize L:byteOf h=q at*;have bx:=af L;clear S L;have b3:=cm 10 d;have aa:X (∃g,g=n++aL d):=⟨_,rfl⟩;generalize z:n++aL d=o at*;have b0:o.length<=200010:=by rw[<-z,Ua];unfold aL;omega
      have C:=af z;clear z aa;have Q:X (bH 84 #[u0,.int .i64 ((m:Int)-(c:Int))] (wr.drewN nq) λe w'=>∃p,e= .returned p/\w'.ownsRow base 5 1 p o.length (aG o)/\aR (wr.drewN nq) w' u0 p):=by
       have D:=cP u0 n d base (wr.drewN nq) (by omega) (by omega) (Uy a5 (B.o nq).fO.size) (V.o nq);rw[C.o] at D;rw[show(m:Int)-(c:Int)=(d:Int) from by have:=A.o;omega];exact D
      go_wp2_with first
       |(go_at_call 84;refine Q.o.mono ?_;rintro e M ⟨b5,rfl,ar,H⟩;have r:=(B.o nq).trans H;have ae:=r.fO.cell (hc c y) (λu=>aq (by omega) u.symm);have T:=af r;have b2:w.heap.size<=M.heap.size:=r.fO.size;rw[a2.o] at ae;clear r H a7)
       |(at_builtin;refine aT _ Y _ _ 133 Y base 5 bo (.int .u8 0) 1 1 ay.underlying133 a9 bj bl bm Y (by decide) _ o.length _ Y (ar.alloc _) ⟨M.heap.size,0,K⟩ 1 1 [.int .u8 (q:Int)] Y (by decide) Y (gS _ _ _) (jm _) (by unfold Uq;omega) (by omega) (by simp;omega) ?_;intro b6 ca J ao)
      have ap:=T.o.trans (aR.append ao);rw[eR] at J;have ab:pre++(i++(aL d++[q]))=o++[q]:=by rw[<-C.o,<-W.o];simp[UC]
      have ad:(i++(aL d++[q]))++iD (f-1) (a.drop m)=cy a:=by
       have E:=a1.o;rw[show f-1+1=f by omega] at E;rw[<-R.o,E,A.o];simp[UC]
      refine⟨⟨m,f-1,i++(aL d++[q]),by omega,rfl,by omega,by omega,?_,ad,?_,ap⟩,by simp[US];omega⟩
      ·rw[Ua,Ua];unfold aL;simp;omega
      ·rw[ab];simpa using J
     ·have a8:decide ((m:Int)<(a.length:Int))=T7:=by simpa using s
      have V:X (∀g,(wr.drewN g).ownsRow base 5 1 u0 n.length (aG n)):=λg=>by rw[l];exact aK t (below_drewN (below_drewN (Up _ _) k) g)
      have B:X (∀g,aR w (wr.drewN g) v u0):=λg=>by rw[l];exact(N.o.drewN k).drewN g
      clear O l t bb
      go_wp2_with fail
      go_quiet (fail)
      try clear G
      have av:Yu.wrap h=h%256:=by simp[IntKind.wrap,Yg,XU]
      rw[mA] at av;have bA:=nY h;have S:X (∃x,x=byteOf h):=⟨_,rfl⟩;generalize L:byteOf h=q at*;have bx:=af L;clear S L;have b3:=cm 10 d;have aa:X (∃g,g=n++aL d):=⟨_,rfl⟩;generalize z:n++aL d=o at*;have b0:o.length<=200010:=by rw[<-z,Ua];unfold aL;omega
      have C:=af z;clear z aa;have Q:X (bH 84 #[u0,.int .i64 ((m:Int)-(c:Int))] (wr.drewN nq) λe w'=>∃p,e= .returned p/\w'.ownsRow base 5 1 p o.length (aG o)/\aR (wr.drewN nq) w' u0 p):=by
       have D:=cP u0 n d base (wr.drewN nq) (by omega) (by omega) (Uy a5 (B.o nq).fO.size) (V.o nq);rw[C.o] at D;rw[show(m:Int)-(c:Int)=(d:Int) from by have:=A.o;omega];exact D
      go_wp2_with first
       |(go_at_call 84;refine Q.o.mono ?_;rintro e M ⟨b5,rfl,ar,H⟩;have r:=(B.o nq).trans H;have ae:=r.fO.cell (hc c y) (λu=>aq (by omega) u.symm);have T:=af r;have b2:w.heap.size<=M.heap.size:=r.fO.size;rw[a2.o] at ae;clear r H a7)
       |(at_builtin;refine aT _ Y _ _ 133 Y base 5 bo (.int .u8 0) 1 1 ay.underlying133 a9 bj bl bm Y (by decide) _ o.length _ Y (ar.alloc _) ⟨M.heap.size,0,K⟩ 1 1 [.int .u8 (q:Int)] Y (by decide) Y (gS _ _ _) (jm _) (by unfold Uq;omega) (by omega) (by simp;omega) ?_;intro b6 ca J ao)
      have ap:=T.o.trans (aR.append ao);rw[eR] at J;have ab:pre++(i++(aL d++[q]))=o++[q]:=by rw[<-C.o,<-W.o];simp[UC]
      have ad:(i++(aL d++[q]))++iD (f-1) (a.drop m)=cy a:=by
       have E:=a1.o;rw[show f-1+1=f by omega] at E;rw[<-R.o,E,A.o];simp[UC]
      refine⟨⟨m,f-1,i++(aL d++[q]),by omega,rfl,by omega,by omega,?_,ad,?_,ap⟩,by simp[US];omega⟩
      ·rw[Ua,Ua];unfold aL;simp;omega
      ·rw[ab];simpa using J
  ·have ba:=Kr f a c y;have br:X (pre++cy a=n):=by show _=_;rw[<-R.o,ba,List.append_nil];exact W.o
   clear ba;go_wp2;go_ret;exact⟨_,rfl,by rw[br.o];exact t,N.o⟩
end Ec
end Go.Proofs.YtjidbonhhpkljaaGreat
