/- What the proof stands on, in short names. -/
import Derived.Below
import Derived.Conc.Beside
import Derived.Laws.Sem
import Derived.StepT
import GoSem.Dispatch
import Derived.Conc.Listed
import Derived.Test.YtjidbonhhpkljaaGreatProg
import Derived.KernelRfl
import Derived.WalkKit
import Derived.Test.YtjidbonhhpkljaaGreatRows
import Derived.ProofKit
import Derived.Deep.QuietTactic
import Derived.BigQuiet
import Derived.Laws.BytesArg
import Derived.Deep.RegionWith
import Derived.ArgAppend
import Derived.Laws.CopyOwn
import Derived.Laws.BitsLemmas
import Derived.WalkLawsBesides
import Derived.Recover
import Derived.Laws.StructEq
set_option linter.all false
open Array renaming getElem?_eq_getElem->UU,getElem?_eq_none->Vl,getElem?_eq_some_iff->Ua,getElem?_modify->VV,getElem?_push->VB,getElem?_setIfInBounds->UP,range->Yp
open BitVec renaming ofInt->Xb
open Bool renaming and_eq_true->Uv,eq_iff_iff->XF,false->T5,false_eq_true->UA,true->Z
open False renaming elim->Yq
open Go renaming Addr->UJ,BinOp->Yx,Calls->UB,Code->WU,Deferred->Wj,Event->Vm,Frame->Us,Func->WC,FuncId->V6,GStep->Yt,IntKind->Wx,Item->WM,MapEntry->VP,Obj->Xv,Operand->U6,PanicEntry->Vr,Program->Ue,Result->XW,Sem->Wu,TypeId->Ug,Value->U,World->F,behindNumber->WA,doReturn->WY,exitTo->Yh,info_parts->Ve,lt_of_block->Ud,maxLen->Up,resolve->X6,results->UX,stepG->UM,tryRecover->Xp,typeInfo->XC,undef->Vk,underlying->Xq,unwind->Yi,zeroValue->Wn
open Go.Addr renaming add->Yr
open Go.Addr.mk renaming injEq->Wh
open Go.Builtin renaming append_->XX,firstCells->Xl,holdsCells->Xm,lenOf->Yl,mayShare->Yb,unsafeAdd_->Xn
open Go.ByteArray renaming toList_eq->XJ
open Go.Conc renaming G->Uf
open Go.Deferred renaming ofValue->XN
open Go.Extern renaming find->YB
open Go.Frame renaming enter->UY,finish->VW,round->WW
open Go.GStep renaming after->WQ
open Go.Instr renaming buildSlice->XO,checkKey->XT,endRound->Yc,fill->X7,findKey->Ym,makeSlice->XY,sameBits->Xz,sureAddr->Xd
open Go.IntKind renaming bits->Yg,i64->XM,signed->XU,u64->Wl,u8->Yu,wrap_i64->WX
open Go.Op.Complex renaming add->YU,arith->YS,cmp->YV,conv->YT,corrected->YY,mul->YW,product->YP,quo->Y7,quotient->YN,sub->YX
open Go.Proofs.Tryz renaming prog->T9
open Go.Region renaming schedule->XZ,wanted->UF
open Go.Result.halt renaming injEq->Y4
open Go.RowKit renaming Below->XS,intOf->US,wrap64->Vb
open Go.RowKit.Below renaming refl->Uo
open Go.RuntimeError renaming error->Y1
open Go.Sem renaming run->Wt,runT->U4,run_bind->WJ
open Go.Unsupported renaming resourceLimit->YH,unsafePointer->Yz
open Go.Value renaming int->VY,slice->Vg
open Go.Value.slice renaming injEq->VA
open Go.World renaming cell?->Ur,drewN_drewN->Xh,farLoad->X9,farStore->XA,freeze->VQ,frozen?->UQ,noCell->WT,setCell->Ya
open Go.World.grownBy renaming block->Wv,refl->YQ,size->Xo
open Go.stepG renaming apply->VN,exec->UI
open List renaming all_eq_true->Uy,append_assoc->UC,cons_append->Wd,drop_eq_getElem_cons->Wo,eq_nil_of_length_eq_zero->Vh,getD->Yw,length_append->T8,length_cons->VI,length_drop->WZ,mem_append->U1,mem_cons->VM,mem_cons_self->Xs,mem_map->U7,mem_singleton->WI,take_of_length_le->UO,take_succ_eq_append_getElem->Um
open MonadExceptOf renaming throw->YF
open Nat renaming add_assoc->U5,le_refl->T6,le_trans->Ux,lt_of_lt_of_le->Uc,lt_or_ge->Vy,mul_add->Ye,mul_comm->Xx,mul_le_mul_left->Xi,pow_add->Xk,pow_le_pow_right->VO,pow_succ->WL,zero_le->UE
open Option renaming map_eq_some_iff->Wq,map_some->V2,none->K,some->I
open Option.some renaming inj->Yk,injEq->U8
open Std.Legacy.Range renaming forIn_eq_forIn_range'->Vx
set_option maxRecDepth 100000
set_option maxHeartbeats 8000000
namespace Go.Proofs.YtjidbonhhpkljaaGreat
def X (p:Prop):Prop:=p
def X.o{p:Prop}(h:X p):p:=h
def af{p:Prop}(h:p):X p:=h
def Y{α:Sort _}{a:α}:a=a:=rfl
abbrev aO:U:=.slice K 0 0
abbrev aM(w:F)(b o:Nat)(v:U):Prop:=w.cell? ⟨b,o,K⟩=I v
abbrev aP(w w':F):Prop:=XS w.heap.size w w'
end Go.Proofs.YtjidbonhhpkljaaGreat
namespace Go.Proofs.YtjidbonhhpkljaaGreat
namespace Cc
open Go
abbrev Tp:=Nat->Question->Nat
def sh (a:Tp)(d:Nat)(w:F):F:={w with tape:=a,drawn:=d}
def rW {α:Type}:XW α->F
 | .ok _ w=>w
 | .halt _ w=>w
def Al (e:Tp)(d:Nat)(f:Tp)(c:Nat)(n:Nat):Prop:=∀a b,a<n->f (c+a) b=e (d+a) b
def Al.sub{b c:Tp}{d a n m:Nat}(h:Al b d c a n)(i:m<=n):Al b d c a m:=λe f g=>h e f (by omega)
def Al.refl(a:Tp)(d n:Nat):Al a d a d n:=λ_ _ _=>rfl
def pg:Halt->Bool
 | .panic _=>Z
 | .stuck _=>Z
 | .unsupported (.initOrder _)=>T5
 | .unsupported _=>Z
 |_=>T5
def pz:Xv:=.coro K
def jk:Xv->Bool
 | .loop _| .deferred _| .pending _ _| .coro _=>Z
 |_=>T5
def Gx {α:Type}(k:Xv->Wu α):Prop:=(∃s,k pz= .halt (.stuck s))\/((∀c,k (.loop c)=k pz)/\(∀b,k (.deferred b)=k pz)/\(∀a d,k (.pending a d)=k pz)/\∀e,k (.coro e)=k pz)
def Gx.bind{α e:Type}{k:Xv->Wu α}(h:Gx k)(f:α->Wu e):Gx λo=>(k o).bind f:=by
 rcases h with⟨s,h⟩|⟨a,b,c,d⟩
 ·exact .inl ⟨s,by dsimp only;rw[h];rfl⟩
 ·exact .inr ⟨λj=>by dsimp only;rw[a],λi=>by dsimp only;rw[b],λg l=>by dsimp only;rw[c],λm=>by dsimp only;rw[d]⟩
def Gx.S8{α:Type}{k:Xv->Wu α}(h:Gx k){x:Xv}(e:jk x=Z):(∃s,k pz= .halt (.stuck s))\/k x=k pz:=by
 rcases h with h|⟨a,b,c,d⟩
 ·exact .inl h
 ·cases x<;>first|(simp[jk] at e;done)|exact .inr (a _)|exact .inr (b _)|exact .inr (c _ _)|exact .inr (d _)
section
variable (P P':Ue)(O:Xv->Prop)
def Still{α:Type}(Q:α->Prop):Wu α->Prop
 | .pure d=>Q d
 | .load _ _ a=>∀v,Still Q (a v)
 | .store _ _ _ a=>Still Q a
 | .new b a=>O b/\∀c,Still Q (a c)
 | .shape _ a=>∀s,Still Q (a s)
 | .freeze _ _ a=>Still Q a
 | .frozen _ a=>∀e,Still Q (a e)
 | .getObj _ a=>(∀b,O b->Still Q (a b))/\Gx a
 | .setObj _ b a=>O b/\Still Q a
 | .choose _ a=>∀i,Still Q (a i)
 | .sys g a=>g= .env/\∀c,Still Q (a c)
 | .program a=>a P=a P'/\Still Q (a P)
 | .mark m a=>(Conc.Neutral m\/∃f,m= .extern f)/\Still Q a
 | .halt h=>pg h=Z
def Still.bind{α j:Type}{Q:α->Prop}{R:j->Prop}{f:α->Wu j}(k:∀a,Q a->Still P P' O R (f a)):∀{s:Wu α},Still P P' O Q s->Still P P' O R (s.bind f):=by
 intro s
 induction s with
 |pure a=>intro b;exact k a b
 |load m a d c=>intro b v;exact c v (b v)
 |store m a v d c=>intro b;exact c b
 |new g d c=>intro b;exact⟨b.1,λe=>c e (b.2 e)⟩
 |shape e d c=>intro b s;exact c s (b s)
 |freeze a h d c=>intro b;exact c b
 |frozen a d c=>intro b i;exact c i (b i)
 |getObj e d c=>intro b;exact⟨λg l=>c g (b.1 g l),b.2.bind f⟩
 |setObj e g d c=>intro b;exact⟨b.1,c b.2⟩
 |choose o d c=>intro b h;exact c h (b h)
 |sys n d c=>intro b;exact⟨b.1,λe=>c e (b.2 e)⟩
 |program d c=>intro b;exact⟨congrArg (·.bind f) b.1,c P b.2⟩
 |mark m d c=>intro b;exact⟨b.1,c b.2⟩
 |halt b=>intro b;exact b
def Still.mono{α:Type}{Q R:α->Prop}(j:∀a,Q a->R a):∀{s:Wu α},Still P P' O Q s->Still P P' O R s:=by
 intro s
 induction s with
 |pure a=>intro b;exact j a b
 |load m a d c=>intro b v;exact c v (b v)
 |store m a v d c=>intro b;exact c b
 |new f d c=>intro b;exact⟨b.1,λe=>c e (b.2 e)⟩
 |shape e d c=>intro b s;exact c s (b s)
 |freeze a g d c=>intro b;exact c b
 |frozen a d c=>intro b h;exact c h (b h)
 |getObj e d c=>intro b;exact⟨λf i=>c f (b.1 f i),b.2⟩
 |setObj e f d c=>intro b;exact⟨b.1,c b.2⟩
 |choose l d c=>intro b g;exact c g (b g)
 |sys k d c=>intro b;exact⟨b.1,λe=>c e (b.2 e)⟩
 |program d c=>intro b;exact⟨b.1,c P b.2⟩
 |mark m d c=>intro b;exact⟨b.1,c b.2⟩
 |halt b=>intro b;exact b
end
def Hp (O:Xv->Prop)(w:F):Prop:=∀(b:Nat) (a:Xv),w.heap[b]? =I a->O a\/a=pz
structure Plain(O:Xv->Prop):Prop where
 cells:∀c t f,O (.cells c t f)
 pending:∀c t,¬O (.pending c t)
 Rh:¬O pz
 loop:∃r,O (.loop r)
structure Un(w u:F):Prop where
 size:u.heap.size=w.heap.size
 at_:∀(b:Nat) (o:Xv),w.heap[b]? =I o->u.heap[b]? =I o\/(o=pz/\∃x,u.heap[b]? =I x/\jk x=Z)
 os:u.os=w.os
 output:u.output=w.output
structure rV(w u w' u':F):Prop where
 un:Un w' u'
 keep:∀b:Nat,w'.heap[b]? =I pz->w.heap[b]? =I pz/\u'.heap[b]? =u.heap[b]?
def Un.refl(w:F):Un w w:=⟨rfl,λb c a=>.inl a,rfl,rfl⟩
def Un.two{w u:F}(h:Un w u):rV w u w u:=⟨h,λb a=>⟨a,rfl⟩⟩
def rV.trans{w u w1 u1 c u2:F}(h:rV w u w1 u1)(b:rV w1 u1 c u2):rV w u c u2:=⟨b.un,λa i=>by
 obtain⟨d,e⟩:=b.keep a i;obtain⟨f,g⟩:=h.keep a d;exact⟨f,e.trans g⟩⟩
def Un.none{w u:F}(h:Un w u){b:Nat}(a:w.heap[b]? =K):u.heap[b]? =K:=by
 rw[Array.getElem?_eq_none_iff] at a ⊢;rw[h.size];exact a
def Un.o{w u:F}(h:Un w u){b:Nat}{o:Xv}(a:w.heap[b]? =I o)(c:o≠pz):u.heap[b]? =I o:=(h.at_ b o a).elim id λh=>absurd h.1 c
def Un.row{w u:F}(h:Un w u){b:Nat}{c:Array U}{t:Ug}{f:Nat×Nat}:w.heap[b]? =I (.cells c t f)↔u.heap[b]? =I (.cells c t f):=by
 constructor
 ·exact λa=>h.o a (by simp[pz])
 ·intro a;cases e:w.heap[b]? with
  |none=>rw[h.none e] at a;cases a
  |some i=>
   rcases h.at_ b i e with d|⟨_,j,d,g⟩
   ·rw[d] at a;exact a
   ·rw[d] at a;cases a;simp[jk] at g
def Un.cases{w u:F}(h:Un w u)(b:Nat):u.heap[b]? =w.heap[b]? \/(w.heap[b]? =I pz/\∃x,u.heap[b]? =I x/\jk x=Z):=by
 cases c:w.heap[b]? with
 |none=>exact .inl (h.none c)
 |some e=>
  rcases h.at_ b e c with a|⟨rfl,x,a,d⟩
  ·exact .inl a
  ·exact .inr ⟨rfl,x,a,d⟩
def Un.cell{w u:F}(h:Un w u)(a:UJ):u.cell? a=w.cell? a:=by
 unfold Ur;rcases h.cases a.block with b|⟨b,e,c,d⟩
 ·rw[b]
 ·rw[b,c];cases e<;>first|rfl|(simp[jk] at d;done)
def Un.shape{w u:F}(h:Un w u)(r:Nat):u.shape? r=w.shape? r:=by
 unfold World.shape?;rcases h.cases r with a|⟨a,d,b,c⟩
 ·rw[a]
 ·rw[a,b];cases d<;>first|rfl|(simp[jk] at c;done)
def Un.frozen{w u:F}(h:Un w u)(a:UJ):u.frozen? a=w.frozen? a:=by
 unfold UQ;rcases h.cases a.block with b|⟨b,e,c,d⟩
 ·rw[b]
 ·rw[b,c];cases e<;>first|rfl|(simp[jk] at d;done)
def Un.modify{w u:F}(h:Un w u)(r:Nat)(f:Xv->Xv)(hc:∀c t z,∃n x y,f (.cells c t z)= .cells n x y)(l:∀o,(∀c t z,o≠.cells c t z)->f o=o):rV w u {w with heap:=w.heap.modify r f} {u with heap:=u.heap.modify r f}:=by
 have q:∀(h:Array Xv) (e:Nat),(h.modify r f)[e]? =(h[e]?).map λo=>if r=e then f o else o:=λh e=>by
  rw[VV]
  split
  ·rename_i a;subst a;simp
  ·rename_i a;simp[a]
 have v:∀d,jk d=Z->∀c t z,d≠.cells c t z:=λd j c t z a=>by rw[a] at j;simp[jk] at j
 refine⟨⟨by simp[h.size],λe o b=>?_,h.os,h.output⟩,λe b=>?_⟩
 ·simp only[q] at b ⊢;cases i:w.heap[e]? with
  |none=>rw[i] at b;cases b
  |some g=>
   rw[i] at b;rcases h.at_ e g i with a|⟨rfl,d,a,j⟩
   ·rw[a];exact .inl b
   ·have k:(if r=e then f pz else pz)=pz:=by split<;>first|rfl|exact l pz (λc t z=>by simp[pz])
    have m:(if r=e then f d else d)=d:=by split<;>first|rfl|exact l d (v d j)
    simp only[V2,k,U8] at b;exact .inr ⟨b.symm,d,by rw[a];simp[m],j⟩
 ·simp only[q] at b ⊢;cases i:w.heap[e]? with
  |none=>rw[i] at b;cases b
  |some g=>
   rw[i] at b;have A:g=pz:=by
    by_cases p:∃c t z,g= .cells c t z
    ·obtain⟨c,t,z,rfl⟩:=p;obtain⟨n,x,y,a⟩:=hc c t z;simp only[V2,a,U8] at b
     split at b<;>simp[pz] at b
    ·have k:(if r=e then f g else g)=g:=by split<;>first|rfl|exact l g (λc t z a=>p ⟨c,t,z,a⟩)
     simpa [k] using b
   subst A;refine⟨rfl,?_⟩;rcases h.at_ e pz i with a|⟨_,d,a,j⟩
   ·rw[a];have k:(if r=e then f pz else pz)=pz:=by split<;>first|rfl|exact l pz (λc t z=>by simp[pz])
    simp[k]
   ·rw[a];have m:(if r=e then f d else d)=d:=by split<;>first|rfl|exact l d (v d j)
    simp[m]
def Un.push{w u:F}(h:Un w u){o:Xv}(d:o≠pz):rV w u {w with heap:=w.heap.push o} {u with heap:=u.heap.push o}:=by
 refine⟨⟨by simp[h.size],λc e a=>?_,h.os,h.output⟩,λc a=>?_⟩
 ·simp only[VB,h.size] at a ⊢
  split
  ·rename_i b;rw[if_pos b] at a;exact .inl a
  ·rename_i b;rw[if_neg b] at a;exact h.at_ c e a
 ·simp only[VB,h.size] at a ⊢
  split at a
  ·cases a;exact absurd Y d
  ·rename_i b;rw[if_neg b];exact⟨a,rfl⟩
def Un.set{w u:F}(h:Un w u)(r:Nat){o:Xv}(d:o≠pz):rV w u {w with heap:=w.heap.setIfInBounds r o} {u with heap:=u.heap.setIfInBounds r o}:=by
 refine⟨⟨by simp[h.size],λc e a=>?_,h.os,h.output⟩,λc a=>?_⟩
 ·simp only[UP,h.size] at a ⊢
  split
  ·rename_i b;rw[if_pos b] at a;exact .inl a
  ·rename_i b;rw[if_neg b] at a;exact h.at_ c e a
 ·simp only[UP,h.size] at a ⊢
  split at a
  ·split at a
   ·cases a;exact absurd Y d
   ·cases a
  ·rename_i b;rw[if_neg b];exact⟨a,rfl⟩
structure Views(P P':Ue):Prop where
 load:∀(w u:F) at_ t a m,(∀c e f,w.heap[(at_:UJ).block]? =I (.cells c e f)↔u.heap[at_.block]? =I (.cells c e f))->u.viewLoad P' at_ t a m=w.viewLoad P at_ t a m
 touch:∀(w:F) at_ t a m v l,w.viewLoad P at_ t a m= .ok (v,l)->∀x∈l,x.block<w.heap.size
 store:∀(w u:F) at_ t a v m,(∀c e f,w.heap[(at_:UJ).block]? =I (.cells c e f)↔u.heap[at_.block]? =I (.cells c e f))->(∃why,w.viewStore P at_ t a v m= .error why/\u.viewStore P' at_ t a v m= .error why)\/∃c e f l,w.viewStore P at_ t a v m= .ok ({w with heap:=w.heap.setIfInBounds at_.block (.cells c e f)},l)/\u.viewStore P' at_ t a v m= .ok ({u with heap:=u.heap.setIfInBounds at_.block (.cells c e f)},l)/\∀x∈l,x.block<w.heap.size
def zS (n:Nat)(e:Vm):Prop:=match e.loc with
 | .obj b=>b<n
 | .cell a=>a.block<n
 | .mark m=>Conc.Neutral m\/∃f,m= .extern f
 |_=>True
def zS.mono{n m:Nat}(h:n<=m){e:Vm}(a:zS n e):zS m e:=by
 unfold zS at*
 split<;>simp_all<;>omega
def Ok {α:Type}(u:F):XW α->XW α
 | .ok a _=>.ok a u
 | .halt b _=>.halt b u
structure jR{α:Type}(P P':Ue)(O:Xv->Prop)(Q:α->Prop)(s:Wu α)(w:F)(es:Array Vm):Prop where
 tape:(rW (s.runT P w es).1).tape=w.tape
 drawn:w.drawn<=(rW (s.runT P w es).1).drawn
 size:w.heap.size<=(rW (s.runT P w es).1).heap.size
 os:(rW (s.runT P w es).1).os=w.os
 output:(rW (s.runT P w es).1).output=w.output
 hp:Hp O (rW (s.runT P w es).1)
 ok:∀a w',(s.runT P w es).1= .ok a w'->Q a
 halt:∀h w',(s.runT P w es).1= .halt h w'->pg h=Z
 evs:∀e∈(s.runT P w es).2,e∈es\/zS (rW (s.runT P w es).1).heap.size e
 shift:(∃y w',(s.runT P w es).1= .halt (.stuck y) w')\/∀ τ d u,Un w u->Al w.tape w.drawn τ d ((rW (s.runT P w es).1).drawn-w.drawn)->∃u',rV w u (rW (s.runT P w es).1) u'/\s.runT P' (sh τ d u) es=(Ok (sh τ (d+((rW (s.runT P w es).1).drawn-w.drawn)) u') (s.runT P w es).1,(s.runT P w es).2)
section
variable {α:Type}{P P':Ue}{O:Xv->Prop}{Q:α->Prop}{w w1:F}{es L8:Array Vm}{s s1:Wu α}
def jR.cons(n:Nat)(h:jR P P' O Q s1 w1 L8)(a:s.runT P w es=s1.runT P w1 L8)(i:w1.tape=w.tape)(l:w1.drawn=w.drawn+n)(r:w.heap.size<=w1.heap.size)(o:w1.os=w.os)(v:w1.output=w.output)
 (A:∀e∈L8,e∈es\/zS w1.heap.size e) (f:(∃y w',(s.runT P w es).1= .halt (.stuck y) w')\/∀b d u,Un w u->Al w.tape w.drawn b d n->∃u1,rV w u w1 u1/\s.runT P' (sh b d u) es=s1.runT P' (sh b (d+n) u1) L8):jR P P' O Q s w es:=by
 have D:=h.drawn;refine⟨by rw[a,h.tape,i],by rw[a];omega,by rw[a];exact Ux r h.size,by rw[a,h.os,o],by rw[a,h.output,v],by rw[a];exact h.hp,by rw[a];exact h.ok,by rw[a];exact h.halt,?_,?_⟩
 ·rw[a];intro e m;rcases h.evs e m with c|c
  ·exact(A e c).imp id (zS.mono h.size)
  ·exact .inr c
 ·rcases f with f|f
  ·exact .inl f
  ·rw[a];rcases h.shift with c|t
   ·exact .inl c
   ·refine .inr λb d u z g=>?_;have k:(rW (s1.runT P w1 L8).1).drawn-w.drawn=n+((rW (s1.runT P w1 L8).1).drawn-w1.drawn):=by omega
    obtain⟨u1,j,p⟩:=f b d u z (g.sub (by omega));obtain⟨u2,x,q⟩:=t b (d+n) u1 j.un (by
     intro B C E;have:=g (n+B) C (by omega);rw[i,l,U5,U5];exact this)
    exact⟨u2,j.trans x,by rw[p,q,k,U5]⟩
def jR.ends{x:Halt}(a:s.runT P w es=(.halt x w,es))(j:pg x=Z)(i:Hp O w)(c:(∃y,x= .stuck y)\/∀b d u,Un w u->s.runT P' (sh b d u) es=(.halt x (sh b d u),es)):jR P P' O Q s w es:=by
 refine⟨by rw[a];rfl,by rw[a];exact T6 _,by rw[a];exact T6 _,by rw[a];rfl,by rw[a];rfl,by rw[a];exact i,?_,?_,?_,?_⟩
 ·rw[a];intro l k f;cases f
 ·rw[a];intro f k e;cases e;exact j
 ·rw[a];exact λe h=>.inl h
 ·rw[a];rcases c with⟨y,rfl⟩|c
  ·exact .inl ⟨y,w,rfl⟩
  ·refine .inr λb d u g _=>⟨u,g.two,?_⟩;rw[c b d u g];simp[Ok,rW]
end
def Hp.push{O:Xv->Prop}{w:F}(h:Hp O w){o:Xv}(c:O o):Hp O {w with heap:=w.heap.push o}:=by
 intro b d a;simp only[VB] at a
 split at a
 ·cases a;exact .inl c
 ·exact h b d a
def Hp.set{O:Xv->Prop}{w:F}(h:Hp O w)(r:Nat){o:Xv}(c:O o):Hp O {w with heap:=w.heap.setIfInBounds r o}:=by
 intro b d a;simp only[UP] at a
 split at a
 ·split at a
  ·cases a;exact .inl c
  ·cases a
 ·exact h b d a
def Hp.modify{O:Xv->Prop}(g:Plain O){w:F}(h:Hp O w)(r:Nat)(f:Xv->Xv)(i:∀o,f o=o\/∃c t z,f o= .cells c t z):Hp O {w with heap:=w.heap.modify r f}:=by
 intro d k a;simp only[VV] at a
 split at a
 ·obtain⟨e,j,rfl⟩:=Wq.1 a;rcases i e with b|⟨c,t,z,b⟩
  ·rw[b];exact h d e j
  ·rw[b];exact .inl (g.cells c t z)
 ·exact h d k a
def Hp.sh{O:Xv->Prop}{w:F}(h:Hp O w)(a:Tp)(d:Nat):Hp O (sh a d w):=h
def sV{O:Xv->Prop}(d:Plain O){w:F}(h:Hp O w){a:UJ}(e:∀x t,w.heap[a.block]? ≠I (.view x t))(s:String):w.noCell a s= .stuck s:=by
 unfold WT
 split
 ·rename_i c t b;exact(h _ _ b).elim (λh=>absurd h (d.pending _ _)) (λh=>by cases h)
 ·rename_i c t b;exact absurd b (e _ _)
 ·rfl
def mL{n:Nat}{es:Array Vm}{e:Vm}(b:zS n e):∀x∈es.push e,x∈es\/zS n x:=λx c=>by
 rcases Array.mem_push.1 c with a|rfl
 ·exact .inl a
 ·exact .inr b
def H6{w:F}{a:UJ}{v:U}(h:w.cell? a=I v):a.block<w.heap.size:=by
 unfold Ur at h;cases b:w.heap[a.block]? with
 |none=>rw[b] at h;cases h
 |some c=>exact(Ua.1 b).1
def Un.setCell{w u:F}(h:Un w u)(a:UJ)(v:U):rV w u (w.setCell a v) (u.setCell a v):=by
 unfold Ya;refine h.modify _ _ (λd e f=>⟨_,_,_,rfl⟩) λc b=>?_;cases c<;>first|rfl|exact absurd rfl (b _ _ _)
def Un.freeze{w u:F}(h:Un w u)(a:UJ)(n:Nat):rV w u (w.freeze a n) (u.freeze a n):=by
 unfold VQ
 split
 ·exact h.two
 ·refine h.modify _ _ (λd e f=>⟨_,_,_,rfl⟩) λc b=>?_;cases c<;>first|rfl|exact absurd rfl (b _ _ _)
def zN(w:F)(a:UJ):(∃x t,w.heap[a.block]? =I (.view x t))\/∀x t,w.heap[a.block]? ≠I (.view x t):=by
 by_cases b:∃x t,w.heap[a.block]? =I (.view x t)
 ·exact .inl b
 ·exact .inr λx t c=>b ⟨x,t,c⟩
def sO{w:F}{a x:UJ}{t:Ug}(h:w.heap[a.block]? =I (.view x t))(R:Ue)(m:Bool):w.farLoad R a m=match w.viewLoad R x t a m with| .ok r=>.ok r| .error b=>.error (.unsupported (.unsafePointer b)):=by
 unfold X9;rw[h];rfl
def kN{w:F}{a x:UJ}{t:Ug}(h:w.heap[a.block]? =I (.view x t))(R:Ue)(v:U)(m:Bool):w.farStore R a v m=match w.viewStore R x t a v m with| .ok r=>.ok r| .error b=>.error (.unsupported (.unsafePointer b)):=by
 unfold XA;rw[h];rfl
def BY {w:F} {a:UJ} (h:∀x t,w.heap[a.block]? ≠I (.view x t)) (R:Ue) (m:Bool):w.farLoad R a m= .error (w.noCell a "load: no such cell"):=by
 unfold X9
 split
 ·rename_i b;exact absurd b (h _ _)
 ·rfl
def Ac {w:F} {a:UJ} (h:∀x t,w.heap[a.block]? ≠I (.view x t)) (R:Ue) (v:U) (m:Bool):w.farStore R a v m= .error (w.noCell a "store: no such cell"):=by
 unfold XA
 split
 ·rename_i b;exact absurd b (h _ _)
 ·rfl
def Hx{n:Nat}{es a:Array Vm}(b:∀e∈a,zS n e):∀x∈es++a,x∈es\/zS n x:=λx c=>(Array.mem_append.1 c).imp id (b x)
def Np{α:Type}{P P':Ue}{O:Xv->Prop}(R:Plain O)(am:Views P P'){Q:α->Prop}(s:Wu α):∀(w:F) (es:Array Vm),Still P P' O Q s->Hp O w->jR P P' O Q s w es:=by
 induction s with
 |pure c=>
  intro w es i g;refine⟨rfl,T6 _,T6 _,rfl,rfl,g,λa1 j n=>?_,λn j h=>by simp[U4] at h,λh au=>.inl au,.inr λe d a b _=>⟨a,b.two,?_⟩⟩
  ·simp only[U4] at n;cases n;exact i
  ·simp[U4,Ok,rW]
 |load m c p u=>
  intro w es i g;cases q:w.cell? c with
  |some v=>
   have W:=H6 q;exact(u v w (es.push ⟨.cell c,T5,m == .atomic⟩) (i v) g).cons 0 (by simp only[U4,q]) Y Y (T6 _) Y Y (mL (by simpa [zS] using W)) (.inr λe d a b _=>⟨a,b.two,by
    have z:(sh e d a).cell? c=I v:=(b.cell c).trans q;simp only[U4,z];rfl⟩)
  |none=>
   rcases zN w c with⟨l,o,B⟩|B
   ·cases L:w.viewLoad P l o c (m == .atomic) with
    |ok ba=>
     obtain⟨v,S⟩:=ba;have t:∀(N:Ue) (j:F),j.cell? c=K->j.heap[c.block]? =I (.view l o)->j.viewLoad N l o c (m == .atomic)= .ok (v,S)->(Sem.load m c p).runT N j es=(p v).runT N j (es++S.toArray.map (⟨.cell ·,T5,m == .atomic⟩)):=by
      intro N j ab ad ar;simp only[U4,ab,sO ad,ar]
     refine(u v w _ (i v) g).cons 0 (t P w q B L) Y Y (T6 _) Y Y (Hx λh au=>?_) (.inr λe d a b _=>⟨a,b.two,t P' (sh e d a) ((b.cell c).trans q) (b.o B (by simp[pz])) ?_⟩)
     ·obtain⟨D,V,rfl⟩:=Array.mem_map.1 au;exact am.touch w l o c _ v S L D (by simpa using V)
     ·rw[<-L];exact am.load w (sh e d a) l o c _ λr h f=>b.row
    |error ao=>
     have t:∀(N:Ue) (j:F),j.cell? c=K->j.heap[c.block]? =I (.view l o)->j.viewLoad N l o c (m == .atomic)= .error ao->(Sem.load m c p).runT N j es=(.halt (.unsupported (.unsafePointer ao)) j,es):=by
      intro N j ab ad ar;simp only[U4,ab,sO ad,ar]
     exact jR.ends (t P w q B L) Y g (.inr λe d a b=>t P' (sh e d a) ((b.cell c).trans q) (b.o B (by simp[pz])) (by rw[<-L];exact am.load w (sh e d a) l o c _ λr h f=>b.row))
   ·exact jR.ends (x:=.stuck "load: no such cell") (by simp only[U4,q,BY B,sV R g B]) Y g (.inl ⟨_,rfl⟩)
 |store m c v p u=>
  intro w es i g;have a9:(∀l,v≠.agg l)->(∀l,v≠.tuple l)->jR P P' O Q (.store m c v p) w es:=by
   intro ab ad;have t:∀(P:Ue) (j:F),(Sem.store m c v p).runT P j es=(match j.cell? c with
    |some _=>if j.frozen? c then(.halt (.unsupported (.unsafePointer "a write to bytes that a string shares")) j,es) else p.runT P (j.setCell c v) (es.push ⟨.cell c,Z,m == .atomic⟩)
    |none=>match j.farStore P c v (m == .atomic) with
     | .ok (bc,bb)=>p.runT P bc (es++bb.toArray.map (⟨.cell ·,Z,m == .atomic⟩))
     | .error n=>(.halt n j,es)):=by
    intro P j;cases v<;>first|exact absurd rfl (ab _)|exact absurd rfl (ad _)|rfl
   cases q:w.cell? c with
   |some l=>
    by_cases J:w.frozen? c=Z
    ·refine jR.ends (x:=.unsupported (.unsafePointer "a write to bytes that a string shares")) (by rw[t,q];simp only[J,if_true]) Y g (.inr λe d a b=>?_);have z:(sh e d a).cell? c=I l:=(b.cell c).trans q;have av:(sh e d a).frozen? c=Z:=(b.frozen c).trans J;rw[t,z];simp only[av,if_true]
    ·have ae:Hp O (w.setCell c v):=by
      unfold Ya;refine g.modify R _ _ λk=>?_;cases k<;>first|exact .inl rfl|exact .inr ⟨_,_,_,rfl⟩
     refine(u (w.setCell c v) (es.push ⟨.cell c,Z,m == .atomic⟩) i ae).cons 0 (by rw[t,q];simp only[J,if_false];rfl) rfl rfl (by simp[Ya]) rfl rfl (mL (by simpa [zS,Ya] using H6 q)) (.inr λe d a b _=>⟨a.setCell c v,b.setCell c v,?_⟩);have z:(sh e d a).cell? c=I l:=(b.cell c).trans q;have av:¬(sh e d a).frozen? c=Z:=λh=>J ((b.frozen c).symm.trans h);rw[t,z];simp only[av,if_false];rfl
   |none=>
    rcases zN w c with⟨l,o,B⟩|B
    ·have T:=λa (b:Un w a)=>am.store w a l o c v (m == .atomic) λr h f=>b.row;rcases T w (Un.refl w) with⟨ao,C,-⟩|⟨r,h,f,S,C,-,L⟩
     ·refine jR.ends (x:=.unsupported (.unsafePointer ao)) (by rw[t,q];simp only[kN B,C]) Y g (.inr λe d a b=>?_);have z:(sh e d a).cell? c=K:=(b.cell c).trans q;have aw:(sh e d a).heap[c.block]? =I (.view l o):=b.o B (by simp[pz]);rcases T (sh e d a) ⟨b.size,b.at_,b.os,b.output⟩ with⟨bd,E,al⟩|⟨r,h,f,S,E,-⟩
      ·rw[C] at E;cases E;rw[t,z];simp only[kN aw,al]
      ·rw[C] at E;cases E
     ·have ae:Hp O {w with heap:=w.heap.setIfInBounds l.block (.cells r h f)}:=g.set _ (R.cells _ _ _);refine(u {w with heap:=w.heap.setIfInBounds l.block (.cells r h f)} (es++S.toArray.map (⟨.cell ·,Z,m == .atomic⟩)) i ae).cons 0 (by rw[t,q];simp only[kN B,C]) Y Y (by simp) Y Y (Hx λD V=>?_) (.inr λe d a b _=>?_)
      ·obtain⟨y,a8,rfl⟩:=Array.mem_map.1 V;have:=L y (by simpa using a8);simpa [zS] using this
      ·have z:(sh e d a).cell? c=K:=(b.cell c).trans q;have aw:(sh e d a).heap[c.block]? =I (.view l o):=b.o B (by simp[pz]);rcases T (sh e d a) ⟨b.size,b.at_,b.os,b.output⟩ with⟨bd,E,al⟩|⟨a2,a3,a4,be,E,al,-⟩
       ·rw[C] at E;cases E
       ·rw[C] at E;have az:=Except.ok.inj E;simp only[Prod.mk.injEq] at az;obtain⟨a5,rfl⟩:=az;refine⟨{a with heap:=a.heap.setIfInBounds l.block (.cells a2 a3 a4)},?_,?_⟩
        ·rw[a5];exact b.set l.block (by simp[pz])
        ·rw[t,z];simp only[kN aw,al];rfl
    ·exact jR.ends (x:=.stuck "store: no such cell") (by rw[t,q];simp only[Ac B,sV R g B]) Y g (.inl ⟨_,rfl⟩)
  cases v with
  |agg l=>exact jR.ends (x:=.stuck "store: not the value of one cell") Y Y g (.inl ⟨_,rfl⟩)
  |tuple l=>exact jR.ends (x:=.stuck "store: not the value of one cell") Y Y g (.inl ⟨_,rfl⟩)
  |_=>exact a9 (λl n=>by cases n) (λl n=>by cases n)
 |new k p u=>
  intro w es i g;have X:k≠pz:=λh=>R.Rh (h▸i.1);exact(u w.heap.size {w with heap:=w.heap.push k} es (i.2 _) (g.push i.1)).cons 0 Y Y Y (by simp) Y Y (λh n=>.inl n) (.inr λe d a b _=>⟨{a with heap:=a.heap.push k},b.push X,by
   show(p a.heap.size).runT P' _ es=_;rw[b.size];rfl⟩)
 |shape x p u=>intro w es i g;exact(u (w.shape? x) w es (i _) g).cons 0 Y Y Y (T6 _) Y Y (λh n=>.inl n) (.inr λe d a b _=>⟨a,b.two,by
  show(p (a.shape? x)).runT P' (sh e d a) es=_;rw[b.shape];rfl⟩)
 |freeze c G p u=>
  intro w es i g;have ae:Hp O (w.freeze c G):=by
   unfold VQ
   split
   ·exact g
   ·refine g.modify R _ _ λk=>?_;cases k<;>first|exact .inl rfl|exact .inr ⟨_,_,_,rfl⟩
  have C:(w.freeze c G).tape=w.tape/\(w.freeze c G).drawn=w.drawn/\(w.freeze c G).heap.size=w.heap.size/\(w.freeze c G).os=w.os/\(w.freeze c G).output=w.output:=by
   unfold VQ;split<;>simp
  exact(u (w.freeze c G) es i ae).cons 0 Y C.1 C.2.1 (by rw[C.2.2.1];exact T6 _) C.2.2.2.1 C.2.2.2.2 (λh n=>.inl n) (.inr λe d a b _=>⟨a.freeze c G,b.freeze c G,by
   have:(sh e d a).freeze c G=sh e d (a.freeze c G):=by unfold VQ;split<;>rfl
   simp only[U4,this];rfl⟩)
 |frozen c p u=>intro w es i g;exact(u (w.frozen? c) w es (i _) g).cons 0 Y Y Y (T6 _) Y Y (λh n=>.inl n) (.inr λe d a b _=>⟨a,b.two,by
  show(p (a.frozen? c)).runT P' (sh e d a) es=_;rw[b.frozen];rfl⟩)
 |getObj x p u=>
  intro w es i g;cases A:w.heap[x]? with
  |none=>exact jR.ends (x:=.stuck "getObj: no such block") (by simp only[U4,A]) Y g (.inl ⟨_,rfl⟩)
  |some k=>
   have W:x<w.heap.size:=(Ua.1 A).1;by_cases q:∃r o y,k= .cells r o y
   ·obtain⟨r,o,y,rfl⟩:=q;exact jR.ends (x:=.stuck "getObj: a row of cells") (by simp only[U4,A]) Y g (.inl ⟨_,rfl⟩)
   ·have t:∀(P:Ue) (j:F) (k:Xv),(∀r o y,k≠.cells r o y)->j.heap[x]? =I k->(Sem.getObj x p).runT P j es=(p k).runT P j (es.push ⟨.obj x,T5,k.isChan⟩):=by
     intro P j k q ap;cases k<;>first|exact absurd rfl (q _ _ _)|simp only[U4,ap]
    have z:∀r o y,k≠.cells r o y:=λr o y h=>q ⟨r,o,y,h⟩;have T:Still P P' O Q (p k)\/∃D,p k= .halt (.stuck D):=by
     rcases g x k A with n|rfl
     ·exact .inl (i.1 k n)
     ·rcases i.2 with⟨D,n⟩|⟨n,-⟩
      ·exact .inr ⟨D,n⟩
      ·obtain⟨S,L⟩:=R.loop;exact .inl (by rw[<-n S];exact i.1 _ L)
    rcases T with T|⟨D,V⟩
    ·refine(u k w _ T g).cons 0 (t P w k z A) Y Y (T6 _) Y Y (mL (by simpa [zS] using W)) ?_;by_cases X:k=pz
     ·subst X;by_cases a0:∃D,p pz= .halt (.stuck D)
      ·obtain⟨D,V⟩:=a0;exact .inl ⟨D,w,by rw[t P w pz z A,V];rfl⟩
      ·refine .inr λe d a b _=>⟨a,b.two,?_⟩;rcases b.at_ x pz A with h|⟨_,l,h,U⟩
       ·exact t P' (sh e d a) pz z h
       ·rw[t P' (sh e d a) l (λr o y h=>by rw[h] at U;simp[jk] at U) h,(i.2.S8 U).resolve_left a0];cases l<;>first|rfl|(simp[jk] at U;done)
     ·exact .inr λe d a b _=>⟨a,b.two,t P' (sh e d a) k z (b.o A X)⟩
    ·have H:(Sem.getObj x p).runT P w es=(.halt (.stuck D) w,es.push ⟨.obj x,T5,k.isChan⟩):=by rw[t P w k z A,V];rfl
     refine⟨by rw[H];rfl,by rw[H];exact T6 _,by rw[H];exact T6 _,by rw[H];rfl,by rw[H];rfl,by rw[H];exact g,?_,?_,?_,.inl ⟨D,w,by rw[H]⟩⟩
     ·rw[H];intro c j n;cases n
     ·rw[H];intro n j h;cases h;rfl
     ·rw[H];exact mL (n:=w.heap.size) (by simpa [zS] using W)
 |setObj x k p u=>
  intro w es i g;cases A:w.heap[x]? with
  |none=>exact jR.ends (x:=.stuck "setObj: no such block") (by simp only[U4,A]) Y g (.inl ⟨_,rfl⟩)
  |some M=>
   have W:x<w.heap.size:=(Ua.1 A).1;by_cases q:∃r o y,M= .cells r o y
   ·obtain⟨r,o,y,rfl⟩:=q;exact jR.ends (x:=.stuck "setObj: a row of cells") (by simp only[U4,A]) Y g (.inl ⟨_,rfl⟩)
   ·have t:∀(P:Ue) (j:F) (M:Xv),(∀r o y,M≠.cells r o y)->j.heap[x]? =I M->(Sem.setObj x k p).runT P j es=p.runT P {j with heap:=j.heap.setIfInBounds x k} (es.push ⟨.obj x,Z,k.isChan⟩):=by
     intro P j M q ap;cases M<;>first|exact absurd rfl (q _ _ _)|simp only[U4,ap]
    have X:k≠pz:=λh=>R.Rh (h▸i.1);refine(u {w with heap:=w.heap.setIfInBounds x k} _ i.2 (g.set x i.1)).cons 0 (t P w M (λr o y h=>q ⟨r,o,y,h⟩) A) Y Y (by simp) Y Y (mL (by simpa [zS] using W)) (.inr λe d a b _=>⟨{a with heap:=a.heap.setIfInBounds x k},b.set x X,?_⟩);rcases b.at_ x M A with h|⟨_,l,h,U⟩
    ·exact t P' (sh e d a) M (λr o y h=>q ⟨r,o,y,h⟩) h
    ·exact t P' (sh e d a) l (λr o y h=>by rw[h] at U;simp[jk] at U) h
 |choose aa p u=>
  intro w es i g;by_cases J:aa.forced=Z
  ·exact(u 0 w es (i _) g).cons 0 (by simp only[U4,J,if_true]) Y Y (T6 _) Y Y (λh n=>.inl n) (.inr λe d a b _=>⟨a,b.two,by simp only[U4,J,if_true];rfl⟩)
  ·refine(u (aa.cut (w.tape w.drawn aa)) {w with drawn:=w.drawn+1} es (i _) g).cons 1 (by simp only[U4,J,if_false];rfl) rfl rfl (T6 _) rfl rfl (λh n=>.inl n) (.inr λe d a b a6=>⟨a,⟨⟨b.size,b.at_,b.os,b.output⟩,λa1 a7=>⟨a7,rfl⟩⟩,?_⟩);have:=a6 0 aa (by omega);simp only[Nat.add_zero] at this;simp only[U4,J,if_false];have h:(sh e d a).tape (sh e d a).drawn aa=w.tape w.drawn aa:=this;rw[h];rfl
 |sys r p u=>
  intro w es i g;obtain⟨rfl,i⟩:=i;exact(u (.strings w.os.env) w (es.push ⟨.output,Z,T5⟩) (i _) g).cons 0 Y Y Y (T6 _) Y Y (mL (by simp[zS])) (.inr λe d a b _=>⟨a,b.two,by
   show(p (.strings a.os.env)).runT P' (sh e d a) _=_;rw[b.os];rfl⟩)
 |program p u=>
  intro w es i g;exact(u P w es i.2 g).cons 0 Y Y Y (T6 _) Y Y (λh n=>.inl n) (.inr λe d a b _=>⟨a,b.two,by
   show(p P').runT P' (sh e d a) es=_;rw[<-i.1];rfl⟩)
 |mark m p u=>intro w es i g;exact(u w _ i.2 g).cons 0 Y Y Y (T6 _) Y Y (mL i.1) (.inr λe d a b _=>⟨a,b.two,rfl⟩)
 |halt l=>intro w es i g;exact jR.ends (x:=l) Y i g (.inr λe d a b=>rfl)
structure Twin(P P':Ue):Prop where
 info:∀t,P'.info? t=P.info? t
 tI:∀t,P'.underlying t=P.underlying t
 rt:P'.rt=P.rt
 cells:∀t,P'.cellsOf t=P.cellsOf t
 bytes:∀t,P'.bytesOf t=P.bytesOf t
 depth:P'.depth=P.depth
 ji:∀d e c o u n,liesAt P' d e c o u n=liesAt P d e c o u n
 cellAt:∀d e c o b,cellAtBytes P' d e c o b=cellAtBytes P d e c o b
 BK:∀d t o,byteOfCell P' d t o=byteOfCell P d t o
 SP:∀d t,P'.eqGuardType d t=P.eqGuardType d t
 IF:∀t,P'.stoodInHeld t=P.stoodInHeld t
 M1:∀d t,P'.holdsPacked d t=P.holdsPacked d t
 ym:P'.globals=P.globals
 godebug:P'.godebug=P.godebug
 TO:P'.types=P.types
 Q8:∀f:Nat,P'.funcs[f]? =P.funcs[f]? \/∃fn fn':WC,P.funcs[f]? =I fn/\P'.funcs[f]? =I fn'/\fn'.name=fn.name/\fn.body.isNone=T5/\fn'.body.isNone=T5
section
variable {P P':Ue}{O:Xv->Prop}{α β:Type}
abbrev St(P P':Ue)(O:Xv->Prop)(s:Wu α):Prop:=Still P P' O (λ_=>True) s
def iN{Q:α->Prop}{R:β->Prop}{s:Wu α}{f:α->Wu β}(c:Still P P' O Q s)(b:∀a,Q a->Still P P' O R (f a)):Still P P' O R (s >>= f):=Still.bind P P' O b c
def ag{R:β->Prop}{s:Wu α}{f:α->Wu β}(c:St P P' O s)(b:∀a,Still P P' O R (f a)):Still P P' O R (s >>= f):=Still.bind P P' O (λa _=>b a) c
def bU{Q:α->Prop}{c:Prop} [Decidable c]{s t:Wu α}(a:Still P P' O Q s)(b:Still P P' O Q t):Still P P' O Q (if c then s else t):=by split<;>assumption
def Tz{Q:α->Prop}{s:Wu α}(a:Still P P' O Q s):St P P' O s:=a.mono P P' O (λ_ _=>trivial)
def cB{Q:α->Prop}{f:Ue->Wu α}(h:f P=f P')(a:Still P P' O Q (f P)):Still P P' O Q (program >>= f):=⟨h,a⟩
def aA{Q:α->Prop}(s:String):Still P P' O Q (stuck s):=rfl
def aZ{Q:α->Prop}(u:Unsupported)(h:pg (.unsupported u)=Z):Still P P' O Q (unsupported u):=h
def oP{Q:α->Prop}(v:U):Still P P' O Q (goPanic v):=rfl
def tD(a:UJ)(m:Mode):St P P' O (load a m):=λ_=>trivial
def NM(a:UJ)(v:U)(m:Mode):St P P' O (store a v m):=trivial
def gN(r:Nat):St P P' O (shape r):=λ_=>trivial
def uU(a:UJ):St P P' O (frozen a):=λ_=>trivial
def Bl(a:UJ)(n:Nat):St P P' O (freeze a n):=trivial
def cV(q:Question):St P P' O (choose q):=λ_=>trivial
def jD{R:β->Prop}(r:Nat){f:Xv->Wu β}(a:∀o,O o->Still P P' O R (f o))(b:Gx f):Still P P' O R (getObj r >>= f):=⟨a,b⟩
def pS{f:Xv->Wu β}{s:String}(h:f pz= .halt (.stuck s)):Gx f:=.inl ⟨s,h⟩
def Ig{f:Xv->Wu β}(h1:∀r,f (.loop r)=f pz)(a:∀d,f (.deferred d)=f pz)(b:∀c t,f (.pending c t)=f pz)(e:∀x,f (.coro x)=f pz):Gx f:=.inr ⟨h1,a,b,e⟩
def l8(r:Nat){o:Xv}(h:O o):St P P' O (setObj r o):=⟨h,trivial⟩
def l7{o:Xv}(h:O o):St P P' O (newObj o):=⟨h,λ_=>trivial⟩
def Bo:St P P' O (mark .noRoom):=⟨.inl Y,trivial⟩
def zq(n:Nat):St P P' O (askRoom n):=by unfold askRoom;split;exact Bo;exact trivial
def oM(v:U):St P P' O (asIntOf v):=by unfold asIntOf;split<;>first|exact trivial|exact aA _|exact rfl
def k8(v:U):St P P' O (asInt v):=ag (oM v) (λ_=>trivial)
def uQ(v:U):St P P' O (asBool v):=by unfold asBool;split<;>first|exact trivial|exact aA _
def ql(v:U):St P P' O (asString v):=by unfold asString;split<;>first|exact trivial|exact aA _
def zo(v:U):St P P' O (asAgg v):=by unfold asAgg;split<;>first|exact trivial|exact aA _
def bM(a:Twin P P')(t:Ug):St P P' O (XC t):=by
 unfold XC;refine cB (by rw[a.info]) ?_
 split
 ·exact trivial
 ·exact aA _
def aH(a:Twin P P')(t:Ug):St P P' O (Xq t):=by
 unfold Xq;refine cB (by rw[a.tI]) ?_
 split
 ·exact trivial
 ·exact aA _
def fI(a:Twin P P')(t:Ug):St P P' O (Wn t):=by
 unfold Wn;refine ag (bM a t) λb=>?_
 split
 ·exact trivial
 ·exact aZ _ Y
def bT(a:Twin P P')(t:Ug):St P P' O (sizeOf t):=ag (bM a t) (λ_=>trivial)
def ES(a:Twin P P')(t:Ug):St P P' O (isAgg t):=by
 unfold isAgg;refine ag (aH a t) λb=>?_
 split<;>exact trivial
def sw(a:Twin P P')(t:Ug):St P P' O (typeStr t):=by
 unfold typeStr;refine ag (bM a t) λb=>?_;dsimp only
 split
 ·exact aZ _ Y
 ·exact trivial
def uS(a:Twin P P')(t:Ug):St P P' O (elemOf t):=by
 unfold elemOf;refine ag (aH a t) λb=>?_
 split
 ·exact trivial
 ·exact aA _
theorem og(a:UJ):∀(n i:Nat) (b:Array U),St P P' O (loadCellsFrom a i n b)
 |0,i,b=>trivial
 |n+1,i,b=>ag (tD _ _) (λv=>og a n (i+1) (b.push v))
def oQ(a:UJ)(n:Nat):St P P' O (loadCells a n):=og a n 0 #[]
theorem jo(a:UJ):∀(vs:List U) (i:Nat),St P P' O (storeCells a vs i)
 | [],i=>trivial
 |v::b,i=>ag (NM _ _ _) (λ_=>jo a b (i+1))
def jM(a:Plain O)(e:Ug)(c:Array U):St P P' O (newRow e c):=ag (l7 (a.cells c e (0,0))) (λ_=>trivial)
def Bn(a:Plain O)(e:Ug)(v:U):St P P' O (newVar e v):=jM a e v.cells
def gV(a:Twin P P')(t:Ug)(cs:Array U)(off:Nat):St P P' O (part t cs off):=by
 unfold part;refine ag (ES a t) λb=>?_
 split
 ·exact ag (bT a t) λ_=>trivial
 ·split
  ·exact trivial
  ·exact aA _
def oR(b:Twin P P')(t:Ug)(a:UJ):St P P' O (loadVar t a):=by
 unfold loadVar;refine ag (ES b t) λc=>?_
 split
 ·exact ag (bT b t) λ_=>ag (oQ _ _) λ_=>trivial
 ·exact tD _ _
def v8(b:Twin P P')(t:Ug)(a:UJ)(v:U):St P P' O (storeVar t a v):=by
 unfold storeVar;refine ag (bT b t) λc=>?_;dsimp only
 split
 ·exact ag (aA _) λ_=>jo _ _ _
 ·exact jo _ _ _
def bP(a:Twin P P')(b:Plain O){Q:α->Prop}(e:RuntimeError):Still P P' O Q (runtimePanic e):=by
 unfold runtimePanic;refine cB ?_ ?_
 ·dsimp only;rw[a.rt];cases e<;>first|rfl|(simp only[typeHandle,a.ym])
 ·dsimp only;cases e with
  |typeAssertion f d c m=>exact ag (uS a _) λ_=>ag (Bn b _ _) λ_=>oP _
  |panicNil=>exact ag (uS a _) λ_=>ag (Bn b _ _) λ_=>oP _
  |_=>exact oP _
def oe(b:Twin P P')(a:Plain O)(v:U):St P P' O (asAddr v):=by
 unfold asAddr
 split
 ·exact trivial
 ·exact bP b a _
 ·exact aA _
def mQ(b:Twin P P')(a:Plain O){Q:α->Prop}(k:Wx)(x y:Int)(c:BoundsCode):Still P P' O Q (boundsPanic k x y c):=by
 unfold boundsPanic;dsimp only
 split
 ·exact ag (ag (cV _) λ_=>trivial) λ_=>bP b a _
 ·exact ag trivial λ_=>bP b a _
def Bq(b:Twin P P')(a:Plain O)(r:Nat):St P P' O (viewAt r):=by unfold viewAt;((try dsimp only);repeat' first|exact gN _|(refine jD _ (λ_ _=>?_) ?_)|exact Ig (λ_=>rfl) (λ_=>rfl) (λ_ _=>rfl) (λ_=>rfl)|assumption|(refine ag ?_ (λ_=>?_))|(refine bU ?_ ?_)|intro _|split|(dsimp only)|exact trivial)
def vY(b:Twin P P')(a:Plain O)(r:Nat):St P P' O (numberAt r):=by unfold numberAt;((try dsimp only);repeat' first|exact gN _|(refine jD _ (λ_ _=>?_) ?_)|exact Ig (λ_=>rfl) (λ_=>rfl) (λ_ _=>rfl) (λ_=>rfl)|assumption|(refine ag ?_ (λ_=>?_))|(refine bU ?_ ?_)|intro _|split|(dsimp only)|exact trivial)
def dZ(b:Twin P P')(a:Plain O)(n:UJ):St P P' O (WA n):=by unfold WA;((try dsimp only);repeat' first|exact vY b a _|assumption|(refine ag ?_ (λ_=>?_))|intro _|split|(dsimp only)|exact trivial)
def Bp(c:Twin P P')(b:Plain O)(a:UJ):St P P' O (noView a):=by unfold noView;((try dsimp only);repeat' first|(refine aZ _ ?_;rfl)|exact Bq c b _|assumption|(refine ag ?_ (λ_=>?_))|(refine bU ?_ ?_)|intro _|split|(dsimp only)|exact trivial)
def oh(c:Twin P P')(b:Plain O)(a:UJ):St P P' O (markStringish a):=by unfold markStringish;((try dsimp only);repeat' first|exact gN _|exact Bl _ _|assumption|(refine ag ?_ (λ_=>?_))|intro _|split|(dsimp only)|exact trivial)
def CO(c:Twin P P')(b:Plain O)(a:UJ):St P P' O (stringish a):=by unfold stringish;((try dsimp only);repeat' first|exact gN _|exact uU _|assumption|(refine ag ?_ (λ_=>?_))|(refine bU ?_ ?_)|intro _|split|(dsimp only)|exact trivial)
def EU(d:Twin P P')(c:Plain O)(a b:UJ):St P P' O (mayBeOne a b):=by unfold mayBeOne;((try dsimp only);repeat' first|exact gN _|exact CO d c _|assumption|(refine ag ?_ (λ_=>?_))|intro _|split|(dsimp only)|exact trivial)
def vZ(d:Twin P P')(c:Plain O)(a b:UJ):St P P' O (sameAddr a b):=by unfold sameAddr;((try dsimp only);repeat' first|exact uU _|exact cV _|(refine aZ _ ?_;rfl)|exact EU d c _ _|exact Bp d c _|assumption|(refine ag ?_ (λ_=>?_))|(refine bU ?_ ?_)|intro _|split|(dsimp only)|exact trivial)
def zD(d:Twin P P')(c:Plain O)(a b:Option UJ):St P P' O (samePointer a b):=by unfold samePointer;((try dsimp only);repeat' first|exact vZ d c _ _|assumption|intro _|split|(dsimp only)|exact trivial)
def qU(b:Twin P P')(c:Plain O)(a:UJ):St P P' O (byteOf a):=by
 unfold byteOf;dsimp only
 split
 ·exact trivial
 ·refine cB (by simp only[b.cells,b.bytes,b.BK,b.depth]) ?_
  ((try dsimp only);repeat' first|exact aA _|exact gN _|exact Bp b c _|assumption|(refine ag ?_ (λ_=>?_))|(refine bU ?_ ?_)|intro _|split|(dsimp only)|exact trivial)
def KH(e:Twin P P')(d:Plain O)(a:UJ)(c b:Nat):St P P' O (partAt a c b):=by unfold partAt;((try dsimp only);repeat' first|exact qU e d _|assumption|(refine ag ?_ (λ_=>?_))|intro _|split|(dsimp only)|exact trivial)
def rM(b:Twin P P')(c:Plain O)(a:UJ)(f:Field):St P P' O (fieldPlace a f):=by unfold fieldPlace;((try dsimp only);repeat' first|exact bT b _|exact KH b c _ _ _|assumption|(refine ag ?_ (λ_=>?_))|(refine bU ?_ ?_)|intro _|split|(dsimp only)|exact trivial)
def zF(b:Twin P P')(c:Plain O)(a:UJ)(u:Ug)(n:Nat):St P P' O (variablesAt a u n):=by
 unfold variablesAt;refine cB (by simp only[b.cells,b.ji,b.depth]) ?_
 ((try dsimp only);repeat' first|exact gN _|assumption|(refine ag ?_ (λ_=>?_))|intro _|split|(dsimp only)|exact trivial)
def CK(e:Twin P P')(d:Plain O)(a:UJ)(b:ByteArray)(n:Nat):St P P' O (loadBytes a b n):=by
 induction n generalizing a b with
 |zero=>exact trivial
 |succ n c=>unfold loadBytes;((try dsimp only);repeat' first|exact aA _|exact tD _ _|exact c _ _|assumption|(refine ag ?_ (λ_=>?_))|intro _|split|(dsimp only)|exact trivial)
theorem CJ{γ:Type}{f:α->γ->Wu (ForInStep γ)}:∀(l:List α) (b:γ),(∀x b,St P P' O (f x b))->St P P' O (forIn l b f)
 | [],b,a=>by simp only[List.forIn_nil];exact trivial
 |x::l,b,a=>by
  simp only[List.forIn_cons];refine ag (a x b) λs=>?_;cases s with
  |done b=>exact trivial
  |yield b=>exact CJ l b a
def oO{γ:Type}{f:α->γ->Wu (ForInStep γ)}(l:Array α)(b:γ)(h:∀x b,St P P' O (f x b)):St P P' O (forIn l b f):=by
 rw[<-Array.forIn_toList];exact CJ _ _ h
def qW{γ:Type}{f:Nat->γ->Wu (ForInStep γ)}(n:Nat)(b:γ)(h:∀x b,St P P' O (f x b)):St P P' O (forIn [0:n] b f):=by
 rw[Vx];exact CJ _ _ h
theorem ID(g:α->Wu β):∀(l:List α),(∀x,St P P' O (g x))->St P P' O (l.mapM g)
 | [],a=>by rw[List.mapM_nil];exact trivial
 |x::l,a=>by
  rw[List.mapM_cons];exact ag (a x) λ_=>ag (ID g l a) λ_=>trivial
def IC(g:α->Wu β)(l:Array α)(h:∀x,St P P' O (g x)):St P P' O (l.mapM g):=by
 rw[Array.mapM_eq_mapM_toList];exact ag (ID g _ h) λ_=>trivial
theorem EP{γ:Type}(g:γ->α->Wu γ):∀(l:List α) (b:γ),(∀b x,St P P' O (g b x))->St P P' O (l.foldlM g b)
 | [],b,a=>trivial
 |x::l,b,a=>by
  rw[List.foldlM_cons];exact ag (a b x) λ_=>EP g l _ a
def lg(v:U):St P P' O (Xd v):=by unfold Xd;split<;>first|exact trivial|exact aA _
def NC(a:Twin P P')(b:Plain O)(e:Ug)(h:Bool)(v:U):St P P' O (Instr.alloc e h v):=by unfold Instr.alloc;((try dsimp only);repeat' first|exact fI a _|exact v8 a _ _ _|exact jM b _ _|assumption|(refine ag ?_ (λ_=>?_))|intro _|split|(dsimp only)|exact trivial)
def RG(b:Twin P P')(a:Plain O)(e:Ug)(v:U):St P P' O (Instr.box e v):=by unfold Instr.box;((try dsimp only);repeat' first|exact jM a _ _|assumption|(refine ag ?_ (λ_=>?_))|intro _|split|(dsimp only)|exact trivial)
def NE(a:Twin P P')(b:Plain O)(t:Ug)(ps:Array (Nat×U)):St P P' O (Instr.build t ps):=by
 unfold Instr.build;refine ag (fI a t) λe=>?_;dsimp only;refine ag (aH a t) λd=>?_
 split
 ·refine ag (IC _ _ λf=>ag (bT a _) λ_=>trivial) λc=>?_
  ((try dsimp only);repeat' first|exact aH a _|exact fI a _|exact bT a _|exact aA _|assumption|(refine ag ?_ (λ_=>?_))|intro _|split|(dsimp only)|exact trivial)
 ·((try dsimp only);repeat' first|exact aH a _|exact fI a _|exact bT a _|exact aA _|assumption|(refine ag ?_ (λ_=>?_))|intro _|split|(dsimp only)|exact trivial)
 ·exact aA _
def As(a:Twin P P')(b:Plain O)(t:Ug)(n:Nat)(ps:Array (Nat×U)):St P P' O (XO t n ps):=by unfold XO;((try dsimp only);repeat' first|exact aH a _|exact fI a _|exact bT a _|exact aA _|(refine aZ _ ?_;rfl)|exact jM b _ _|assumption|(refine ag ?_ (λ_=>?_))|(refine bU ?_ ?_)|intro _|split|(dsimp only)|exact trivial)
def KF(a:Twin P P')(b:Plain O)(t:Ug)(v:U):St P P' O (Instr.loadAt t v):=by unfold Instr.loadAt;((try dsimp only);repeat' first|exact oR a _ _|exact lg _|assumption|(refine ag ?_ (λ_=>?_))|intro _|split|(dsimp only)|exact trivial)
def G1(b:Twin P P')(c:Plain O)(t:Ug)(a v:U):St P P' O (Instr.storeAt t a v):=by unfold Instr.storeAt;((try dsimp only);repeat' first|exact v8 b _ _ _|exact lg _|assumption|(refine ag ?_ (λ_=>?_))|intro _|split|(dsimp only)|exact trivial)
def GW(b:Twin P P')(c:Plain O)(t:Ug)(a:U)(f:Nat):St P P' O (Instr.fieldAt t a f):=by unfold Instr.fieldAt;((try dsimp only);repeat' first|exact aH b _|exact aA _|exact lg _|exact rM b c _ _|assumption|(refine ag ?_ (λ_=>?_))|intro _|split|(dsimp only)|exact trivial)
def GX(b:Twin P P')(c:Plain O)(t:Ug)(a i:U):St P P' O (Instr.indexAt t a i):=by unfold Instr.indexAt;((try dsimp only);repeat' first|exact aH b _|exact bT b _|exact aA _|(refine aZ _ ?_;rfl)|exact oM _|exact mQ b c _ _ _ _|exact lg _|assumption|(refine ag ?_ (λ_=>?_))|(refine bU ?_ ?_)|intro _|split|(dsimp only)|exact trivial)
def Av(b:Twin P P')(a:Plain O)(x:U)(y:Nat)(c:BoundsCode):St P P' O (Instr.sliceBound x y c):=by unfold Instr.sliceBound;((try dsimp only);repeat' first|exact oM _|exact mQ b a _ _ _ _|assumption|(refine ag ?_ (λ_=>?_))|(refine bU ?_ ?_)|intro _|split|(dsimp only)|exact trivial)
def qw(e:Twin P P')(d:Plain O)(s:Bool)(l c:Nat)(a b m:Option U):St P P' O (Instr.sliceBounds s l c a b m):=by unfold Instr.sliceBounds;((try dsimp only);repeat' first|exact aA _|exact Av e d _ _ _|assumption|(refine ag ?_ (λ_=>?_))|intro _|split|(dsimp only)|exact trivial)
def NL(c:Twin P P')(d:Plain O)(t:Ug)(x:U)(a b m:Option U):St P P' O (Instr.slice t x a b m):=by unfold Instr.slice;((try dsimp only);repeat' first|exact aH c _|exact bT c _|exact aA _|exact oe c d _|exact qw c d _ _ _ _ _ _|assumption|(refine ag ?_ (λ_=>?_))|(refine bU ?_ ?_)|intro _|split|(dsimp only)|exact trivial)
def G0(c:Twin P P')(d:Plain O)(t:Ug)(x:U)(a b m:Option U):St P P' O (Instr.sliceAt t x a b m):=by unfold Instr.sliceAt;((try dsimp only);repeat' first|exact aH c _|exact bT c _|exact qw c d _ _ _ _ _ _|exact NL c d _ _ _ _ _|exact lg _|assumption|(refine ag ?_ (λ_=>?_))|intro _|split|(dsimp only)|exact trivial)
def uW(a:Twin P P')(b:Plain O)(t:Ug)(x:U):St P P' O (Instr.makeInterface t x):=by unfold Instr.makeInterface;((try dsimp only);repeat' first|exact aH a _|exact aA _|assumption|(refine ag ?_ (λ_=>?_))|intro _|split|(dsimp only)|exact trivial)
def CL(c:Twin P P')(d:Plain O)(t:Ug)(a b:U):St P P' O (XY t a b):=by unfold XY;((try dsimp only);repeat' first|exact bM c _|exact aH c _|exact fI c _|exact bT c _|exact aA _|exact bP c d _|exact cV _|exact k8 _|exact jM d _ _|exact zq _|assumption|(refine ag ?_ (λ_=>?_))|(refine bU ?_ ?_)|intro _|split|(dsimp only)|exact trivial)
def GZ(b:Twin P P')(d:Plain O)(a:∀e c,O (.map e c))(t:Ug)(r:Option U):St P P' O (Instr.makeMap t r):=by unfold Instr.makeMap;((try dsimp only);repeat' first|exact aH b _|exact aA _|exact k8 _|exact l7 (a _ _)|assumption|(refine ag ?_ (λ_=>?_))|intro _|split|(dsimp only)|exact trivial)
def NH(a:Twin P P')(b:Plain O)(t:Ug)(x:U)(f:Nat):St P P' O (Instr.field t x f):=by unfold Instr.field;((try dsimp only);repeat' first|exact aH a _|exact aA _|exact zo _|exact gV a _ _ _|assumption|(refine ag ?_ (λ_=>?_))|intro _|split|(dsimp only)|exact trivial)
def NI(a:Twin P P')(b:Plain O)(t:Ug)(x i:U):St P P' O (Instr.index t x i):=by unfold Instr.index;((try dsimp only);repeat' first|exact aH a _|exact bT a _|exact aA _|exact oM _|exact mQ a b _ _ _ _|exact gV a _ _ _|assumption|(refine ag ?_ (λ_=>?_))|(refine bU ?_ ?_)|intro _|split|(dsimp only)|exact trivial)
def GV(v:U)(i:Nat):St P P' O (Instr.extract v i):=by
 unfold Instr.extract
 split
 ·split
  ·exact trivial
  ·exact aA _
 ·exact aA _
def EW(a:Twin P P'):St P P' O Instr.panicnil:=by
 unfold Instr.panicnil;refine ag ⟨rfl,λ_=>trivial⟩ λb=>?_
 split
 ·dsimp only;exact cB (by rw[a.godebug]) trivial
 ·exact aA _
def NJ(a:Twin P P')(b:Plain O)(x:U):St P P' O (Instr.panic x):=by unfold Instr.panic;((try dsimp only);repeat' first|exact aA _|exact bP a b _|exact oP _|exact EW a|assumption|(refine ag ?_ (λ_=>?_))|(refine bU ?_ ?_)|intro _|split|(dsimp only)|exact trivial)
end
section
variable {P P':Ue}{O:Xv->Prop}{α β:Type}
def vW(a:Yx)(k:Wx)(x y:Int):St P P' O (Op.intArith a k x y):=by unfold Op.intArith;split<;>first|exact trivial|exact aA _
def KE(b:Twin P P')(a:Plain O)(c:Yx)(k:Wx)(x y:Int):St P P' O (Op.intDiv c k x y):=by unfold Op.intDiv;((try dsimp only);repeat' first|exact aA _|exact bP b a _|assumption|(refine bU ?_ ?_)|intro _|split|(dsimp only)|exact trivial)
def zx(a:Yx)(k:Wx)(x y:Int):St P P' O (Op.intBits a k x y):=by unfold Op.intBits;dsimp only;split<;>first|exact trivial|exact aA _
def KD(a:Yx)(x y:Int):St P P' O (Op.intCmp a x y):=by unfold Op.intCmp;split<;>first|exact trivial|exact aA _
def NK(b:Twin P P')(a:Plain O)(c:Yx)(k:Wx)(x:Int)(d:Wx)(y:Int):St P P' O (Op.shift c k x d y):=by unfold Op.shift;((try dsimp only);repeat' first|exact aA _|exact bP b a _|assumption|(refine bU ?_ ?_)|intro _|split|(dsimp only)|exact trivial)
def rO(a:Yx)(k:FloatKind)(x y:Nat):St P P' O (Op.floatArith a k x y):=by
 unfold Op.floatArith;dsimp only
 split
 all_goals first|exact ag (aA _) λ_=>(by split<;>first|exact trivial|exact ag (cV _) λ_=>trivial)|exact ag trivial λ_=>(by split<;>first|exact trivial|exact ag (cV _) λ_=>trivial)
def vV(a:Yx)(k:FloatKind)(x y:Nat):St P P' O (Op.floatCmp a k x y):=by unfold Op.floatCmp;dsimp only;split<;>first|exact trivial|exact aA _
def wV(s:FloatKind)(b:Nat)(d:FloatKind):St P P' O (Conv.floatToFloat s b d):=by
 unfold Conv.floatToFloat
 (try dsimp only)
 repeat' first|exact trivial|exact aA _|exact cV _|refine ag ?_ (λ_=>?_)|intro _|split|dsimp only
def qV(a:Yx)(k:FloatKind)(x y:Nat):St P P' O (YS a k x y):=by
 unfold YS;refine ag (rO _ _ _ _) λ_=>?_
 split<;>first|exact trivial|exact aA _
def CG(a:Yx)(k:FloatKind)(x y:Nat):St P P' O (YV a k x y):=by
 unfold YV;exact ag (vV _ _ _ _) λ_=>uQ _
def k9(s:FloatKind)(b:Nat)(d:FloatKind):St P P' O (YT s b d):=by
 unfold YT
 split
 ·exact trivial
 ·refine ag (wV _ _ _) λ_=>?_
  split<;>first|exact trivial|exact aA _
def NF(a b c d:Nat):St P P' O (YP a b c d):=by
 unfold YP YX YW YU
 repeat' first|exact trivial|exact qV _ _ _ _|refine ag ?_ (λ_=>?_)
def NG(a b c d:Nat):St P P' O (YN a b c d):=by
 unfold YN YY YX YW YU Y7
 repeat' first|exact qV _ _ _ _|exact CG _ _ _ _|refine ag ?_ (λ_=>?_)|split|dsimp only|exact trivial
def CH(e:Yx)(k:FloatKind)(a b c d:Nat):St P P' O (Op.complexOp e k a b c d):=by
 unfold Op.complexOp
 split
 all_goals first
  |exact ag (qV _ _ _ _) λ_=>ag (qV _ _ _ _) λ_=>trivial
  |exact ag (CG _ _ _ _) λ_=>ag (CG _ _ _ _) λ_=>trivial
  |exact aA _
  |(refine ag (k9 _ _ _) λ_=>ag (k9 _ _ _) λ_=>ag (k9 _ _ _) λ_=>ag (k9 _ _ _) λ_=>?_;dsimp only
    split
    ·exact ag (NF _ _ _ _) λ_=>ag (k9 _ _ _) λ_=>ag (k9 _ _ _) λ_=>trivial
    ·exact ag (NG _ _ _ _) λ_=>ag (k9 _ _ _) λ_=>ag (k9 _ _ _) λ_=>trivial)
def v9(a:Yx)(x y:ByteArray):St P P' O (Op.stringOp a x y):=by
 unfold Op.stringOp
 repeat' first|exact trivial|exact aA _|exact aZ _ Y|split|dsimp only
def NN(a:UnOp)(x:U):St P P' O (Op.unary a x):=by
 unfold Op.unary
 repeat' first|exact trivial|exact aA _|exact aZ _ Y|exact vW _ _ _ _|exact zx _ _ _ _|split|dsimp only
def tE(c:Twin P P')(d:Plain O)(a b:UJ):St P P' O (Op.twoPlaces a b):=by
 unfold Op.twoPlaces;refine cB (by rw[c.ym]) ?_
 ((try dsimp only);repeat' first|(refine aZ _ ?_;rfl)|exact qU c d _|assumption|(refine ag ?_ (λ_=>?_))|(refine bU ?_ ?_)|intro _|split|(dsimp only)|exact trivial)
def GN(d:Twin P P')(c:Plain O)(k:Wx)(a b:UJ):St P P' O (Op.addrSub k a b):=by unfold Op.addrSub;((try dsimp only);repeat' first|exact tE d c _ _|assumption|(refine ag ?_ (λ_=>?_))|intro _|split|(dsimp only)|exact trivial)
def GL(d:Twin P P')(c:Plain O)(k:Yx)(a b:UJ):St P P' O (Op.addrCmp k a b):=by unfold Op.addrCmp;((try dsimp only);repeat' first|(refine aZ _ ?_;rfl)|exact tE d c _ _|assumption|(refine ag ?_ (λ_=>?_))|intro _|split|(dsimp only)|exact trivial)
def GM(b:Twin P P')(c:Plain O)(k:Wx)(a:UJ)(n:Int):St P P' O (Op.addrMod k a n):=by unfold Op.addrMod;((try dsimp only);repeat' first|exact bM b _|exact gN _|(refine aZ _ ?_;rfl)|exact qU b c _|assumption|(refine ag ?_ (λ_=>?_))|(refine bU ?_ ?_)|intro _|split|(dsimp only)|exact trivial)
def tF(b:Twin P P')(k:Plain O)(o:Array Ug)(t:Ug)(d:Array U):St P P' O (Xn o t d):=by
 have f:∀s:String,St P P' O (stuck s:Wu U):=λs=>aA s;unfold Xn;obtain⟨h⟩:=d;rcases h with _|⟨a,_|⟨p,_|⟨q,h⟩⟩⟩
 case cons.cons.nil=>
  cases a with
  |pointer n=>
   dsimp only;refine ag (k8 _) λl=>?_
   split
   ·((try dsimp only);repeat' first|exact aA _|exact gN _|(refine aZ _ ?_;rfl)|exact k8 _|exact Bq b k _|assumption|(refine ag ?_ (λ_=>?_))|(refine bU ?_ ?_)|intro _|split|(dsimp only)|exact trivial)
   ·have g:St P P' O (match n with
     |some a=>do
      let i <-shape a.block
      match i with
       |some (e,j)=>do
        let c <-program
        match cellAtBytes c c.depth e (j/c.cellsOf e) a.off l with
         |some m=>pure (Value.pointer (I {block:=a.block,off:=m,spot:=a.spot}))
         |none=>unsupported (Yz "Add")
       |x=>unsupported (Yz "Add")
     |x=>unsupported (Yz "Add"):Wu U):=by
     split
     ·refine ag (gN _) λs=>?_
      split
      ·refine cB (by simp only[b.cells,b.cellAt,b.depth]) ?_
       ((try dsimp only);repeat' first|exact aA _|exact gN _|(refine aZ _ ?_;rfl)|exact k8 _|assumption|(refine ag ?_ (λ_=>?_))|(refine bU ?_ ?_)|intro _|split|(dsimp only)|exact trivial)
      ·exact aZ _ Y
     ·exact aZ _ Y
    split
    ·exact ag (aZ _ Y) λ_=>g
    ·exact g
  |_=>exact f _
 all_goals exact f _
def EK(c:∀a b,O (.number a b))(a:UJ)(l:Bool):St P P' O (asNumber a l):=ag (l7 (c _ _)) λ_=>trivial
def qt(c:Twin P P')(d:Plain O)(e:∀a b,O (.number a b))(t:Ug)(x y:U):St P P' O (movedNumber t x y):=by unfold movedNumber;((try dsimp only);repeat' first|exact aH c _|(refine aZ _ ?_;rfl)|exact tF c d _ _ _|exact dZ c d _|exact EK e _ _|assumption|(refine ag ?_ (λ_=>?_))|(refine bU ?_ ?_)|intro _|split|(dsimp only)|exact trivial)
def wW(b:Twin P P')(a:Plain O)(t:Ug)(x y:U):St P P' O (movedPointer t x y):=by unfold movedPointer;((try dsimp only);repeat' first|(refine aZ _ ?_;rfl)|exact tF b a _ _ _|exact vY b a _|assumption|(refine ag ?_ (λ_=>?_))|(refine bU ?_ ?_)|intro _|split|(dsimp only)|exact trivial)
theorem zv(a:Twin P P')(b:Plain O):∀(d:Nat) (t:Ug) (x y:U),St P P' O (Op.equalIn d t x y)
 |0,t,x,y=>aZ _ Y
 |d+1,t,x,y=>by
  have c:=zv a b d;unfold Op.equalIn;refine ag (aH a t) λh=>?_
  split
  all_goals first
   |exact trivial
   |exact aA _
   |exact aZ _ Y
   |exact zD a b _ _
   |exact bU trivial (aA _)
   |(refine ag (dZ a b _) λe=>?_;refine ag (dZ a b _) λf=>?_;dsimp only;refine cB (by rw[a.ym]) ?_
     ((try dsimp only);repeat' first|exact bM a _|exact aH a _|exact bT a _|exact aA _|exact bP a b _|exact cV _|(refine aZ _ ?_;rfl)|exact gV a _ _ _|exact qU a b _|assumption|(refine ag ?_ (λ_=>?_))|(refine bU ?_ ?_)|intro _|split|(dsimp only)|exact trivial))
   |(refine ag (bT a _) λg=>?_
     ((try dsimp only);repeat' first|exact bM a _|exact aH a _|exact bT a _|exact aA _|exact bP a b _|exact cV _|(refine aZ _ ?_;rfl)|exact gV a _ _ _|exact vZ a b _ _|assumption|(refine ag ?_ (λ_=>?_))|(refine bU ?_ ?_)|intro _|split|(dsimp only)|exact trivial))
   |skip
  ·refine bU trivial ?_;refine ag (bM a _) λinfo=>?_;dsimp only
   split
   ·refine cB (by simp only[a.M1]) ?_;refine cB (by simp only[a.depth]) ?_
    ((try dsimp only);repeat' first|exact bM a _|exact aH a _|exact bT a _|exact aA _|exact bP a b _|exact cV _|(refine aZ _ ?_;rfl)|exact gV a _ _ _|exact sw a _|assumption|(refine ag ?_ (λ_=>?_))|(refine bU ?_ ?_)|intro _|split|(dsimp only)|exact trivial)
   ·exact c _ _ _
  ·refine cB (by rw[a.IF]) ?_
   ((try dsimp only);repeat' first|exact bM a _|exact aH a _|exact bT a _|exact aA _|exact bP a b _|exact cV _|(refine aZ _ ?_;rfl)|exact gV a _ _ _|exact c _ _ _|assumption|(refine oO _ _ (λ_ _=>?_))|(refine qW _ _ (λ_ _=>?_))|(refine ag ?_ (λ_=>?_))|(refine bU ?_ ?_)|intro _|split|(dsimp only)|exact trivial)
  ·((try dsimp only);repeat' first|exact bM a _|exact aH a _|exact bT a _|exact aA _|exact bP a b _|exact cV _|(refine aZ _ ?_;rfl)|exact gV a _ _ _|exact c _ _ _|assumption|(refine oO _ _ (λ_ _=>?_))|(refine qW _ _ (λ_ _=>?_))|(refine ag ?_ (λ_=>?_))|(refine bU ?_ ?_)|intro _|split|(dsimp only)|exact trivial)
def EN(b:Twin P P')(a:Plain O)(t:Ug)(x y:U):St P P' O (Op.equal t x y):=zv b a _ t x y
theorem oN(a:Twin P P')(c:Plain O):∀(d:Nat) (t:Ug) (x y:U),St P P' O (Op.eqGuardIn d t x y)
 |0,t,x,y=>aZ _ Y
 |d+1,t,x,y=>by
  have b:=oN a c d;unfold Op.eqGuardIn;refine ag (aH a t) λe=>?_
  split
  ·exact trivial
  ·((try dsimp only);repeat' first|exact aH a _|exact bT a _|(refine aZ _ ?_;rfl)|exact gV a _ _ _|exact b _ _ _|assumption|(refine oO _ _ (λ_ _=>?_))|(refine qW _ _ (λ_ _=>?_))|(refine ag ?_ (λ_=>?_))|(refine bU ?_ ?_)|intro _|split|(dsimp only)|exact trivial)
  ·((try dsimp only);repeat' first|exact aH a _|exact bT a _|(refine aZ _ ?_;rfl)|exact gV a _ _ _|exact b _ _ _|assumption|(refine oO _ _ (λ_ _=>?_))|(refine qW _ _ (λ_ _=>?_))|(refine ag ?_ (λ_=>?_))|(refine bU ?_ ?_)|intro _|split|(dsimp only)|exact trivial)
  ·exact trivial
def GU(c:Twin P P')(d:Plain O)(e:Yx)(t:Ug)(x y:U6)(a b:U):St P P' O (eqGuard e t x y a b):=by
 unfold eqGuard;refine bU trivial ?_
 split
 ·((try dsimp only);repeat' first|(refine aZ _ ?_;rfl)|exact oN c d _ _ _ _|assumption|(refine ag ?_ (λ_=>?_))|(refine bU ?_ ?_)|intro _|split|(dsimp only)|exact trivial)
 ·refine cB (by simp only[c.SP]) ?_;refine cB (by simp only[c.depth]) ?_
  ((try dsimp only);repeat' first|(refine aZ _ ?_;rfl)|exact oN c d _ _ _ _|assumption|(refine ag ?_ (λ_=>?_))|(refine bU ?_ ?_)|intro _|split|(dsimp only)|exact trivial)
 ·exact trivial
def ND(c:Twin P P')(d:Plain O)(e:∀a b,O (.number a b))(f:Yx)(t:Ug)(x y:U):St P P' O (binOp f t x y):=by
 unfold binOp
 split
 all_goals first
  |exact NK c d _ _ _ _ _
  |exact v9 _ _ _
  |exact aZ _ Y
  |exact aA _
  |exact qt c d e _ _ _
  |exact ag (EN c d _ _ _) λ_=>trivial
  |(refine bU (aA _) ?_
    split<;>first|exact vW _ _ _ _|exact KE c d _ _ _ _|exact zx _ _ _ _|exact KD _ _ _|exact rO _ _ _ _|exact vV _ _ _ _)
  |exact bU (aA _) (CH _ _ _ _ _ _)
  |(refine ag (aH c _) λg=>?_
    split<;>first|exact wW c d _ _ _|exact qt c d e _ _ _)
  |exact ag (dZ c d _) λ_=>ag (dZ c d _) λ_=>GN c d _ _ _
  |exact ag (dZ c d _) λ_=>ag (dZ c d _) λ_=>GL c d _ _ _
  |exact ag (dZ c d _) λ_=>GM c d _ _ _
end
section
variable {P P':Ue}{O:Xv->Prop}{α β:Type}
theorem qp(a:Twin P P')(b:Plain O)(e:Bool):∀(n:Nat) (t:Ug) (v:U),St P P' O (XT e n t v)
 |0,t,v=>aZ _ Y
 |n+1,t,v=>by
  have c:=qp a b e n;unfold XT;refine ag (aH a t) λd=>?_
  split
  ·((try dsimp only);repeat' first|exact bM a _|exact aH a _|exact bT a _|exact aA _|exact bP a b _|(refine aZ _ ?_;rfl)|exact gV a _ _ _|exact c _ _|exact sw a _|assumption|(refine ag ?_ (λ_=>?_))|(refine bU ?_ ?_)|intro _|split|(dsimp only)|exact trivial)
  ·((try dsimp only);repeat' first|exact bM a _|exact aH a _|exact bT a _|exact aA _|exact bP a b _|(refine aZ _ ?_;rfl)|exact gV a _ _ _|exact c _ _|assumption|(refine oO _ _ (λ_ _=>?_))|(refine qW _ _ (λ_ _=>?_))|(refine ag ?_ (λ_=>?_))|(refine bU ?_ ?_)|intro _|split|(dsimp only)|exact trivial)
  ·((try dsimp only);repeat' first|exact bM a _|exact aH a _|exact bT a _|exact aA _|exact bP a b _|(refine aZ _ ?_;rfl)|exact gV a _ _ _|exact c _ _|assumption|(refine oO _ _ (λ_ _=>?_))|(refine qW _ _ (λ_ _=>?_))|(refine ag ?_ (λ_=>?_))|(refine bU ?_ ?_)|intro _|split|(dsimp only)|exact trivial)
  all_goals first|exact trivial|exact aA _
theorem rN(b:Twin P P')(a:Plain O)(t:Ug)(k:U):∀(es:List VP) (i:Nat),St P P' O (Instr.findAsking t k es i)
 | [],i=>trivial
 |e::es,i=>by
  unfold Instr.findAsking;refine ag (EN b a _ _ _) λc=>?_
  split
  ·exact trivial
  ·exact rN b a t k es (i+1)
def zw(a:Twin P P')(b:Plain O)(t:Ug)(k:U)(es:List VP):St P P' O (Ym t k es):=by unfold Ym;((try dsimp only);repeat' first|exact aH a _|exact rN a b _ _ _ _|assumption|(refine ag ?_ (λ_=>?_))|intro _|split|(dsimp only)|exact trivial)
def KG(a:Twin P P')(b:Plain O)(t:Ug)(x i:U)(c:Bool):St P P' O (Instr.lookup t x i c):=by unfold Instr.lookup;((try dsimp only);repeat' first|exact aH a _|exact fI a _|exact aA _|(refine jD _ (λ_ _=>?_) ?_)|exact pS Y|exact zw a b _ _ _|exact qp a b _ _ _ _|assumption|(refine ag ?_ (λ_=>?_))|intro _|split|(dsimp only)|exact trivial)
def CM(a:Twin P P')(b:Plain O)(d:∀e c,O (.map e c))(t:Ug)(m k v:U):St P P' O (Instr.mapUpdate t m k v):=by unfold Instr.mapUpdate Instr.keyThatStays;((try dsimp only);repeat' first|exact aH a _|exact aA _|exact bP a b _|exact cV _|(refine jD _ (λ_ _=>?_) ?_)|exact pS Y|exact zw a b _ _ _|exact qp a b _ _ _ _|exact l8 _ (d _ _)|assumption|(refine ag ?_ (λ_=>?_))|(refine bU ?_ ?_)|intro _|split|(dsimp only)|exact trivial)
def uR(e:Twin P P')(d:Plain O)(x:U):St P P' O (Conv.bytesToString x):=by
 unfold Conv.bytesToString
 split
 ·exact trivial
 ·refine ag (oQ _ _) λc=>?_;dsimp only;refine ag (oO _ _ λb a=>?_) λ_=>trivial
  split
  ·exact trivial
  ·exact aA _
 ·exact aA _
def xx(b:Twin P P')(t:Ug):Still P P' O (λd=>P.underlying t=I d) (Xq t):=by
 unfold Xq;refine cB (by rw[b.tI]) ?_
 split
 ·rename_i d a;exact a
 ·exact aA _
def FL (P:Ue)(s d:Ug):Bool:=match P.underlying s,P.underlying d with
 |some (.int _),I (.int _)=>Z
 |some (.slice a),I .string=>match P.underlying a with|some (.int .u8)=>Z|_=>T5
 |some (.slice _),I (.slice _)=>Z
 |_,_=>T5
def ET(x:U):St P P' O (Yl x):=by unfold Yl;split<;>first|exact trivial|exact aA _
def kP(s n:Nat)(x:U):St P P' O (Xl s n x):=by unfold Xl;split<;>first|exact trivial|exact oQ _ _|exact aA _
def Au(a:UJ)(c:Nat):St P P' O (Xm a c):=by unfold Xm;refine ag (gN _) λs=>?_;split<;>exact trivial
def EV(f:Twin P P')(e:Plain O)(a b c:Nat)(d:Option UJ)(x:U):St P P' O (Yb a b c d x):=by unfold Yb;((try dsimp only);repeat' first|exact uU _|exact Au _ _|assumption|(refine ag ?_ (λ_=>?_))|(refine bU ?_ ?_)|intro _|split|(dsimp only)|exact trivial)
def PX(a:Twin P P')(d:Plain O)(c:Array Ug)(t:Ug)(b:Array U):St P P' O (Builtin.copy_ c t b):=by unfold Builtin.copy_;((try dsimp only);repeat' first|exact aH a _|exact bT a _|exact aA _|exact jo _ _ _|exact ET _|exact kP _ _ _|assumption|(refine ag ?_ (λ_=>?_))|intro _|split|(dsimp only)|exact trivial)
def RH(b:Twin P P')(d:Plain O)(c:Array Ug)(t:Ug)(a:Array U):St P P' O (Builtin.len_ c t a):=by unfold Builtin.len_;((try dsimp only);repeat' first|exact aH b _|exact aA _|(refine jD _ (λ_ _=>?_) ?_)|exact pS Y|assumption|(refine ag ?_ (λ_=>?_))|intro _|split|(dsimp only)|exact trivial)
def PZ(x y:U):St P P' O (Builtin.min2 x y):=by
 unfold Builtin.min2
 repeat' first|exact aA _|exact aZ _ Y|exact cV _|exact v9 _ _ _|exact uQ _|refine ag ?_ (λ_=>?_)|split|dsimp only|exact trivial
def RI(c:Array Ug)(t:Ug)(a:Array U):St P P' O (Builtin.min_ c t a):=by
 unfold Builtin.min_
 split
 ·exact aA _
 ·exact EP _ _ _ λb d=>PZ b d
def wY(a:Twin P P')(b:Plain O)(g:Array Ug)(t:Ug)(c:Array U):St P P' O (Builtin.unsafeString_ g t c):=by
 have d:∀s:String,St P P' O (stuck s:Wu U):=λs=>aA s;unfold Builtin.unsafeString_;obtain⟨e⟩:=c;rcases e with _|⟨f,_|⟨h,_|⟨i,e⟩⟩⟩
 case cons.cons.nil=>
  cases f with
  |pointer j=>
   dsimp only
   ((try dsimp only);repeat' first|exact aA _|exact bP a b _|exact Bl _ _|(refine aZ _ ?_;rfl)|exact k8 _|exact uS a _|exact zF a b _ _ _|exact CK a b _ _ _|assumption|(refine ag ?_ (λ_=>?_))|(refine bU ?_ ?_)|intro _|split|(dsimp only)|exact trivial)
  |_=>exact d _
 all_goals exact d _
end
end Cc
namespace Rl
section
structure mi where
 g:Nat
 b:Nat->Bool
structure aU(G:mi) where
 f:Nat->Option Nat
 inj:∀a b c,f a=I c->f b=I c->a=b
 OU:∀a b,f a=I b->(a<G.g↔b<G.g)
variable {G:mi}
def aU.le(ρ σ:aU G):Prop:=∀a b,ρ.f a=I b->σ.f a=I b
def aU.le.refl(ρ:aU G):ρ.le ρ:=λ_ _ a=>a
def aU.le.trans{ρ σ a:aU G}(h:ρ.le σ)(b:σ.le a):ρ.le a:=λd e c=>b _ _ (h _ _ c)
structure QN(ρ:aU G)(r r':Nat):Prop where
 left:ρ.f r=K
 right:∀b,ρ.f b≠I r'
 gl:G.g<=r
 gr:G.g<=r'
def aU.ext(ρ:aU G)(r r':Nat)(h:QN ρ r r'):aU G where
 f:=λb=>if b=r then I r' else ρ.f b
 inj:=λc b e a d=>by
  split at a<;>split at d
  ·omega
  ·cases a;exact absurd d (h.right b)
  ·cases d;exact absurd a (h.right c)
  ·exact ρ.inj c b e a d
 OU:=λc b a=>by
  have:=h.gl;have:=h.gr
  split at a
  ·cases a;omega
  ·exact ρ.OU c b a
def aU.Mb{ρ:aU G}{r r':Nat}(h:QN ρ r r'):ρ.le (ρ.ext r r' h):=λc d a=>by
 unfold aU.ext;dsimp only
 split
 ·rename_i b;subst b;rw[h.left] at a;cases a
 ·exact a
def aU.xj(ρ:aU G)(r r':Nat)(h:QN ρ r r'):(ρ.ext r r' h).f r=I r':=by simp[aU.ext]
def cM (ρ:aU G)(a a':UJ):Prop:=ρ.f a.block=I a'.block/\a.off=a'.off/\a.spot=a'.spot
def cM.mono{ρ σ:aU G}{a a':UJ}(b:ρ.le σ)(h:cM ρ a a'):cM σ a a':=⟨b _ _ h.1,h.2⟩
def cM.add{ρ:aU G}{a a':UJ}(h:cM ρ a a')(n:Nat):cM ρ (a.add n) (a'.add n):=by
 unfold Yr
 split
 ·exact h
 ·exact⟨h.1,by show a.off+n=a'.off+n;rw[h.2.1],rfl⟩
def nE (ρ:aU G)(b:Fn)(c:Fn):Prop:=∀a:Fn->Fn->Prop,(∀(f:V6) (d:G.b f=Z),a (.func f) (.func f))->a b c
def nE.func{ρ:aU G}(f:V6)(h:G.b f=Z):nE ρ (.func f) (.func f):=λb a=>a f h
def nE.ind{ρ:aU G}{c:∀(a:Fn) (b:Fn),nE ρ a b->Prop}(func:∀(f:V6) (h:G.b f=true),c _ _ (nE.func f h)){a:Fn}{b:Fn}(h:nE ρ a b):c a b h:=(h (λa b=>nE ρ a b/\∀h,c a b h) (λf h=>⟨nE.func f h,λ_=>func f h⟩)).2 h
def nE.mono{ρ σ:aU G}{f f':Fn}(a:ρ.le σ)(h:nE ρ f f'):nE σ f f':=by
 cases h using nE.ind with
 |func f h=>exact .func f h
def ay (ρ:aU G)(y:U)(z:U):Prop:=∀a:U->U->Prop,(∀(p:Bool),a (.bool p) (.bool p))->(∀(u:Wx) (g:Int),a (.int u g) (.int u g))->(∀(s:ByteArray),a (.string s) (.string s))->(a (.pointer K) (.pointer K))->(∀{h i:UJ} (e:cM ρ h i),a (.pointer (I h)) (.pointer (I i)))->(∀(g j:Nat),a (.slice K g j) (.slice K g j))->(∀{h i:UJ} (e:cM ρ h i) (g j:Nat),a (.slice (I h) g j) (.slice (I i) g j))->(a (.map K) (.map K))->(∀{k l:Nat} (e:ρ.f k=I l),a (.map (I k)) (.map (I l)))->(a (.chan K) (.chan K))->(∀{k l:Nat} (e:ρ.f k=I l),a (.chan (I k)) (.chan (I l)))->(∀{f q:Fn} {c d m n:Array U} (A:nE ρ f q) (r:c.size=d.size) (t:∀b (e:b<c.size) (o:b<d.size),a c[b] d[b]) (B:m.size=n.size) (C:∀b (e:b<m.size) (o:b<n.size),a m[b] n[b]),a (.func f c m) (.func q d n))->(a .nilFunc .nilFunc)->(∀(w:Ug) {v x:U} (e:a v x),a (.iface w v) (.iface w x))->(a .nilIface .nilIface)->(∀{c d:Array U} (r:c.size=d.size) (t:∀b (e:b<c.size) (o:b<d.size),a c[b] d[b]),a (.agg c) (.agg d))->(∀{c d:Array U} (r:c.size=d.size) (t:∀b (e:b<c.size) (o:b<d.size),a c[b] d[b]),a (.tuple c) (.tuple d))->a y z
def ay.bool{ρ:aU G}(b:Bool):ay ρ (.bool b) (.bool b):=λc a l m n o p q r s d e f g h i j k=>a b
def ay.int{ρ:aU G}(k:Wx)(n:Int):ay ρ (.int k n) (.int k n):=λb c a m o p q r s t d e f g h i j l=>a k n
def ay.string{ρ:aU G}(s:ByteArray):ay ρ (.string s) (.string s):=λb c l a m n o p q r d e f g h i j k=>a s
def ay.cZ{ρ:aU G}:ay ρ (.pointer K) (.pointer K):=λb c l m a n o p q r d e f g h i j k=>a
def ay.ptr{ρ:aU G}{a a':UJ}(h:cM ρ a a'):ay ρ (.pointer (I a)) (.pointer (I a')):=λc d n o p b q r s t e f g i j k l m=>b h
def ay.jU{ρ:aU G}(n c:Nat):ay ρ (.slice K n c) (.slice K n c):=λb d m o p q a r s t e f g h i j k l=>a n c
def ay.sl{ρ:aU G}{a a':UJ}(h:cM ρ a a')(n c:Nat):ay ρ (.slice (I a) n c) (.slice (I a') n c):=λd e p q r s t b u v f g i j k l m o=>b h n c
def ay.kD{ρ:aU G}:ay ρ (.map K) (.map K):=λb c l m n o p q a r d e f g h i j k=>a
def ay.map{ρ:aU G}{r r':Nat}(h:ρ.f r=I r'):ay ρ (.map (I r)) (.map (I r')):=λb c m n o p q s t a d e f g i j k l=>a h
def ay.iL{ρ:aU G}:ay ρ (.chan K) (.chan K):=λb c k l m n o p q r a d e f g h i j=>a
def ay.chan{ρ:aU G}{r r':Nat}(h:ρ.f r=I r'):ay ρ (.chan (I r)) (.chan (I r')):=λb c l m n o p q s t d a e f g i j k=>a h
def ay.func{ρ:aU G}{f f':Fn}{x a y b:Array U}(D:nE ρ f f')(E:x.size=a.size)(F:∀i (h:i<x.size) (C:i<a.size),ay ρ x[i] a[i])(H:y.size=b.size)(I:∀i (h:i<y.size) (C:i<b.size),ay ρ y[i] b[i]):ay ρ (.func f x y) (.func f' a b):=λj k s t u v w z A B l m c n o p q r=>c D E (λd e g=>F d e g j k s t u v w z A B l m c n o p q r) H (λd e g=>I d e g j k s t u v w z A B l m c n o p q r)
def ay.nilFunc{ρ:aU G}:ay ρ .nilFunc .nilFunc:=λb c k l m n o p q r d e f a g h i j=>a
def ay.iface{ρ:aU G}(t:Ug){v b:U}(h:ay ρ v b):ay ρ (.iface t v) (.iface t b):=λc d m n o p q r s u e f g i a j k l=>a t (h c d m n o p q r s u e f g i a j k l)
def ay.nilIface{ρ:aU G}:ay ρ .nilIface .nilIface:=λb c k l m n o p q r d e f g h a i j=>a
def ay.agg{ρ:aU G}{x a:Array U}(v:x.size=a.size)(w:∀i (h:i<x.size) (B:i<a.size),ay ρ x[i] a[i]):ay ρ (.agg x) (.agg a):=λc d n o p q r s t u e f g j k l b m=>b v (λy z A=>w y z A c d n o p q r s t u e f g j k l b m)
def ay.tuple{ρ:aU G}{x a:Array U}(v:x.size=a.size)(w:∀i (h:i<x.size) (B:i<a.size),ay ρ x[i] a[i]):ay ρ (.tuple x) (.tuple a):=λc d n o p q r s t u e f g j k l m b=>b v (λy z A=>w y z A c d n o p q r s t u e f g j k l m b)
def ay.ind{ρ:aU G}{j:∀(p:U) (q:U),ay ρ p q->Prop}(bool:∀(b:Bool),j _ _ (ay.bool b))(int:∀(k:Wx) (n:Int),j _ _ (ay.int k n))(string:∀(s:ByteArray),j _ _ (ay.string s))(cZ:j _ _ (ay.cZ))(ptr:∀{a a':UJ} (h:cM ρ a a'),j _ _ (ay.ptr h))(jU:∀(n c:Nat),j _ _ (ay.jU n c))(sl:∀{a a':UJ} (h:cM ρ a a') (n c:Nat),j _ _ (ay.sl h n c))(kD:j _ _ (ay.kD))(map:∀{r r':Nat} (h:ρ.f r=some r'),j _ _ (ay.map h))(iL:j _ _ (ay.iL))(chan:∀{r r':Nat} (h:ρ.f r=some r'),j _ _ (ay.chan h))(func:∀{f f':Fn} {x o y B:Array U} (w:nE ρ f f') (m:x.size=o.size) (l:∀i (h:i<x.size) (A:i<o.size),ay ρ x[i] o[i]) (z:y.size=B.size) (u:∀i (h:i<y.size) (A:i<B.size),ay ρ y[i] B[i]),(∀d e g,j _ _ (l d e g))->(∀d e g,j _ _ (u d e g))->j _ _ (ay.func w m l z u))(nilFunc:j _ _ (ay.nilFunc))(iface:∀(t:Ug) {v C:U} (h:ay ρ v C),(j _ _ h)->j _ _ (ay.iface t h))(nilIface:j _ _ (ay.nilIface))(agg:∀{x o:Array U} (m:x.size=o.size) (l:∀i (h:i<x.size) (A:i<o.size),ay ρ x[i] o[i]),(∀d e g,j _ _ (l d e g))->j _ _ (ay.agg m l))(tuple:∀{x o:Array U} (m:x.size=o.size) (l:∀i (h:i<x.size) (A:i<o.size),ay ρ x[i] o[i]),(∀d e g,j _ _ (l d e g))->j _ _ (ay.tuple m l)){p:U}{q:U}(h:ay ρ p q):j p q h:=(h (λp q=>ay ρ p q/\∀h,j p q h) (λb=>⟨ay.bool b,λ_=>bool b⟩) (λk n=>⟨ay.int k n,λ_=>int k n⟩) (λs=>⟨ay.string s,λ_=>string s⟩) (⟨ay.cZ,λ_=>cZ⟩) (λh=>⟨ay.ptr h,λ_=>ptr h⟩) (λn c=>⟨ay.jU n c,λ_=>jU n c⟩) (λh n c=>⟨ay.sl h n c,λ_=>sl h n c⟩) (⟨ay.kD,λ_=>kD⟩) (λh=>⟨ay.map h,λ_=>map h⟩) (⟨ay.iL,λ_=>iL⟩) (λh=>⟨ay.chan h,λ_=>chan h⟩) (λw m l z u=>⟨ay.func w m (λd e g=>(l d e g).1) z (λd e g=>(u d e g).1),λ_=>func w m (λd e g=>(l d e g).1) z (λd e g=>(u d e g).1) (λd e g=>(l d e g).2 _) (λd e g=>(u d e g).2 _)⟩) (⟨ay.nilFunc,λ_=>nilFunc⟩) (λt {v} {C} h=>⟨ay.iface t h.1,λ_=>iface t h.1 (h.2 _)⟩) (⟨ay.nilIface,λ_=>nilIface⟩) (λm l=>⟨ay.agg m (λd e g=>(l d e g).1),λ_=>agg m (λd e g=>(l d e g).1) (λd e g=>(l d e g).2 _)⟩) (λm l=>⟨ay.tuple m (λd e g=>(l d e g).1),λ_=>tuple m (λd e g=>(l d e g).1) (λd e g=>(l d e g).2 _)⟩)).2 h
def bg (ρ:aU G)(x b:Array U):Prop:=x.size=b.size/\∀a (c:a<x.size) (d:a<b.size),ay ρ x[a] b[a]
def ay.mono{ρ σ:aU G}(c:ρ.le σ){v f:U}(h:ay ρ v f):ay σ v f:=by
 induction h using ay.ind with
 |ptr h=>exact .ptr (h.mono c)
 |sl h m g=>exact .sl (h.mono c) m g
 |map h=>exact .map (c _ _ h)
 |chan h=>exact .chan (c _ _ h)
 |func i d _ j _ k l=>exact .func (i.mono c) d (λb h a=>k b h a) j (λb h a=>l b h a)
 |iface n _ e=>exact .iface n e
 |agg d _ e=>exact .agg d (λb h a=>e b h a)
 |tuple d _ e=>exact .tuple d (λb h a=>e b h a)
 |_=>first|exact .bool _|exact .int _ _|exact .string _|exact .cZ|exact .jU _ _|exact .kD|exact .iL|exact .nilFunc|exact .nilIface
def bg.mono{ρ σ:aU G}(d:ρ.le σ){x a:Array U}(h:bg ρ x a):bg σ x a:=⟨h.1,λe b c=>(h.2 e b c).mono d⟩
def bg.nil(ρ:aU G):bg ρ #[] #[]:=⟨rfl,λb a=>by simp at a⟩
def bg.push{ρ:aU G}{x b:Array U}{v a:U}(h:bg ρ x b)(c:ay ρ v a):bg ρ (x.push v) (b.push a):=by
 refine⟨by simp[h.1],λd e f=>?_⟩;simp only[Array.getElem_push];have:=h.1
 split
 ·rw[dif_pos (by omega)];exact h.2 d _ _
 ·rw[dif_neg (by omega)];exact c
def bg.append{ρ:aU G}{x b y e:Array U}(h:bg ρ x b)(d:bg ρ y e):bg ρ (x++y) (b++e):=by
 have c:=h.1;have f:=d.1;refine⟨by simp[c,f],λa g i=>?_⟩;simp only[Array.getElem_append]
 split
 ·rw[dif_pos (by omega)];exact h.2 a _ _
 ·rw[dif_neg (by omega)];have:a-x.size=a-b.size:=by rw[c]
  simp only[this];exact d.2 (a-b.size) (by simp at g;omega) (by simp at i;omega)
def bg.get{ρ:aU G}{x a:Array U}(h:bg ρ x a)(i:Nat):(x[i]? =K/\a[i]? =K)\/∃v c,x[i]? =I v/\a[i]? =I c/\ay ρ v c:=by
 have d:=h.1;by_cases b:i<x.size
 ·exact .inr ⟨_,_,UU b,UU (by omega),h.2 i b (by omega)⟩
 ·exact .inl ⟨Vl (by omega),Vl (by omega)⟩
def bg.set{ρ:aU G}{x d:Array U}(h:bg ρ x d){v c:U}(g:ay ρ v c)(i:Nat):bg ρ (x.setIfInBounds i v) (d.setIfInBounds i c):=by
 refine⟨by simp[h.1],λb e f=>?_⟩;by_cases a:i=b
 ·subst a;simp only[Array.getElem_setIfInBounds_self];exact g
 ·rw[Array.getElem_setIfInBounds_ne (by simpa using e) a,Array.getElem_setIfInBounds_ne (by simpa using f) a];exact h.2 b _ _
def bg.extract{ρ:aU G}{x a:Array U}(h:bg ρ x a)(i j:Nat):bg ρ (x.extract i j) (a.extract i j):=by
 refine⟨by simp[h.1],λd b c=>?_⟩;simp only[Array.getElem_extract];exact h.2 _ _ _
def ay.cells{ρ:aU G}{v a:U}(h:ay ρ v a):bg ρ v.cells a.cells:=by
 cases h using ay.ind with
 |agg c d=>exact⟨c,d⟩
 |_=>exact⟨rfl,λe b f=>by
  have:e=0:=by simp[Value.cells] at b;omega
  subst this
  first|exact .bool _|exact .int _ _|exact .string _|exact .cZ|exact .ptr ‹_› |exact .jU _ _|exact .sl ‹_› _ _|exact .kD|exact .map ‹_› |exact .iL|exact .chan ‹_› |exact .func ‹_› ‹_› ‹_› ‹_› ‹_› |exact .nilFunc|exact .iface _ ‹_› |exact .nilIface|exact .tuple ‹_› ‹_›⟩
structure sF(ρ:aU G)(e e':VP):Prop where
 key:ay ρ e.key e'.key
 val:ay ρ e.val e'.val
 born:e.born=e'.born
def sF.mono{ρ σ:aU G}(a:ρ.le σ){e e':VP}(h:sF ρ e e'):sF σ e e':=⟨h.key.mono a,h.val.mono a,h.born⟩
def dJ (ρ:aU G)(r:Xv)(t:Xv):Prop:=∀a:Xv->Xv->Prop,(∀{b l:Array U} (g:bg ρ b l) (c:Ug) (m:Nat×Nat),a (.cells b c m) (.cells l c m))->(∀{d e:Array VP} (w:d.size=e.size) (g:∀f (u:f<d.size) (v:f<e.size),sF ρ d[f] e[f]) (n:Nat),a (.map d n) (.map e n))->(∀(p:Nat) {j k:Array U} (g:bg ρ j k) (b:Bool) (s q:Nat) (c:Bool),a (.chan p j b s q c) (.chan p k b s q c))->(∀{h i:UJ} (g:cM ρ h i) (o:Bool),a (.number h o) (.number i o))->a r t
def dJ.cells{ρ:aU G}{c b:Array U}(h:bg ρ c b)(t:Ug)(a:Nat×Nat):dJ ρ (.cells c t a) (.cells b t a):=λe d f g i=>d h t a
def dJ.map{ρ:aU G}{es a:Array VP}(c:es.size=a.size)(h:∀i (h1:i<es.size) (j:i<a.size),sF ρ es[i] a[i])(k:Nat):dJ ρ (.map es k) (.map a k):=λd e b f g=>b c h k
def dJ.chan{ρ:aU G}(n:Nat){b b':Array U}(h:bg ρ b b')(c:Bool)(s r:Nat)(t:Bool):dJ ρ (.chan n b c s r t) (.chan n b' c s r t):=λd e f a g=>a n h c s r t
def dJ.number{ρ:aU G}{a a':UJ}(h:cM ρ a a')(l:Bool):dJ ρ (.number a l) (.number a' l):=λc d e f b=>b h l
def dJ.ind{ρ:aU G}{f:∀(d:Xv) (e:Xv),dJ ρ d e->Prop}(cells:∀{c o:Array U} (h:bg ρ c o) (t:Ug) (g:Nat×Nat),f _ _ (dJ.cells h t g))(map:∀{es m:Array VP} (j:es.size=m.size) (h:∀i (h1:i<es.size) (p:i<m.size),sF ρ es[i] m[i]) (k:Nat),f _ _ (dJ.map j h k))(chan:∀(n:Nat) {b b':Array U} (h:bg ρ b b') (c:Bool) (s r:Nat) (t:Bool),f _ _ (dJ.chan n h c s r t))(number:∀{a a':UJ} (h:cM ρ a a') (l:Bool),f _ _ (dJ.number h l)){d:Xv}{e:Xv}(h:dJ ρ d e):f d e h:=(h (λd e=>dJ ρ d e/\∀h,f d e h) (λh t g=>⟨dJ.cells h t g,λ_=>cells h t g⟩) (λj h k=>⟨dJ.map j h k,λ_=>map j h k⟩) (λn {b} {b'} h c s r t=>⟨dJ.chan n h c s r t,λ_=>chan n h c s r t⟩) (λh l=>⟨dJ.number h l,λ_=>number h l⟩)).2 h
def dJ.mono{ρ σ:aU G}(a:ρ.le σ){o o':Xv}(h:dJ ρ o o'):dJ σ o o':=by
 cases h using dJ.ind with
 |cells h b d=>exact .cells (h.mono a) b d
 |map g h j=>exact .map g (λi e f=>(h i e f).mono a) j
 |chan l h c s m b=>exact .chan l (h.mono a) c s m b
 |number h k=>exact .number (h.mono a) k
structure eJ(ρ:aU G)(bu:Nat)(w w':F):Prop where
 gl:G.g<=w.heap.size
 gr:G.g<=w'.heap.size
 at_:∀b b',ρ.f b=I b'->∃o o',w.heap[b]? =I o/\w'.heap[b']? =I o'/\dJ ρ o o'
 tape:∀i q,i<bu->w.tape (w.drawn+i) q=w'.tape (w'.drawn+i) q
def pN:Halt->Bool
 | .stuck _=>Z
 | .unsupported (.initOrder _)=>T5
 | .unsupported _=>Z
 |_=>T5
def lE (ρ:aU G)(d:Halt)(e:Halt):Prop:=∀b:Halt->Halt->Prop,(∀{v c:U} (a:ay ρ v c),b (.panic v) (.panic c))->(∀(a:Halt) (f:pN a=Z),b a a)->b d e
def lE.panic{ρ:aU G}{v a:U}(h:ay ρ v a):lE ρ (.panic v) (.panic a):=λc b d=>b h
def lE.same{ρ:aU G}(h:Halt)(b:pN h=Z):lE ρ h h:=λc d a=>a h b
def lE.ind{ρ:aU G}{c:∀(a:Halt) (b:Halt),lE ρ a b->Prop}(panic:∀{v e:U} (h:ay ρ v e),c _ _ (lE.panic h))(same:∀(h:Halt) (d:pN h=true),c _ _ (lE.same h d)){a:Halt}{b:Halt}(h:lE ρ a b):c a b h:=(h (λa b=>lE ρ a b/\∀h,c a b h) (λh=>⟨lE.panic h,λ_=>panic h⟩) (λh d=>⟨lE.same h d,λ_=>same h d⟩)).2 h
end
section
variable {G:mi}{bu:Nat}
def aq {α β:Type}(P P':Ue)(A:aU G->α->β->Prop)(y:aU G)(z:Wu α)(C:Wu β):Prop:=∀d:aU G->Wu α->Wu β->Prop,(∀{a:aU G} {e:α} {l:β} (f:A a e l),d a (.pure e) (.pure l))->(∀{a:aU G} {m:Mode} {e i:UJ} {b:U->Wu α} {c:U->Wu β} (p:cM a e i) (f:∀v o,ay a v o->d a (b v) (c o)),d a (.load m e b) (.load m i c))->(∀{a:aU G} {m:Mode} {e i:UJ} {v o:U} {b:Wu α} {c:Wu β} (p:cM a e i) (D:ay a v o) (f:d a b c),d a (.store m e v b) (.store m i o c))->(∀{a:aU G} {j k:Xv} {b:Nat->Wu α} {c:Nat->Wu β} (x:dJ a j k) (f:∀g h (w:QN a g h),d (a.ext g h w) (b g) (c h)),d a (.new j b) (.new k c))->(∀{a:aU G} {g h:Nat} {b:Option (Ug×Nat)->Wu α} {c:Option (Ug×Nat)->Wu β} (q:a.f g=I h) (f:∀s,d a (b s) (c s)),d a (.shape g b) (.shape h c))->(∀{a:aU G} {e i:UJ} {n:Nat} {b:Wu α} {c:Wu β} (p:cM a e i) (f:d a b c),d a (.freeze e n b) (.freeze i n c))->(∀{a:aU G} {e i:UJ} {b:Bool->Wu α} {c:Bool->Wu β} (p:cM a e i) (f:∀l,d a (b l) (c l)),d a (.frozen e b) (.frozen i c))->(∀{a:aU G} {g h:Nat} {b:Xv->Wu α} {c:Xv->Wu β} (q:a.f g=I h) (f:∀j k,dJ a j k->d a (b j) (c k)),d a (.getObj g b) (.getObj h c))->(∀{a:aU G} {g h:Nat} {j k:Xv} {b:Wu α} {c:Wu β} (q:a.f g=I h) (x:dJ a j k) (f:d a b c),d a (.setObj g j b) (.setObj h k c))->(∀{a:aU G} {r:Question} {b:Nat->Wu α} {c:Nat->Wu β} (f:∀n,d a (b n) (c n)),d a (.choose r b) (.choose r c))->(∀{a:aU G} {b:Ue->Wu α} {c:Ue->Wu β} (f:d a (b P) (c P')),d a (.program b) (.program c))->(∀{a:aU G} {b:Wu α} {c:Wu β} (f:d a b c),d a (.mark .noRoom b) (.mark .noRoom c))->(∀{a:aU G} {t u:Halt} (f:lE a t u),d a (.halt t) (.halt u))->d y z C
def aq.pure{α β:Type}{P P':Ue}{A:aU G->α->β->Prop}{ρ:aU G}{a:α}{b:β}(h:A ρ a b):aq P P' A ρ (.pure a) (.pure b):=λd c j k l m n o p q e f g i=>c h
def aq.load{α β:Type}{P P':Ue}{A:aU G->α->β->Prop}{ρ:aU G}{m:Mode}{a a':UJ}{k:U->Wu α}{k':U->Wu β}(t:cM ρ a a')(h:∀v c,ay ρ v c->aq P P' A ρ (k v) (k' c)):aq P P' A ρ (.load m a k) (.load m a' k'):=λd e b l n o p q r s f g i j=>b t (λu w x=>h u w x d e b l n o p q r s f g i j)
def aq.store{α β:Type}{P P':Ue}{A:aU G->α->β->Prop}{ρ:aU G}{m:Mode}{a a':UJ}{v c:U}{k:Wu α}{k':Wu β}(t:cM ρ a a')(u:ay ρ v c)(h:aq P P' A ρ k k'):aq P P' A ρ (.store m a v k) (.store m a' c k'):=λd e l b n o p q r s f g i j=>b t u (h d e l b n o p q r s f g i j)
def aq.new{α β:Type}{P P':Ue}{A:aU G->α->β->Prop}{ρ:aU G}{o o':Xv}{k:Nat->Wu α}{k':Nat->Wu β}(t:dJ ρ o o')(h:∀r r' (s:QN ρ r r'),aq P P' A (ρ.ext r r' s) (k r) (k' r')):aq P P' A ρ (.new o k) (.new o' k'):=λb c i j a l m n p q d e f g=>a t (λu v w=>h u v w b c i j a l m n p q d e f g)
def aq.shape{α β:Type}{P P':Ue}{A:aU G->α->β->Prop}{ρ:aU G}{r r':Nat}{k:Option (Ug×Nat)->Wu α}{k':Option (Ug×Nat)->Wu β}(q:ρ.f r=I r')(h:∀s,aq P P' A ρ (k s) (k' s)):aq P P' A ρ (.shape r k) (.shape r' k'):=λb c i j l a m n o p d e f g=>a q (λt=>h t b c i j l a m n o p d e f g)
def aq.freeze{α β:Type}{P P':Ue}{A:aU G->α->β->Prop}{ρ:aU G}{a a':UJ}{n:Nat}{k:Wu α}{k':Wu β}(s:cM ρ a a')(h:aq P P' A ρ k k'):aq P P' A ρ (.freeze a n k) (.freeze a' n k'):=λc d j l m o b p q r e f g i=>b s (h c d j l m o b p q r e f g i)
def aq.frozen{α β:Type}{P P':Ue}{A:aU G->α->β->Prop}{ρ:aU G}{a a':UJ}{k:Bool->Wu α}{k':Bool->Wu β}(s:cM ρ a a')(h:∀b,aq P P' A ρ (k b) (k' b)):aq P P' A ρ (.frozen a k) (.frozen a' k'):=λd e l m n o p c q r f g i j=>c s (λt=>h t d e l m n o p c q r f g i j)
def aq.getObj{α β:Type}{P P':Ue}{A:aU G->α->β->Prop}{ρ:aU G}{r r':Nat}{k:Xv->Wu α}{k':Xv->Wu β}(s:ρ.f r=I r')(h:∀o o',dJ ρ o o'->aq P P' A ρ (k o) (k' o')):aq P P' A ρ (.getObj r k) (.getObj r' k'):=λb c i j l m n p a q d e f g=>a s (λt u v=>h t u v b c i j l m n p a q d e f g)
def aq.setObj{α β:Type}{P P':Ue}{A:aU G->α->β->Prop}{ρ:aU G}{r r':Nat}{o o':Xv}{k:Wu α}{k':Wu β}(t:ρ.f r=I r')(s:dJ ρ o o')(h:aq P P' A ρ k k'):aq P P' A ρ (.setObj r o k) (.setObj r' o' k'):=λb c i j l m n p q a d e f g=>a t s (h b c i j l m n p q a d e f g)
def aq.choose{α β:Type}{P P':Ue}{A:aU G->α->β->Prop}{ρ:aU G}{q:Question}{k:Nat->Wu α}{k':Nat->Wu β}(h:∀n,aq P P' A ρ (k n) (k' n)):aq P P' A ρ (.choose q k) (.choose q k'):=λb c g i j l m o p r a d e f=>a (λs=>h s b c g i j l m o p r a d e f)
def aq.program{α β:Type}{P P':Ue}{A:aU G->α->β->Prop}{ρ:aU G}{k:Ue->Wu α}{k':Ue->Wu β}(h:aq P P' A ρ (k P) (k' P')):aq P P' A ρ (.program k) (.program k'):=λb c g i j l m n o p d a e f=>a (h b c g i j l m n o p d a e f)
def aq.room{α β:Type}{P P':Ue}{A:aU G->α->β->Prop}{ρ:aU G}{k:Wu α}{k':Wu β}(h:aq P P' A ρ k k'):aq P P' A ρ (.mark .noRoom k) (.mark .noRoom k'):=λb c g i j l m n o p d e a f=>a (h b c g i j l m n o p d e a f)
def aq.halt{α β:Type}{P P':Ue}{A:aU G->α->β->Prop}{ρ:aU G}{x a:Halt}(h:lE ρ x a):aq P P' A ρ (.halt x) (.halt a):=λc d i j k l m n o p e f g b=>b h
def aq.ind{α β:Type}{P P':Ue}{A:aU G->α->β->Prop}{d:∀(l:aU G) (p:Wu α) (t:Wu β),aq P P' A l p t->Prop}(pure:∀{ρ:aU G} {a:α} {b:β} (h:A ρ a b),d ρ (.pure a) (.pure b) (aq.pure h))(load:∀{ρ:aU G} {m:Mode} {a a':UJ} {k:U->Wu α} {k':U->Wu β} (g:cM ρ a a') (h:∀v u,ay ρ v u->aq P P' A ρ (k v) (k' u)),(∀c e f,d _ _ _ (h c e f))->d ρ (.load m a k) (.load m a' k') (aq.load g h))(store:∀{ρ:aU G} {m:Mode} {a a':UJ} {v u:U} {k:Wu α} {k':Wu β} (g:cM ρ a a') (w:ay ρ v u) (h:aq P P' A ρ k k'),(d _ _ _ h)->d ρ (.store m a v k) (.store m a' u k') (aq.store g w h))(new:∀{ρ:aU G} {o o':Xv} {k:Nat->Wu α} {k':Nat->Wu β} (j:dJ ρ o o') (h:∀r r' (z:QN ρ r r'),aq P P' A (ρ.ext r r' z) (k r) (k' r')),(∀c e f,d _ _ _ (h c e f))->d ρ (.new o k) (.new o' k') (aq.new j h))(shape:∀{ρ:aU G} {r r':Nat} {k:Option (Ug×Nat)->Wu α} {k':Option (Ug×Nat)->Wu β} (i:ρ.f r=some r') (h:∀s,aq P P' A ρ (k s) (k' s)),(∀c,d _ _ _ (h c))->d ρ (.shape r k) (.shape r' k') (aq.shape i h))(freeze:∀{ρ:aU G} {a a':UJ} {n:Nat} {k:Wu α} {k':Wu β} (g:cM ρ a a') (h:aq P P' A ρ k k'),(d _ _ _ h)->d ρ (.freeze a n k) (.freeze a' n k') (aq.freeze g h))(frozen:∀{ρ:aU G} {a a':UJ} {k:Bool->Wu α} {k':Bool->Wu β} (g:cM ρ a a') (h:∀b,aq P P' A ρ (k b) (k' b)),(∀c,d _ _ _ (h c))->d ρ (.frozen a k) (.frozen a' k') (aq.frozen g h))(getObj:∀{ρ:aU G} {r r':Nat} {k:Xv->Wu α} {k':Xv->Wu β} (i:ρ.f r=some r') (h:∀o o',dJ ρ o o'->aq P P' A ρ (k o) (k' o')),(∀c e f,d _ _ _ (h c e f))->d ρ (.getObj r k) (.getObj r' k') (aq.getObj i h))(setObj:∀{ρ:aU G} {r r':Nat} {o o':Xv} {k:Wu α} {k':Wu β} (i:ρ.f r=some r') (j:dJ ρ o o') (h:aq P P' A ρ k k'),(d _ _ _ h)->d ρ (.setObj r o k) (.setObj r' o' k') (aq.setObj i j h))(choose:∀{ρ:aU G} {q:Question} {k:Nat->Wu α} {k':Nat->Wu β} (h:∀n,aq P P' A ρ (k n) (k' n)),(∀c,d _ _ _ (h c))->d ρ (.choose q k) (.choose q k') (aq.choose h))(program:∀{ρ:aU G} {k:Ue->Wu α} {k':Ue->Wu β} (h:aq P P' A ρ (k P) (k' P')),(d _ _ _ h)->d ρ (.program k) (.program k') (aq.program h))(room:∀{ρ:aU G} {k:Wu α} {k':Wu β} (h:aq P P' A ρ k k'),(d _ _ _ h)->d ρ (.mark .noRoom k) (.mark .noRoom k') (aq.room h))(halt:∀{ρ:aU G} {x y:Halt} (h:lE ρ x y),d ρ (.halt x) (.halt y) (aq.halt h)){l:aU G}{p:Wu α}{t:Wu β}(h:aq P P' A l p t):d l p t h:=(h (λl p t=>aq P P' A l p t/\∀h,d l p t h) (λh=>⟨aq.pure h,λ_=>pure h⟩) (λg h=>⟨aq.load g (λc e f=>(h c e f).1),λ_=>load g (λc e f=>(h c e f).1) (λc e f=>(h c e f).2 _)⟩) (λg w h=>⟨aq.store g w h.1,λ_=>store g w h.1 (h.2 _)⟩) (λj h=>⟨aq.new j (λc e f=>(h c e f).1),λ_=>new j (λc e f=>(h c e f).1) (λc e f=>(h c e f).2 _)⟩) (λi h=>⟨aq.shape i (λc=>(h c).1),λ_=>shape i (λc=>(h c).1) (λc=>(h c).2 _)⟩) (λg h=>⟨aq.freeze g h.1,λ_=>freeze g h.1 (h.2 _)⟩) (λg h=>⟨aq.frozen g (λc=>(h c).1),λ_=>frozen g (λc=>(h c).1) (λc=>(h c).2 _)⟩) (λi h=>⟨aq.getObj i (λc e f=>(h c e f).1),λ_=>getObj i (λc e f=>(h c e f).1) (λc e f=>(h c e f).2 _)⟩) (λi j h=>⟨aq.setObj i j h.1,λ_=>setObj i j h.1 (h.2 _)⟩) (λh=>⟨aq.choose (λc=>(h c).1),λ_=>choose (λc=>(h c).1) (λc=>(h c).2 _)⟩) (λh=>⟨aq.program h.1,λ_=>program h.1 (h.2 _)⟩) (λh=>⟨aq.room h.1,λ_=>room h.1 (h.2 _)⟩) (λh=>⟨aq.halt h,λ_=>halt h⟩)).2 h
section
variable {P P':Ue}{α β γ δ:Type}{A:aU G->α->β->Prop}{B:aU G->γ->δ->Prop}
def aq.bind{ρ:aU G}{s:Wu α}{s':Wu β}{f:α->Wu γ}{f':β->Wu δ}(h:aq P P' A ρ s s')(d:∀ σ a b,ρ.le σ->A σ a b->aq P P' B σ (f a) (f' b)):aq P P' B ρ (s.bind f) (s'.bind f'):=by
 induction h using aq.ind with
 |pure h=>exact d _ _ _ (aU.le.refl _) h
 |load g _ c=>exact .load g (λv r j=>c v r j d)
 |store g j _ c=>exact .store g j (c d)
 |new i _ c=>exact .new i (λp q e=>c p q e (λσ a b l k=>d σ a b ((aU.Mb e).trans l) k))
 |shape e _ c=>exact .shape e (λs=>c s d)
 |freeze g _ c=>exact .freeze g (c d)
 |frozen g _ c=>exact .frozen g (λb=>c b d)
 |getObj e _ c=>exact .getObj e (λn o i=>c n o i d)
 |setObj e i _ c=>exact .setObj e i (c d)
 |choose _ c=>exact .choose (λm=>c m d)
 |program _ c=>exact .program (c d)
 |room _ c=>exact .room (c d)
 |halt h=>exact .halt h
end
def kq (σ:aU G)(e:Vm):Prop:=match e.loc with
 | .cell b=>∃a,σ.f a=I b.block
 | .obj c=>∃a,σ.f a=I c
 | .mark .noRoom=>True
 |_=>False
def kq.mono{ρ σ:aU G}(c:ρ.le σ){e:Vm}(h:kq ρ e):kq σ e:=by
 unfold kq at*
 split<;>simp_all
 ·obtain⟨a,b⟩:=h;exact⟨a,c _ _ b⟩
 ·obtain⟨a,b⟩:=h;exact⟨a,c _ _ b⟩
structure Fr(ρ σ:aU G)(w w1:F):Prop where
 le:ρ.le σ
 os:w1.os=w.os
 output:w1.output=w.output
 tape:w1.tape=w.tape
 drawn:w.drawn<=w1.drawn
 size:w.heap.size<=w1.heap.size
 keep:∀b',(∀b,σ.f b≠I b')->b'<w.heap.size->w1.heap[b']? =w.heap[b']?
 fresh:∀b b',σ.f b=I b'->ρ.f b=I b'\/w.heap.size<=b'
 all:∀b',w.heap.size<=b'->b'<w1.heap.size->∃b,σ.f b=I b'
def Fr.refl(ρ:aU G)(w:F):Fr ρ ρ w w:=⟨aU.le.refl _,rfl,rfl,rfl,T6 _,T6 _,λ_ _ _=>rfl,λ_ _ a=>.inl a,λ_ c b=>absurd b (by omega)⟩
def Fr.trans{ρ σ k:aU G}{w g j:F}(h:Fr ρ σ w g)(a:Fr σ k g j):Fr ρ k w j:=
 ⟨h.le.trans a.le,a.os.trans h.os,a.output.trans h.output,a.tape.trans h.tape,Ux h.drawn a.drawn,Ux h.size a.size,
  λb d i=>(a.keep b d (Uc i h.size)).trans (h.keep b (λc l=>d c (a.le _ _ l)) i),
  λc b d=>by
   rcases a.fresh c b d with e|e
   ·exact h.fresh c b e
   ·exact .inr (Ux h.size e),
  λb e m=>by
   rcases Vy b g.heap.size with f|f
   ·obtain⟨c,d⟩:=h.all b e f;exact⟨c,a.le _ _ d⟩
   ·exact a.all b f m⟩
def Result.drawn{α:Type}:XW α->Nat
 | .ok _ a=>a.drawn
 | .halt _ a=>a.drawn
def I1{α:Type}(a:Ask α):∀w:F,w.drawn<=(w.ask a).2.drawn:=by
 induction a with
 |done a=>intro w;exact T6 _
 |ask e d c b=>
  intro w;unfold World.ask;dsimp only
  split
  ·exact b _ w
  ·exact Ux (Nat.le_succ _) (b _ {w with drawn:=w.drawn+1})
def KJ(w:F)(c:Sys):w.drawn<=(w.sys c).2.drawn:=by
 have a:=I1 (Kernel.perform c w.os) w;unfold World.sys;generalize w.ask (Kernel.perform c w.os)=d at a;obtain⟨⟨b,e⟩,f⟩:=d;cases b<;>first|exact a|exact T6 _
def Hf{P:Ue}{w c:F}{a k:UJ}{u:Ug}{v:U}{b:Bool}{l:List UJ}(h:w.viewStore P a u k v b= .ok (c,l)):c.drawn=w.drawn:=by
 unfold World.viewStore at h;simp only[bind,Except.bind,pure,Except.pure,throw,throwThe,YF] at h
 repeat' split at h
 all_goals first
  |(cases h;rfl)
  |(cases h;done)
  |(simp at h;done)
def Ju{P:Ue}{w c:F}{a:UJ}{v:U}{b:Bool}{l:List UJ}(h:w.farStore P a v b= .ok (c,l)):c.drawn=w.drawn:=by
 unfold XA at h
 split at h
 ·split at h
  ·rename_i d;cases h;exact Hf d
  ·cases h
 ·cases h
def Kl{α:Type}(P:Ue)(s:Wu α):∀(w:F) (es:Array Vm),w.drawn<=Result.drawn (s.runT P w es).1:=by
 induction s with
 |pure c=>intro w es;exact T6 _
 |load m c b a=>
  intro w es;simp only[U4]
  split
  ·exact a _ w _
  ·split
   ·exact a _ w _
   ·exact T6 _
 |store m c v b a=>
  intro w es;have k:∀d:F,d.drawn=w.drawn->w.drawn<=Result.drawn (b.runT P d es).1:=λd h=>by rw[<-h];exact a d _
  cases v<;>simp only[U4]<;>first|exact T6 _|skip
  all_goals
   split
   ·split
    ·exact T6 _
    ·exact a (w.setCell c _) _
   ·split
    ·rename_i i;have:=Ju i;rw[<-this];exact a _ _
    ·exact T6 _
 |new e b a=>intro w es;simp only[U4];exact a _ {w with heap:=w.heap.push e} _
 |shape f b a=>intro w es;simp only[U4];exact a _ w _
 |freeze c j b a=>intro w es;simp only[U4];exact Ux (by unfold VQ;split<;>exact T6 _) (a (w.freeze c j) _)
 |frozen c b a=>intro w es;simp only[U4];exact a _ w _
 |getObj f b a=>intro w es;simp only[U4];split<;>first|exact T6 _|exact a _ w _
 |setObj f e b a=>intro w es;simp only[U4];split<;>first|exact T6 _|exact a {w with heap:=w.heap.setIfInBounds f e} _
 |choose l b a=>
  intro w es;simp only[U4]
  split
  ·exact a _ w _
  ·exact Ux (Nat.le_succ _) (a _ {w with drawn:=w.drawn+1} _)
 |sys g b a=>intro w es;simp only[U4];exact Ux (KJ w g) (a _ (w.sys g).2 _)
 |program b a=>intro w es;simp only[U4];exact a _ w _
 |mark m b a=>intro w es;simp only[U4];exact a w _
 |halt h=>intro w es;exact T6 _
def jN (es:Array Vm):Prop:=∀a∈es,a.loc≠.output
def jN.push{es:Array Vm}(h:jN es){e:Vm}(b:e.loc≠.output):jN (es.push e):=λc a=>by
 rcases Array.mem_push.1 a with a|rfl
 ·exact h c a
 ·exact b
def fU {α β:Type}(A:aU G->α->β->Prop)(ρ:aU G)(t:Nat)(w':F)(v:XW α×Array Vm)(w:XW β×Array Vm):Prop:=∀e:XW α×Array Vm->XW β×Array Vm->Prop,(∀{b:aU G} {g:Nat} {f:α} {j:β} {a d:F} {c h:Array Vm} (p:A b f j) (s:eJ b g a d) (r:Fr ρ b w' d) (q:∀l∈h,kq b l) (n:a.drawn+g=t) (m:jN c),e (.ok f a,c) (.ok j d,h))->(∀{b:aU G} {g:Nat} {i k:Halt} {a d:F} {c h:Array Vm} (u:lE b i k) (s:eJ b g a d) (r:Fr ρ b w' d) (q:∀l∈h,kq b l) (n:a.drawn+g=t) (m:jN c),e (.halt i a,c) (.halt k d,h))->(∀{b:aU G} {f:α} {j:β} {a:F} {c:Array Vm} {o:XW β×Array Vm} (p:A b f j) (n:t<a.drawn) (m:jN c),e (.ok f a,c) o)->(∀{b:aU G} {i k:Halt} {a:F} {c:Array Vm} {o:XW β×Array Vm} (u:lE b i k) (n:t<a.drawn) (m:jN c),e (.halt i a,c) o)->e v w
def fU.ok{α β:Type}{A:aU G->α->β->Prop}{ρ:aU G}{t:Nat}{w':F}{σ:aU G}{b1:Nat}{a:α}{b:β}{c w1':F}{es d:Array Vm}(g:A σ a b)(l:eJ σ b1 c w1')(i:Fr ρ σ w' w1')(h:∀e∈d,kq σ e)(k:c.drawn+b1=t)(j:jN es):fU A ρ t w' (.ok a c,es) (.ok b w1',d):=λm f n o p=>f g l i h k j
def fU.halt{α β:Type}{A:aU G->α->β->Prop}{ρ:aU G}{t:Nat}{w':F}{σ:aU G}{b1:Nat}{x c:Halt}{a w1':F}{es b:Array Vm}(k:lE σ x c)(j:eJ σ b1 a w1')(g:Fr ρ σ w' w1')(f:∀e∈b,kq σ e)(i:a.drawn+b1=t)(h:jN es):fU A ρ t w' (.halt x a,es) (.halt c w1',b):=λl m d n o=>d k j g f i h
def fU.over{α β:Type}{A:aU G->α->β->Prop}{ρ:aU G}{t:Nat}{w':F}{σ:aU G}{a:α}{b:β}{c:F}{es:Array Vm}{r:XW β×Array Vm}(e:A σ a b)(g:t<c.drawn)(f:jN es):fU A ρ t w' (.ok a c,es) r:=λh i j d k=>d e g f
def fU.oa{α β:Type}{A:aU G->α->β->Prop}{ρ:aU G}{t:Nat}{w':F}{σ:aU G}{x f:Halt}{a:F}{es:Array Vm}{r:XW β×Array Vm}(e:lE σ x f)(d:t<a.drawn)(c:jN es):fU A ρ t w' (.halt x a,es) r:=λg h i j b=>b e d c
def fU.ind{α β:Type}{A:aU G->α->β->Prop}{ρ:aU G}{t:Nat}{w':F}{o:∀(m:XW α×Array Vm) (n:XW β×Array Vm),fU A ρ t w' m n->Prop}(ok:∀{σ:aU G} {b1:Nat} {a:α} {b:β} {f w1':F} {es p:Array Vm} (g:A σ a b) (k:eJ σ b1 f w1') (j:Fr ρ σ w' w1') (i:∀e∈p,kq σ e) (d:f.drawn+b1=t) (c:jN es),o (.ok a f,es) (.ok b w1',p) (fU.ok g k j i d c))(halt:∀{σ:aU G} {b1:Nat} {x q:Halt} {f w1':F} {es p:Array Vm} (l:lE σ x q) (k:eJ σ b1 f w1') (j:Fr ρ σ w' w1') (i:∀e∈p,kq σ e) (d:f.drawn+b1=t) (c:jN es),o (.halt x f,es) (.halt q w1',p) (fU.halt l k j i d c))(over:∀{σ:aU G} {a:α} {b:β} {f:F} {es:Array Vm} {r:XW β×Array Vm} (g:A σ a b) (d:t<f.drawn) (c:jN es),o (.ok a f,es) r (fU.over g d c))(oa:∀{σ:aU G} {x q:Halt} {f:F} {es:Array Vm} {r:XW β×Array Vm} (l:lE σ x q) (d:t<f.drawn) (c:jN es),o (.halt x f,es) r (fU.oa l d c)){m:XW α×Array Vm}{n:XW β×Array Vm}(h:fU A ρ t w' m n):o m n h:=(h (λm n=>fU A ρ t w' m n/\∀h,o m n h) (λg k j i d c=>⟨fU.ok g k j i d c,λ_=>ok g k j i d c⟩) (λl k j i d c=>⟨fU.halt l k j i d c,λ_=>halt l k j i d c⟩) (λg d c=>⟨fU.over g d c,λ_=>over g d c⟩) (λl d c=>⟨fU.oa l d c,λ_=>oa l d c⟩)).2 h
def fU.after{α β:Type}{A:aU G->α->β->Prop}{ρ σ:aU G}{t:Nat}{w' w1':F}{r:XW α×Array Vm}{r':XW β×Array Vm}(i:Fr ρ σ w' w1')(h:fU A σ t w1' r r'):fU A ρ t w' r r':=by
 cases h using fU.ind with
 |ok c f e d b a=>exact .ok c f (i.trans e) d b a
 |halt g f e d b a=>exact .halt g f (i.trans e) d b a
 |over c b a=>exact .over c b a
 |oa g b a=>exact .oa g b a
def fU.left{α β:Type}{A:aU G->α->β->Prop}{ρ l:aU G}{t e:Nat}{w' k:F}{r:XW α×Array Vm}{r' j:XW β×Array Vm}(h:fU A ρ t w' r r')(b:e<Result.drawn r.1):fU A l e k r j:=by
 cases h using fU.ind with
 |ok c i g f _ a=>exact .over c b a
 |halt d i g f _ a=>exact .oa d b a
 |over c _ a=>exact .over c b a
 |oa d _ a=>exact .oa d b a
def eJ.lt{ρ:aU G}{w w':F}(h:eJ ρ bu w w'){b b':Nat}(d:ρ.f b=I b'):b<w.heap.size/\b'<w'.heap.size:=by
 obtain⟨e,f,a,c,-⟩:=h.at_ b b' d;exact⟨(Ua.1 a).1,(Ua.1 c).1⟩
structure Qt(w W:F)(b:Nat)(o:Xv):Prop where
 at_:W.heap[b]? =I o
 other:∀c,c≠b->W.heap[c]? =w.heap[c]?
 size:W.heap.size=w.heap.size
 tape:W.tape=w.tape
 drawn:W.drawn=w.drawn
 os:W.os=w.os
 output:W.output=w.output
def eJ.upd{ρ:aU G}{w w' W W':F}(h:eJ ρ bu w w'){b b':Nat}(i:ρ.f b=I b'){o o':Xv}(q:dJ ρ o o')(c:Qt w W b o)(d:Qt w' W' b' o'):eJ ρ bu W W':=by
 refine⟨by rw[c.size];exact h.gl,by rw[d.size];exact h.gr,λe a f=>?_,λr u p=>by rw[c.tape,c.drawn,d.tape,d.drawn];exact h.tape r u p⟩;by_cases g:e=b
 ·subst g;have:a=b':=by rw[i] at f;cases f;rfl
  subst this;exact⟨o,o',c.at_,d.at_,q⟩
 ·have j:a≠b':=λk=>g (ρ.inj e b a f (by rw[k];exact i));obtain⟨s,t,l,m,n⟩:=h.at_ e a f;exact⟨s,t,(c.other e g).trans l,(d.other a j).trans m,n⟩
def Qt.fr{ρ:aU G}{w' W':F}{b b':Nat}(e:ρ.f b=I b'){o':Xv}(h:Qt w' W' b' o'):Fr ρ ρ w' W':=
 ⟨aU.le.refl _,h.os,h.output,h.tape,by rw[h.drawn];exact T6 _,by rw[h.size];exact T6 _,λa f _=>h.other a (λc=>f b (by rw[c];exact e)),λ_ _ h=>.inl h,λ_ g d=>absurd d (by rw[h.size];omega)⟩
def wi{w:F}{a:UJ}{c:Array U}{t:Ug}{b:Nat×Nat}(h:w.heap[a.block]? =I (.cells c t b))(v:U):Qt w (w.setCell a v) a.block (.cells (if a.spot.isSome then c else c.setIfInBounds a.off v) t b):=by
 refine⟨?_,λc d=>?_,by simp[Ya],rfl,rfl,rfl,rfl⟩
 ·simp[Ya,VV,h]
 ·simp[Ya,VV,Ne.symm d]
def zK{w:F}{a:UJ}{n:Nat}(b:n≠0){c:Array U}{t:Ug}{d:Nat×Nat}(h:w.heap[a.block]? =I (.cells c t d)):Qt w (w.freeze a n) a.block (.cells c t (if d.1==d.2 then(a.off,a.off+n) else(min d.1 a.off,max d.2 (a.off+n)))):=by
 obtain⟨g,f⟩:=d;refine⟨?_,λc e=>?_,by simp[VQ,b],by simp[VQ,b],by simp[VQ,b],by simp[VQ,b],by simp[VQ,b]⟩
 ·simp[VQ,b,VV,h]
 ·simp[VQ,b,VV,Ne.symm e]
def iP{w:F}{a:UJ}{n:Nat}(b:n≠0){o:Xv}(h:w.heap[a.block]? =I o)(f:∀c t d,o≠.cells c t d):Qt w (w.freeze a n) a.block o:=by
 refine⟨?_,λc e=>?_,by simp[VQ,b],by simp[VQ,b],by simp[VQ,b],by simp[VQ,b],by simp[VQ,b]⟩
 ·simp only[VQ,b,if_false,VV,h];cases o<;>first|rfl|exact absurd rfl (f _ _ _)
 ·simp[VQ,b,VV,Ne.symm e]
def zL{w:F}{r:Nat}(o:Xv)(h:r<w.heap.size):Qt w {w with heap:=w.heap.setIfInBounds r o} r o:=
 ⟨by simp[UP,h],λb a=>by simp[Array.getElem?_setIfInBounds_ne (Ne.symm a)],by simp,rfl,rfl,rfl,rfl⟩
def nY {ρ:aU G} {w w':F} (h:eJ ρ bu w w') {a a':UJ} (n:cM ρ a a'):(w.cell? a=K/\w'.cell? a'=K/\(∀P b,w.farLoad P a b= .error (.stuck "load: no such cell"))/\(∀P b,w'.farLoad P a' b= .error (.stuck "load: no such cell"))/\(∀P v b,w.farStore P a v b= .error (.stuck "store: no such cell"))/\(∀P v b,w'.farStore P a' v b= .error (.stuck "store: no such cell")))\/
 ∃c i t j v k,w.heap[a.block]? =I (.cells c t j)/\w'.heap[a'.block]? =I (.cells i t j)/\bg ρ c i/\w.cell? a=I v/\w'.cell? a'=I k/\ay ρ v k:=by
 obtain⟨s,u,d,e,r⟩:=h.at_ _ _ n.1;have o:=n.2.1;have f:=n.2.2;cases r using dJ.ind with
 |cells p t j=>
  rename_i c i;cases g:a.spot with
  |some x=>
   rw[g] at f;exact .inl ⟨by simp[Ur,d,g],by simp[Ur,e,<-f],λP b=>by simp[X9,WT,d],λP b=>by simp[X9,WT,e],λP v b=>by simp[XA,WT,d],λP v b=>by simp[XA,WT,e]⟩
  |none=>
   rw[g] at f;rcases p.get a.off with⟨l,m⟩|⟨v,k,l,m,q⟩
   ·exact .inl ⟨by simp[Ur,d,g,l],by simp[Ur,e,<-f,<-o,m],λP b=>by simp[X9,WT,d],λP b=>by simp[X9,WT,e],λP v b=>by simp[XA,WT,d],λP v b=>by simp[XA,WT,e]⟩
   ·exact .inr ⟨c,i,t,j,v,k,d,e,p,by simp[Ur,d,g,l],by simp[Ur,e,<-f,<-o,m],q⟩
 |_=>exact .inl ⟨by simp[Ur,d],by simp[Ur,e],λP b=>by simp[X9,WT,d],λP b=>by simp[X9,WT,e],λP v b=>by simp[XA,WT,d],λP v b=>by simp[XA,WT,e]⟩
def yj{ρ:aU G}{w w':F}(h:eJ ρ bu w w'){a a':UJ}(d:cM ρ a a'):w.frozen? a=w'.frozen? a':=by
 obtain⟨j,k,b,c,f⟩:=h.at_ _ _ d.1;have e:=d.2.1;cases f using dJ.ind with
 |cells i l g=>simp[UQ,b,c,e]
 |_=>simp[UQ,b,c]
def KA{ρ:aU G}{w w':F}(h:eJ ρ bu w w'){r r':Nat}(e:ρ.f r=I r'):w.shape? r=w'.shape? r':=by
 obtain⟨g,i,a,b,c⟩:=h.at_ _ _ e;cases c using dJ.ind with
 |cells d j f=>simp[World.shape?,a,b,d.1]
 |_=>simp[World.shape?,a,b]
def eJ.fresh{ρ:aU G}{w w':F}(h:eJ ρ bu w w'):QN ρ w.heap.size w'.heap.size:=by
 refine⟨?_,λc a=>?_,h.gl,h.gr⟩
 ·cases b:ρ.f w.heap.size with
  |none=>rfl
  |some d=>have:=(h.lt b).1;omega
 ·have:=(h.lt a).2;omega
def eJ.new{ρ:aU G}{w w':F}(h:eJ ρ bu w w'){o o':Xv}(j:dJ ρ o o'):eJ (ρ.ext w.heap.size w'.heap.size h.fresh) bu {w with heap:=w.heap.push o} {w' with heap:=w'.heap.push o'}/\Fr ρ (ρ.ext w.heap.size w'.heap.size h.fresh) w' {w' with heap:=w'.heap.push o'}:=by
 have e:=aU.Mb h.fresh;refine⟨⟨by have:=h.gl;simp;omega,by have:=h.gr;simp;omega,λf b a=>?_,h.tape⟩,⟨e,rfl,rfl,rfl,T6 _,by simp,λb a k=>by simp[VB,Nat.ne_of_lt k],λf b a=>?_,λb g d=>⟨w.heap.size,by
  have c:b=w'.heap.size:=by simp at d;omega
  rw[c];exact aU.xj _ _ _ _⟩⟩⟩
 ·unfold aU.ext at a;dsimp only at a
  split at a
  ·rename_i c;cases a;subst c;exact⟨o,o',by simp,by simp,j.mono e⟩
  ·obtain⟨l,m,g,d,i⟩:=h.at_ f b a;have:=h.lt a;exact⟨l,m,by simp[VB,Nat.ne_of_lt this.1];simpa using g,by simp[VB,Nat.ne_of_lt this.2];simpa using d,i.mono e⟩
 ·unfold aU.ext at a;dsimp only at a
  split at a
  ·cases a;exact .inr (T6 _)
  ·exact .inl a
def mF{σ:aU G}{es:Array Vm}(h:∀e∈es,kq σ e){e:Vm}(b:kq σ e):∀x∈es.push e,kq σ x:=λx a=>by
 rcases Array.mem_push.1 a with a|rfl
 ·exact h x a
 ·exact b
def aq.runs{P P':Ue}{α β:Type}{A:aU G->α->β->Prop}{ρ:aU G}{s:Wu α}{s':Wu β}(h:aq P P' A ρ s s'):∀(w w':F) (es g:Array Vm) (bu:Nat),eJ ρ bu w w'->(∀e∈g,kq ρ e)->jN es->fU A ρ (w.drawn+bu) w' (s.runT P w es) (s'.runT P' w' g):=by
 induction h using aq.ind with
 |pure h=>intro w w' es g bu a b c;exact .ok h a (Fr.refl _ _) b Y c
 |load i _ d=>
  intro w w' es g bu a b c;rcases nY a i with⟨j,f,o,R,-⟩|⟨D,O,r,t,v,n,-,-,-,j,f,o⟩
  ·simp only[U4,j,f,o,R];exact .halt (.same _ Y) a (Fr.refl _ _) b Y c
  ·simp only[U4,j,f];exact d v n o w w' _ _ _ a (mF b ⟨_,i.1⟩) (c.push (by simp))
 |store i ao _ d=>
  intro w w' es g bu a b c;rename_i ρ m k y v n q C _;have V:(∀x,v≠.agg x)->(∀x,v≠.tuple x)->(∀x,n≠.agg x)->(∀x,n≠.tuple x)->fU A ρ (w.drawn+bu) w' ((Sem.store m k v q).runT P w es) ((Sem.store m y n C).runT P' w' g):=by
   intro a2 a3 a4 a5;have ae:=yj a i;rcases nY a i with⟨j,f,-,-,o,R⟩|⟨D,O,r,t,ba,bb,ar,au,ab,j,f,o⟩
   ·have I:(Sem.store m k v q).runT P w es=(.halt (.stuck "store: no such cell") w,es):=by cases v<;>first|exact absurd Y (a2 _)|exact absurd Y (a3 _)|simp only[U4,j,o]
    have J:(Sem.store m y n C).runT P' w' g=(.halt (.stuck "store: no such cell") w',g):=by cases n<;>first|exact absurd Y (a4 _)|exact absurd Y (a5 _)|simp only[U4,f,R]
    rw[I,J];exact .halt (.same _ Y) a (Fr.refl _ _) b Y c
   ·cases ap:w.frozen? k with
    |true=>
     rw[ap] at ae;have I:(Sem.store m k v q).runT P w es=(.halt (.unsupported (.unsafePointer "a write to bytes that a string shares")) w,es):=by cases v<;>simp_all [U4]
     have J:(Sem.store m y n C).runT P' w' g=(.halt (.unsupported (.unsafePointer "a write to bytes that a string shares")) w',g):=by cases n<;>simp_all [U4]
     rw[I,J];exact .halt (.same _ Y) a (Fr.refl _ _) b Y c
    |false=>
     rw[ap] at ae;have I:(Sem.store m k v q).runT P w es=q.runT P (w.setCell k v) (es.push ⟨.cell k,Z,m == .atomic⟩):=by cases v<;>simp_all [U4]
     have J:(Sem.store m y n C).runT P' w' g=C.runT P' (w'.setCell y n) (g.push ⟨.cell y,Z,m == .atomic⟩):=by cases n<;>simp_all [U4]
     rw[I,J];have L:dJ ρ (.cells (if k.spot.isSome then D else D.setIfInBounds k.off v) r t) (.cells (if y.spot.isSome then O else O.setIfInBounds y.off n) r t):=by
      rw[<-i.2.1,<-i.2.2];refine .cells ?_ r t
      split
      ·exact ab
      ·exact ab.set ao _
     have z:=wi au n;exact fU.after (z.fr i.1) (d _ _ _ _ _ (a.upd i.1 L (wi ar v) z) (mF b ⟨_,i.1⟩) (c.push (by simp)))
  cases ao using ay.ind with
  |agg az a0=>simp only[U4];exact .halt (.same _ Y) a (Fr.refl _ _) b Y c
  |tuple az a0=>simp only[U4];exact .halt (.same _ Y) a (Fr.refl _ _) b Y c
  |_=>exact V (by simp) (by simp) (by simp) (by simp)
 |new T _ d=>
  intro w w' es g bu a b c;obtain⟨j,f⟩:=a.new T;simp only[U4];exact fU.after f (d _ _ a.fresh _ _ _ _ _ j (λe aw=>(b e aw).mono f.le) c)
 |shape l _ d=>
  intro w w' es g bu a b c;simp only[U4];rw[KA a l];exact d _ w w' _ _ _ a b c
 |freeze i _ d=>
  intro w w' es g bu a b c;rename_i ρ k y H q C _;simp only[U4];by_cases p:H=0
  ·subst p;simp only[VQ,if_pos];exact d w w' _ _ _ a b c
  ·obtain⟨X,aa,j,f,o⟩:=a.at_ _ _ i.1;have av:w.drawn=(w.freeze k H).drawn:=by unfold VQ;split<;>rfl
   rw[av];cases o using dJ.ind with
   |cells S r t=>
    have z:=zK (n:=H) p f;have L:dJ ρ _ _:=.cells S r (if t.1==t.2 then(k.off,k.off+H) else(min t.1 k.off,max t.2 (k.off+H)));have am:=zK (n:=H) p j;rw[i.2.1] at am L;exact fU.after (z.fr i.1) (d _ _ _ _ _ (a.upd i.1 L am z) b c)
   |map U K a1=>exact fU.after ((iP p f (λ_ _ _ e=>by cases e)).fr i.1) (d _ _ _ _ _ (a.upd i.1 (.map U K a1) (iP p j (λ_ _ _ e=>by cases e)) (iP p f (λ_ _ _ e=>by cases e))) b c)
   |chan D E Q s N r=>exact fU.after ((iP p f (λ_ _ _ e=>by cases e)).fr i.1) (d _ _ _ _ _ (a.upd i.1 (.chan D E Q s N r) (iP p j (λ_ _ _ e=>by cases e)) (iP p f (λ_ _ _ e=>by cases e))) b c)
   |number E W=>exact fU.after ((iP p f (λ_ _ _ e=>by cases e)).fr i.1) (d _ _ _ _ _ (a.upd i.1 (.number E W) (iP p j (λ_ _ _ e=>by cases e)) (iP p f (λ_ _ _ e=>by cases e))) b c)
 |frozen i _ d=>
  intro w w' es g bu a b c;simp only[U4];rw[yj a i];exact d _ w w' _ _ _ a b c
 |getObj l _ d=>
  intro w w' es g bu a b c;obtain⟨X,aa,j,f,o⟩:=a.at_ _ _ l;cases o using dJ.ind with
  |cells S r t=>
   simp only[U4,j,f];exact .halt (.same _ Y) a (Fr.refl _ _) b Y c
  |map U K q=>
   simp only[U4,j,f];exact d _ _ (.map U K q) w w' _ _ _ a (mF b ⟨_,l⟩) (c.push (by simp))
  |chan D E Q s N r=>
   simp only[U4,j,f];exact d _ _ (.chan D E Q s N r) w w' _ _ _ a (mF b ⟨_,l⟩) (c.push (by simp))
  |number E W=>
   simp only[U4,j,f];exact d _ _ (.number E W) w w' _ _ _ a (mF b ⟨_,l⟩) (c.push (by simp))
 |setObj l T _ d=>
  intro w w' es g bu a b c;rename_i ρ N a9 X aa q C _;obtain⟨a7,a8,j,f,o⟩:=a.at_ _ _ l;cases o using dJ.ind with
  |cells S r t=>
   simp only[U4,j,f];exact .halt (.same _ Y) a (Fr.refl _ _) b Y c
  |_=>
   simp only[U4,j,f];have al:=a.lt l;have z:=zL (w:=w') aa al.2;exact fU.after (z.fr l) (d _ _ _ _ _ (a.upd l T (zL X al.1) z) (mF b ⟨_,l⟩) (c.push (by simp)))
 |choose _ d=>
  intro w w' es g bu a b c;rename_i ρ u q C _;simp only[U4]
  split
  ·exact d 0 w w' _ _ _ a b c
  ·cases bu with
   |zero=>
    have K:=Kl P (q (u.cut (w.tape w.drawn u))) {w with drawn:=w.drawn+1} es;have l:=d (u.cut (w.tape w.drawn u)) {w with drawn:=w.drawn+1} {w' with tape:=λM x=>w.tape (w.drawn+1+(M-w'.drawn)) x} es g (Result.drawn ((q (u.cut (w.tape w.drawn u))).runT P {w with drawn:=w.drawn+1} es).1) ⟨a.gl,a.gr,a.at_,λM x _=>by simp⟩ b c;exact l.left K
   |succ bu=>
    have ad:=a.tape 0 u (by omega);simp only[Nat.add_zero] at ad;rw[ad];have V:=d (u.cut (w'.tape w'.drawn u)) {w with drawn:=w.drawn+1} {w' with drawn:=w'.drawn+1} es g bu ⟨a.gl,a.gr,a.at_,λM u a6=>by
     have:=a.tape (1+M) u (by omega);simpa [U5] using this⟩ b c
    have e:w.drawn+(bu+1)=w.drawn+1+bu:=by omega
    rw[e];exact fU.after (σ:=ρ) (w1':={w' with drawn:=w'.drawn+1}) ⟨aU.le.refl _,rfl,rfl,rfl,by simp,T6 _,λ_ _ _=>rfl,λ_ _ h=>.inl h,λ_ j f=>absurd f (by simp;omega)⟩ V
 |program _ d=>intro w w' es g bu a b c;simp only[U4];exact d w w' _ _ _ a b c
 |room _ d=>intro w w' es g bu a b c;simp only[U4];exact d w w' _ _ _ a (mF b trivial) (c.push (by simp))
 |halt h=>intro w w' es g bu a b c;exact .halt h a (Fr.refl _ _) b Y c
end
section
variable {G:mi}
structure wE(P P':Ue):Prop where
 info:∀t,P'.info? t=P.info? t
 tI:∀t,P'.underlying t=P.underlying t
 rt:P'.rt=P.rt
 zero:∀t i v,P.info? t=I i->i.zero=I v->∀(G:mi) (ρ:aU G),ay ρ v v
def iZ (ρ:aU G)(e:List U)(f:List U):Prop:=∀a:List U->List U->Prop,(a [] [])->(∀{v d:U} {b c:List U} (g:ay ρ v d) (h:a b c),a (v::b) (d::c))->a e f
def iZ.nil{ρ:aU G}:iZ ρ [] []:=λb a c=>a
def iZ.cons{ρ:aU G}{v c:U}{l b:List U}(h:ay ρ v c)(f:iZ ρ l b):iZ ρ (v::l) (c::b):=λd e a=>a h (f d e a)
def iZ.ind{ρ:aU G}{d:∀(a:List U) (b:List U),iZ ρ a b->Prop}(nil:d _ _ (iZ.nil))(cons:∀{v f:U} {l e:List U} (h:ay ρ v f) (c:iZ ρ l e),(d _ _ c)->d _ _ (iZ.cons h c)){a:List U}{b:List U}(h:iZ ρ a b):d a b h:=(h (λa b=>iZ ρ a b/\∀h,d a b h) (⟨iZ.nil,λ_=>nil⟩) (λh c=>⟨iZ.cons h c.1,λ_=>cons h c.1 (c.2 _)⟩)).2 h
theorem Il{ρ:aU G}:∀(l a:List U),l.length=a.length->(∀i (h:i<l.length) (e:i<a.length),ay ρ l[i] a[i])->iZ ρ l a
 | [],[],_,_=>.nil
 | [],_::_,h,_=>by simp at h
 |_::_,[],h,_=>by simp at h
 |v::l,f::a,h,b=>.cons (b 0 (by simp) (by simp)) (Il l a (by simpa using h) (λi c d=>b (i+1) (by simpa using c) (by simpa using d)))
def bg.toList{ρ:aU G}{x a:Array U}(h:bg ρ x a):iZ ρ x.toList a.toList:=
 Il _ _ (by simpa using h.1) (λd b c=>by simpa using h.2 d (by simpa using b) (by simpa using c))
def iZ.toArray{ρ:aU G}{l c:List U}(h:iZ ρ l c):bg ρ l.toArray c.toArray:=by
 induction h using iZ.ind with
 |nil=>exact bg.nil _
 |cons f _ b=>
  refine⟨by simpa using b.1,λa d e=>?_⟩;cases a with
  |zero=>exact f
  |succ a=>exact b.2 a (by simpa using d) (by simpa using e)
def iW {α:Type}(_:aU G)(a b:α):Prop:=a=b
section
variable {P P':Ue}{α β γ δ:Type}{A:aU G->α->β->Prop}{B:aU G->γ->δ->Prop}{ρ:aU G}
def aq.bindM{s:Wu α}{s':Wu β}{f:α->Wu γ}{f':β->Wu δ}(h:aq P P' A ρ s s')(c:∀ σ a b,ρ.le σ->A σ a b->aq P P' B σ (f a) (f' b)):aq P P' B ρ (s >>= f) (s' >>= f'):=h.bind c
def aq.aB{a:α}{b:β}(h:A ρ a b):aq P P' A ρ (Pure.pure a) (Pure.pure b):=.pure h
def aq.stuck{w:String}:aq P P' A ρ (Go.stuck w) (Go.stuck w):=.halt (.same _ Y)
def aq.dz{u:Unsupported}(a:pN (.unsupported u)=Z:=by rfl):aq P P' A ρ (Go.unsupported u) (Go.unsupported u):=.halt (.same _ a)
def aq.panics{v a:U}(h:ay ρ v a):aq P P' A ρ (Go.goPanic v) (Go.goPanic a):=.halt (.panic h)
def aq.asks{k:Ue->Wu α}{k':Ue->Wu β}(h:aq P P' A ρ (k P) (k' P')):aq P P' A ρ (Go.program >>= k) (Go.program >>= k'):=.program h
def fQ(S:wE P P')(t:Ug):aq P P' (λ_ (i a:TypeInfo)=>i=a/\P.info? t=I i) ρ (XC t) (XC t):=by
 unfold XC;refine .asks ?_;rw[S.info];cases b:P.info? t with
 |none=>exact .stuck
 |some i=>exact .aB ⟨rfl,rfl⟩
def aV(S:wE P P')(t:Ug):aq P P' (λ_ (i a:TypeDesc)=>i=a/\P.underlying t=I i) ρ (Xq t) (Xq t):=by
 unfold Xq;refine .asks ?_;rw[S.tI];cases b:P.underlying t with
 |none=>exact .stuck
 |some i=>exact .aB ⟨rfl,rfl⟩
def cY(S:wE P P')(t:Ug):aq P P' (iW (α:=Nat)) ρ (sizeOf t) (sizeOf t):=by
 unfold sizeOf;exact(fQ S t).bindM (λd b c _ a=>.aB (by rw[a.1];rfl))
def jK(S:wE P P')(t:Ug):aq P P' ay ρ (Wn t) (Wn t):=by
 unfold Wn;refine(fQ S t).bindM (λe a f _ b=>?_);obtain⟨rfl,c⟩:=b;cases d:a.zero with
 |none=>exact .dz
 |some v=>exact .aB (S.zero t a v c d _ e)
def Iv(S:wE P P')(t:Ug):aq P P' (iW (α:=Bool)) ρ (isAgg t) (isAgg t):=by
 unfold isAgg;refine(aV S t).bindM (λe b c _ a=>?_);obtain⟨rfl,d⟩:=a
 split<;>exact .aB Y
theorem o8:∀(n:Nat) {ρ:aU G} {a a':UJ} (i:Nat) {b c:Array U},cM ρ a a'->bg ρ b c->aq P P' bg ρ (loadCellsFrom a i n b) (loadCellsFrom a' i n c)
 |0,ρ,a,a',i,b,c,e,d=>.aB d
 |n+1,ρ,a,a',i,b,c,e,d=>.load (e.add i) (λv g f=>o8 n (i+1) e (d.push f))
def vM{a a':UJ}(n:Nat)(b:cM ρ a a'):aq P P' bg ρ (loadCells a n) (loadCells a' n):=o8 n 0 b (bg.nil _)
theorem jZ:∀(vs d:List U) {ρ:aU G} {a a':UJ} (i:Nat),cM ρ a a'->iZ ρ vs d->aq P P' (iW (α:=Unit)) ρ (storeCells a vs i) (storeCells a' d i)
 | [],[],ρ,a,a',i,c,b=>.aB Y
 | [],_::_,ρ,a,a',i,c,b=>by cases b using iZ.ind
 |_::_,[],ρ,a,a',i,c,b=>by cases b using iZ.ind
 |v::g,j::h,ρ,a,a',i,c,b=>by
  cases b using iZ.ind with
  |cons f e=>exact .store (c.add i) f (jZ g h (i+1) c e)
def A5(S:wE P P'){a a':UJ}(t:Ug)(d:cM ρ a a'):aq P P' ay ρ (loadVar t a) (loadVar t a'):=by
 unfold loadVar;refine(Iv S t).bindM (λk c f e b=>?_);cases b;cases c
 ·exact .load (d.mono e) (λv j h=>.pure h)
 ·refine(cY S t).bindM (λi c f g b=>?_);cases b;exact(vM _ (d.mono (e.trans g))).bindM (λi c f _ b=>.aB (.agg b.1 b.2))
def Gq(S:wE P P'){a a':UJ}(t:Ug){v g:U}(e:cM ρ a a')(h:ay ρ v g):aq P P' (iW (α:=Unit)) ρ (storeVar t a v) (storeVar t a' g):=by
 unfold storeVar;refine(cY S t).bindM (λk i j b d=>?_);cases d;have c:=h.cells;rw[<-c.1]
 split
 ·exact aq.stuck.bindM (A:=iW (α:=PUnit)) (λl i j f d=>jZ _ _ 0 (e.mono (b.trans f)) (c.mono (b.trans f)).toList)
 ·exact jZ _ _ 0 (e.mono b) (c.mono b).toList
def qg(t:Ug){c a:Array U}(h:bg ρ c a):aq P P' cM ρ (newRow t c) (newRow t a):=by
 unfold newRow;exact .new (.cells h t (0,0)) (λd e b=>.pure ⟨aU.xj _ _ _ b,rfl,rfl⟩)
def Eo(t:Ug){v a:U}(h:ay ρ v a):aq P P' cM ρ (newVar t v) (newVar t a):=qg t h.cells
def lH(S:wE P P')(t:Ug){c f:Array U}(h:bg ρ c f)(off:Nat):aq P P' ay ρ (part t c off) (part t f off):=by
 unfold part;refine(Iv S t).bindM (λm e k g d=>?_);cases d;cases e
 ·rcases(h.mono g).get off with⟨a,b⟩|⟨v,l,a,b,i⟩
  ·simp only[a,b];exact .stuck
  ·simp only[a,b];exact .aB i
 ·refine(cY S t).bindM (λn e k j d=>?_);cases d;have:=(h.mono (g.trans j)).extract off (off+e);exact .aB (.agg this.1 this.2)
def qQ{v a:U}(h:ay ρ v a):aq P P' (iW (α:=Wx×Int)) ρ (asIntOf v) (asIntOf a):=by
 cases h using ay.ind with
 |int b c=>exact .aB Y
 |ptr h=>exact .dz
 |_=>exact .stuck
def oE{v a:U}(h:ay ρ v a):aq P P' (iW (α:=Int)) ρ (asInt v) (asInt a):=by
 unfold asInt;exact(qQ h).bindM (λd b c _ h=>by cases h;exact .aB Y)
def M8{v a:U}(h:ay ρ v a):aq P P' (iW (α:=Bool)) ρ (asBool v) (asBool a):=by
 cases h using ay.ind with
 |bool b=>exact .aB Y
 |_=>exact .stuck
def eE(S:wE P P'){A:aU G->α->β->Prop}(e:RuntimeError)(d:∀i c a m,e≠.typeAssertion i c a m)(f:∀t,e≠.unhashable t)(g:e≠.panicNil):aq P P' A ρ (runtimePanic e) (runtimePanic e):=by
 unfold runtimePanic;refine .asks ?_;rw[S.rt];cases e with
 |typeAssertion i c a m=>exact absurd Y (d _ _ _ _)
 |unhashable t=>exact absurd Y (f _)
 |panicNil=>exact absurd Y g
 |bounds j k s c=>exact .panics (.iface _ (.agg Y (λi b h=>by
  have:i=0\/i=1\/i=2\/i=3:=by simp at b;omega
  rcases this with rfl|rfl|rfl|rfl<;>first|exact .bool _|exact .int _ _)))
 |error m=>exact .panics (.iface _ (.string _))
 |plain m=>exact .panics (.iface _ (.string _))
 |nilDeref=>exact .panics (.iface _ (.string _))
def od(S:wE P P'){A:aU G->α->β->Prop}(k:Wx)(x y:Int)(c:BoundsCode):aq P P' A ρ (boundsPanic k x y c) (boundsPanic k x y c):=by
 unfold boundsPanic
 split
 ·refine aq.bindM (A:=iW (α:=Bool)) ?_ (λe b d _ a=>by cases a;exact eE S _ (by simp) (by simp) (by simp));exact aq.bind (A:=iW (α:=Nat)) (aq.choose (λf=>.pure Y)) (λe b d _ a=>by cases a;exact .pure Y)
 ·refine aq.bindM (A:=iW (α:=Bool)) (.aB Y) (λe b d _ a=>by cases a;exact eE S _ (by simp) (by simp) (by simp))
end
end
section
variable {G:mi}
structure Alike(G:mi)(P P':Ue):Prop where
 S:wE P P'
 cells:∀t,P'.cellsOf t=P.cellsOf t
 bytes:∀t,P'.bytesOf t=P.bytesOf t
 depth:P'.depth=P.depth
 ji:∀d e c o u n,liesAt P' d e c o u n=liesAt P d e c o u n
 cellAt:∀d e c o b,cellAtBytes P' d e c o b=cellAtBytes P d e c o b
 BK:∀d t o,byteOfCell P' d t o=byteOfCell P d t o
 SP:∀d t,P'.eqGuardType d t=P.eqGuardType d t
 IF:∀t,P'.stoodInHeld t=P.stoodInHeld t
 M1:∀d t,P'.holdsPacked d t=P.holdsPacked d t
 ym:P.globals.size=G.g
 Ml:P'.globals.size=G.g
 QV:∀f:Nat,G.b f=Z->∃fn,P.funcs[f]? =I fn/\fn.body.isNone=T5/\(fn.name == "runtime.NumGoroutine")=T5
 Q8:∀f:Nat,(P'.funcs[f]?).map (fun(x:WC)=>(x.name,x.body.isNone))=(P.funcs[f]?).map (fun(x:WC)=>(x.name,x.body.isNone))
section
variable {P P':Ue}{ρ:aU G}
def mO{v a:U}(h:ay ρ v a):aq P P' cM ρ (Xd v) (Xd a):=by
 cases h using ay.ind with
 |ptr h=>exact .aB h
 |_=>exact .stuck
def Nc(L:Alike G P P')(t:Ug){v a:U}(h:ay ρ v a):aq P P' ay ρ (Instr.loadAt t v) (Instr.loadAt t a):=
 (mO h).bindM (λd b c _ h=>A5 L.S t h)
def Ke(L:Alike G P P')(t:Ug){v a x b:U}(h:ay ρ v a)(d:ay ρ x b):aq P P' (iW (α:=Unit)) ρ (Instr.storeAt t v x) (Instr.storeAt t a b):=
 (mO h).bindM (λg e f c h=>Gq L.S t h (d.mono c))
def Ep{r r':Nat}(h:ρ.f r=I r'):aq P P' (λ_ (x y:Option (UJ×Ug))=>x=K/\y=K) ρ (viewAt r) (viewAt r'):=by
 unfold viewAt;refine aq.bindM (A:=iW (α:=Option (Ug×Nat))) (.shape h (λs=>.pure Y)) (λj f g c b=>?_);cases b
 split
 ·exact .aB ⟨rfl,rfl⟩
 ·refine aq.bindM (A:=dJ) (.getObj (c _ _ h) (λd e a=>.pure a)) (λk d e i a=>?_);cases a using dJ.ind<;>exact .aB ⟨rfl,rfl⟩
def yS{a a':UJ}(h:cM ρ a a'):aq P P' (iW (α:=Unit)) ρ (noView a) (noView a'):=by
 unfold noView;refine(Ep h.1).bindM (λf d e c b=>?_);obtain⟨rfl,rfl⟩:=b;exact .aB Y
def mN(L:Alike G P P'){a a':UJ}(h:cM ρ a a'):aq P P' (iW (α:=Nat)) ρ (byteOf a) (byteOf a'):=by
 unfold byteOf;rw[<-h.2.2];cases g:a.spot with
 |some s=>exact .aB Y
 |none=>
  refine .asks ?_;refine(yS h).bindM (λj c e d b=>?_);refine aq.bindM (A:=iW (α:=Option (Ug×Nat))) (.shape (d _ _ h.1) (λs=>.pure Y)) (λk c e f b=>?_);cases b;cases c with
  |none=>exact .stuck
  |some i=>
   simp only[L.cells,L.bytes,L.BK,L.depth,<-h.2.1]
   split
   ·exact .aB Y
   ·split
    ·exact .aB Y
    ·exact .stuck
def Ng(L:Alike G P P'){a a':UJ}(h:cM ρ a a')(c b:Nat):aq P P' cM ρ (partAt a c b) (partAt a' c b):=by
 unfold partAt;refine(mN L h).bindM (λk i j g e=>?_);cases e;have d:cM k {block:=a.block,off:=a.off+c} {block:=a'.block,off:=a'.off+c}:=⟨g _ _ h.1,by show a.off+c=a'.off+c;rw[h.2.1],rfl⟩;refine(mN L d).bindM (λl i j f e=>?_);cases e;refine .aB ?_
 split
 ·exact d.mono f
 ·exact⟨f _ _ d.1,d.2.1,rfl⟩
def Co(L:Alike G P P'){a a':UJ}(h:cM ρ a a')(f:Field):aq P P' cM ρ (fieldPlace a f) (fieldPlace a' f):=by
 unfold fieldPlace;refine(cY L.S _).bindM (λg d e b c=>?_);cases c
 split
 ·exact Ng L (h.mono b) _ _
 ·exact .aB ((h.mono b).add _)
def J8(L:Alike G P P')(s:Ug){v a:U}(h:ay ρ v a)(f:Nat):aq P P' ay ρ (Instr.fieldAt s v f) (Instr.fieldAt s a f):=by
 unfold Instr.fieldAt;refine(aV L.S s).bindM (λm j l i g=>?_);obtain⟨rfl,-⟩:=g;cases j with
 |struct e=>
  simp only;cases e[f]? with
  |none=>exact .stuck
  |some d=>exact(mO (h.mono i)).bindM (λk b c _ h=>(Co L h d).bindM (λk b c _ h=>.aB (.ptr h)))
 |_=>exact .stuck
def PG(L:Alike G P P')(t:Ug):aq P P' ay ρ (Instr.alloc t Z (.tuple #[])) (Instr.alloc t Z (.tuple #[])):=by
 unfold Instr.alloc;exact(jK L.S t).bindM (λg e f d a=>(Eo t a).bindM (λh b c _ a=>.aB (.ptr a)))
def SD(t:Ug){v a:U}(h:ay ρ v a):aq P P' ay ρ (Instr.box t v) (Instr.box t a):=by
 unfold Instr.box;exact(Eo t h).bindM (λd b c _ h=>.aB (.ptr h))
def J9(L:Alike G P P')(t:Ug){x n i l:U}(u:ay ρ x n)(q:ay ρ i l):aq P P' ay ρ (Instr.indexAt t x i) (Instr.indexAt t n l):=by
 unfold Instr.indexAt;refine(qQ q).bindM (λE k z r b=>?_);cases b;obtain⟨B,D⟩:=k;refine(aV L.S t).bindM (λF d j s a=>?_);obtain⟨rfl,a⟩:=a;have h:=u.mono (r.trans s);cases d with
 |array C e=>
  refine(mO h).bindM (λH k y A f=>?_);refine(aV L.S t).bindM (λo d j c a=>?_);obtain⟨rfl,-⟩:=a;dsimp only
  split
  ·exact(cY L.S e).bindM (λw x v g b=>by cases b;exact .aB (.ptr ((f.mono (c.trans g)).add _)))
  ·(repeat' split)<;>first|exact aq.dz|exact od L.S _ _ _ _
 |slice e=>
  cases h using ay.ind with
  |jU m p=>
   refine(aV L.S t).bindM (λo d j c a=>?_);exact od L.S _ _ _ _
  |sl f m p=>
   refine(aV L.S t).bindM (λo d j c a=>?_);obtain⟨rfl,-⟩:=a;dsimp only
   split
   ·exact(cY L.S e).bindM (λw x v g b=>by cases b;exact .aB (.ptr ((f.mono (c.trans g)).add _)))
   ·(repeat' split)<;>first|exact aq.dz|exact od L.S _ _ _ _
  |_=>exact aq.stuck
 |_=>cases h using ay.ind<;>exact aq.stuck
def A3(n:Nat):aq P P' (iW (α:=Unit)) ρ (askRoom n) (askRoom n):=by
 unfold askRoom
 split
 ·exact .room (.pure Y)
 ·exact .aB Y
def iM(L:Alike G P P'){v a:U}(h:ay ρ v a)(y:Nat)(c:BoundsCode):aq P P' (iW (α:=Nat)) ρ (Instr.sliceBound v y c) (Instr.sliceBound a y c):=by
 unfold Instr.sliceBound;refine(qQ h).bindM (λi b e _ d=>?_);cases d;obtain⟨g,f⟩:=b;dsimp only
 split
 ·exact .aB Y
 ·exact od L.S _ _ _ _
def ek (ρ:aU G)(c:Option U)(d:Option U):Prop:=∀a:Option U->Option U->Prop,(a K K)->(∀{v b:U} (e:ay ρ v b),a (I v) (I b))->a c d
def ek.none{ρ:aU G}:ek ρ K K:=λb a c=>a
def ek.some{ρ:aU G}{v a:U}(h:ay ρ v a):ek ρ (I v) (I a):=λc d b=>b h
def ek.ind{ρ:aU G}{c:∀(a:Option U) (b:Option U),ek ρ a b->Prop}(none:c _ _ (ek.none))(some:∀{v d:U} (h:ay ρ v d),c _ _ (ek.some h)){a:Option U}{b:Option U}(h:ek ρ a b):c a b h:=(h (λa b=>ek ρ a b/\∀h,c a b h) (⟨ek.none,λ_=>none⟩) (λh=>⟨ek.some h,λ_=>some h⟩)).2 h
def ek.mono{σ:aU G}(a:ρ.le σ){o o':Option U}(h:ek ρ o o'):ek σ o o':=by
 cases h using ek.ind with
 |none=>exact .none
 |some h=>exact .some (h.mono a)
def jn(L:Alike G P P')(b:Bool)(len cap:Nat){k l i j m n:Option U}(h1:ek ρ k l)(h:ek ρ i j)(o:ek ρ m n):aq P P' (iW (α:=Nat×Nat×Nat)) ρ (Instr.sliceBounds b len cap k i m) (Instr.sliceBounds b len cap l j n):=by
 unfold Instr.sliceBounds;cases o using ek.ind with
 |none=>
  cases h using ek.ind with
  |none=>
   cases h1 using ek.ind with
   |none=>exact .aB Y
   |some d=>exact(iM L d _ _).bindM (λf c b _ a=>by cases a;exact .aB Y)
  |some g=>
   refine(iM L g _ _).bindM (λf c b e a=>?_);cases a;cases h1 using ek.ind with
   |none=>exact .aB Y
   |some d=>exact(iM L (d.mono e) _ _).bindM (λf c b _ a=>by cases a;exact .aB Y)
 |some q=>
  refine(iM L q _ _).bindM (λf c b e a=>?_);cases a;cases h using ek.ind with
  |none=>exact aq.stuck
  |some g=>
   refine(iM L (g.mono e) _ _).bindM (λr c b p a=>?_);cases a;cases h1 using ek.ind with
   |none=>exact .aB Y
   |some d=>exact(iM L (d.mono (e.trans p)) _ _).bindM (λf c b _ a=>by cases a;exact .aB Y)
def PR(L:Alike G P P')(t:Ug){x u:U}{B C w y p q:Option U}(f:ay ρ x u)(h1:ek ρ B C)(c:ek ρ w y)(d:ek ρ p q):aq P P' ay ρ (Instr.slice t x B w p) (Instr.slice t u C y q):=by
 unfold Instr.slice;refine(aV L.S t).bindM (λK r J k o=>?_);obtain⟨rfl,-⟩:=o;have f:=f.mono k;have h1:=h1.mono k;have c:=c.mono k;have d:=d.mono k;cases r with
 |string=>
  cases f using ay.ind with
  |string s=>
   dsimp only;have F:p.isSome=q.isSome:=by cases d using ek.ind<;>rfl
   rw[F]
   split
   ·exact aq.stuck
   ·exact(jn L T5 s.size s.size h1 c .none).bindM (λl i m _ a=>by cases a;exact .aB (.string _))
  |_=>exact aq.stuck
 |slice j=>
  cases f using ay.ind with
  |jU g n=>
   refine(jn L Z g n h1 c d).bindM (λl i m _ a=>?_);cases a;refine(cY L.S j).bindM (λv x D _ a=>?_);cases a;refine .aB ?_
   split
   ·exact .jU _ _
   ·exact .jU _ _
  |sl h g n=>
   refine(jn L Z g n h1 c d).bindM (λl i m e a=>?_);cases a;refine(cY L.S j).bindM (λv x D b a=>?_);cases a;refine .aB ?_
   split
   ·exact .sl (h.mono (e.trans b)) _ _
   ·exact .sl ((h.mono (e.trans b)).add _) _ _
  |_=>exact aq.stuck
 |pointer E=>
  have I:aq P P' cM K (asAddr x) (asAddr u):=by
   cases f using ay.ind with
   |ptr H=>exact .aB H
   |cZ=>exact eE L.S .nilDeref (by simp) (by simp) (by simp)
   |_=>exact aq.stuck
  refine I.bindM (λl i M e h=>?_);refine(aV L.S E).bindM (λv r J b o=>?_);obtain⟨rfl,-⟩:=o;cases r with
  |array g j=>
   refine(jn L T5 g g (h1.mono (e.trans b)) (c.mono (e.trans b)) (d.mono (e.trans b))).bindM (λl i m z a=>?_);cases a;refine(cY L.S j).bindM (λv x D A a=>?_);cases a;refine .aB ?_
   split
   ·exact .sl (h.mono (b.trans (z.trans A))) _ _
   ·exact .sl ((h.mono (b.trans (z.trans A))).add _) _ _
  |_=>exact aq.stuck
 |_=>cases f using ay.ind<;>exact aq.stuck
def Kc(L:Alike G P P')(t:Ug){x q:U}{l m g h n o:Option U}(k:ay ρ x q)(h1:ek ρ l m)(d:ek ρ g h)(e:ek ρ n o):aq P P' ay ρ (Instr.sliceAt t x l g n) (Instr.sliceAt t q m h o):=by
 unfold Instr.sliceAt;refine(aV L.S t).bindM (λC w A a v=>?_);obtain⟨rfl,-⟩:=v;cases w with
 |array p s=>
  refine(mO (k.mono a)).bindM (λD r y u f=>?_);have c:=a.trans u;refine(jn L T5 p p (h1.mono c) (d.mono c) (e.mono c)).bindM (λE r z i b=>?_);cases b;refine(cY L.S s).bindM (λF x B j b=>?_);cases b;refine .aB ?_
  split
  ·exact .sl (f.mono (i.trans j)) _ _
  ·exact .sl ((f.mono (i.trans j)).add _) _ _
 |_=>exact PR L t (k.mono a) (h1.mono a) (d.mono a) (e.mono a)
end
end
section
variable {G:mi}
section
variable {P P':Ue}{ρ:aU G}
def lW{z a:Array U}(h:bg ρ z a)(n:Nat):bg ρ ((Yp n).map (z[· % z.size]!)) ((Yp n).map (a[· % a.size]!)):=by
 refine⟨by simp,λd f g=>?_⟩;simp only[Array.getElem_map,Array.getElem_range];have c:=h.1;by_cases e:0<z.size
 ·have b:d%z.size<z.size:=Nat.mod_lt _ e;rw[getElem!_pos z _ b,getElem!_pos a _ (by rw[<-c];exact b)];have:d%a.size=d%z.size:=by rw[c]
  simp only[this];exact h.2 _ b (by rw[<-c];exact b)
 ·rw[getElem!_neg z _ (by omega),getElem!_neg a _ (by omega)];exact .bool _
def uI(L:Alike G P P'){α k γ b:Type}{B:aU G->γ->b->Prop}(e:RuntimeError)(g:∀i c a m,e≠.typeAssertion i c a m)(h:∀t,e≠.unhashable t)(j:e≠.panicNil){f:α->Wu γ}{f':k->Wu b}:aq P P' B ρ (runtimePanic e >>= f) (runtimePanic e >>= f'):=
 (eE (A:=λ_ _ _=>False) L.S e g h j).bindM (λ_ _ _ _ d=>d.elim)
def qc{γ a:Type}{B:aU G->γ->a->Prop}(q:Question){f:Nat->Wu γ}{f':Nat->Wu a}(h:∀n,aq P P' B ρ (f n) (f' n)):aq P P' B ρ (choose q >>= f) (choose q >>= f'):=.choose (λn=>h n)
def Em(L:Alike G P P')(t:Ug){l j c h:U}(m:ay ρ l j)(hc:ay ρ c h):aq P P' ay ρ (XY t l c) (XY t j h):=by
 unfold XY;refine(aV L.S t).bindM (λw p v i n=>?_);obtain⟨rfl,-⟩:=n;cases p with
 |slice e=>
  refine(oE (m.mono i)).bindM (λx b d k a=>?_);cases a;refine(oE (hc.mono (i.trans k))).bindM (λy b d q a=>?_);cases a;refine(fQ L.S e).bindM (λz b d r a=>?_);obtain⟨rfl,-⟩:=a;dsimp only
  split
  ·split
   ·exact uI L _ (by simp) (by simp) (by simp)
   ·split
    ·exact uI L _ (by simp) (by simp) (by simp)
    ·exact qc _ (λu=>uI L _ (by simp) (by simp) (by simp))
  ·refine(A3 _).bindM (λA b d s a=>?_);refine(cY L.S e).bindM (λg b d _ a=>?_);cases a
   split
   ·exact(qg e (lW (bg.nil _) _)).bindM (λg b d _ f=>.aB (.sl f _ _))
   ·refine(jK L.S e).bindM (λg b d _ o=>?_);exact(qg e (lW o.cells _)).bindM (λg b d _ f=>.aB (.sl f _ _))
 |_=>exact aq.stuck
def pE (ρ:aU G)(f:List (U×Nat))(g:List (U×Nat)):Prop:=∀a:List (U×Nat)->List (U×Nat)->Prop,(a [] [])->(∀{v e:U} (b:Nat) {c d:List (U×Nat)} (h:ay ρ v e) (i:a c d),a ((v,b)::c) ((e,b)::d))->a f g
def pE.nil{ρ:aU G}:pE ρ [] []:=λb a c=>a
def pE.cons{ρ:aU G}{v c:U}(j:Nat){l b:List (U×Nat)}(h:ay ρ v c)(f:pE ρ l b):pE ρ ((v,j)::l) ((c,j)::b):=λd e a=>a j h (f d e a)
def pE.ind{ρ:aU G}{d:∀(a:List (U×Nat)) (b:List (U×Nat)),pE ρ a b->Prop}(nil:d _ _ (pE.nil))(cons:∀{v f:U} (j:Nat) {l e:List (U×Nat)} (h:ay ρ v f) (c:pE ρ l e),(d _ _ c)->d _ _ (pE.cons j h c)){a:List (U×Nat)}{b:List (U×Nat)}(h:pE ρ a b):d a b h:=(h (λa b=>pE ρ a b/\∀h,d a b h) (⟨pE.nil,λ_=>nil⟩) (λ{v} {f} j {l} {e} h c=>⟨pE.cons j h c.1,λ_=>cons j h c.1 (c.2 _)⟩)).2 h
def hU (ρ:aU G)(f:List (Nat×U))(g:List (Nat×U)):Prop:=∀a:List (Nat×U)->List (Nat×U)->Prop,(a [] [])->(∀{v e:U} (b:Nat) {c d:List (Nat×U)} (h:ay ρ v e) (i:a c d),a ((b,v)::c) ((b,e)::d))->a f g
def hU.nil{ρ:aU G}:hU ρ [] []:=λb a c=>a
def hU.cons{ρ:aU G}{v c:U}(j:Nat){l b:List (Nat×U)}(h:ay ρ v c)(f:hU ρ l b):hU ρ ((j,v)::l) ((j,c)::b):=λd e a=>a j h (f d e a)
def hU.ind{ρ:aU G}{d:∀(a:List (Nat×U)) (b:List (Nat×U)),hU ρ a b->Prop}(nil:d _ _ (hU.nil))(cons:∀{v f:U} (j:Nat) {l e:List (Nat×U)} (h:ay ρ v f) (c:hU ρ l e),(d _ _ c)->d _ _ (hU.cons j h c)){a:List (Nat×U)}{b:List (Nat×U)}(h:hU ρ a b):d a b h:=(h (λa b=>hU ρ a b/\∀h,d a b h) (⟨hU.nil,λ_=>nil⟩) (λ{v} {f} j {l} {e} h c=>⟨hU.cons j h c.1,λ_=>cons j h c.1 (c.2 _)⟩)).2 h
def hU.mono{σ:aU G}(b:ρ.le σ){l a:List (Nat×U)}(h:hU ρ l a):hU σ l a:=by
 induction h using hU.ind with
 |nil=>exact .nil
 |cons d h _ c=>exact .cons d (h.mono b) c
def iZ.zip{l a:List U}(h:iZ ρ l a):∀k,pE ρ (l.zipIdx k) (a.zipIdx k):=by
 induction h using iZ.ind with
 |nil=>exact λ_=>.nil
 |cons b _ c=>exact λk=>.cons k b (c (k+1))
def Qd(off:Nat){l b:List (U×Nat)}(h:pE ρ l b):∀{cs a:Array U},bg ρ cs a->bg ρ (l.foldl (λcs (c,j)=>cs.setIfInBounds (off+j) c) cs) (b.foldl (λcs (c,j)=>cs.setIfInBounds (off+j) c) a):=by
 induction h using pE.ind with
 |nil=>exact λh=>h
 |cons j d _ e=>exact λh=>e (h.set d _)
def CZ(a:Nat->Option (Nat×Nat)){ps d:List (Nat×U)}(g:hU ρ ps d):∀{cs b:Array U},bg ρ cs b->(X7 a cs ps=K/\X7 a b d=K)\/∃x f,X7 a cs ps=I x/\X7 a b d=I f/\bg ρ x f:=by
 induction g using hU.ind with
 |nil=>exact λc=>.inr ⟨_,_,rfl,rfl,c⟩
 |cons i h _ j=>
  intro cs b c;have e:=h.cells;simp only[X7];cases a i with
  |none=>exact .inl ⟨rfl,rfl⟩
  |some l=>
   obtain⟨k,m⟩:=l;simp only[e.1,c.1]
   split
   ·exact .inl ⟨rfl,rfl⟩
   ·refine j ?_;rw[<-Array.foldl_toList,<-Array.foldl_toList,Array.toList_zipIdx,Array.toList_zipIdx];exact Qd k (e.toList.zip 0) c
theorem Nf{α c:Type}(g:α->Wu c):∀(l:List α) {ρ:aU G},(∀ σ,ρ.le σ->∀x∈l,aq P P' (iW (α:=c)) σ (g x) (g x))->aq P P' (iW (α:=List c)) ρ (l.mapM g) (l.mapM g)
 | [],ρ,a=>by rw[List.mapM_nil];exact .aB Y
 |x::l,ρ,a=>by
  rw[List.mapM_cons];refine(a ρ (aU.le.refl _) x (by simp)).bindM (λσ e f h b=>?_);cases b;refine(Nf g l (λd i k j=>a d (h.trans i) k (by simp[j]))).bindM (λd e f _ b=>?_);cases b;exact .aB Y
def RB{α a:Type}(g:α->Wu a)(l:Array α)(h:∀ σ,ρ.le σ->∀x∈l.toList,aq P P' (iW (α:=a)) σ (g x) (g x)):aq P P' (iW (α:=Array a)) ρ (l.mapM g) (l.mapM g):=by
 rw[Array.mapM_eq_mapM_toList];exact aq.bind (A:=iW (α:=List a)) (Nf g l.toList h) (λσ c d _ b=>by cases b;exact .pure Y)
def PJ(L:Alike G P P')(t:Ug){ps n:Array (Nat×U)}(h:hU ρ ps.toList n.toList):aq P P' ay ρ (Instr.build t ps) (Instr.build t n):=by
 unfold Instr.build;refine(jK L.S t).bindM (λy C D r i=>?_);refine(aV L.S t).bindM (λp w B l u=>?_);obtain⟨rfl,-⟩:=u;have m:=h.mono (r.trans l);have i:=i.cells.mono l;cases w with
 |struct k=>
  have s:aq P P' (iW (α:=Array (Nat×Nat))) p (k.mapM λf=>do pure (f.offset,<-sizeOf f.type)) (k.mapM λf=>do pure (f.offset,<-sizeOf f.type)):=
   RB _ _ (λy _ o _=>(cY L.S _).bindM (λp c j _ e=>by cases e;exact .aB Y))
  refine s.bindM (λz c j g e=>?_);cases e;rcases CZ (c[·]?) (m.mono g) (i.mono g) with⟨a,b⟩|⟨o,x,a,b,d⟩
  ·rw[a,b];exact aq.stuck
  ·rw[a,b];exact .aB (.agg d.1 d.2)
 |array A q=>
  refine(cY L.S q).bindM (λz c j g e=>?_);cases e;rcases CZ (λv=>I (v*c,c)) (m.mono g) (i.mono g) with⟨a,b⟩|⟨o,x,a,b,d⟩
  ·rw[a,b];exact aq.stuck
  ·rw[a,b];exact .aB (.agg d.1 d.2)
 |_=>exact aq.stuck
def Cm(L:Alike G P P')(t:Ug)(n:Nat){ps m:Array (Nat×U)}(h:hU ρ ps.toList m.toList):aq P P' ay ρ (XO t n ps) (XO t n m):=by
 unfold XO;refine(aV L.S t).bindM (λq y A u x=>?_);obtain⟨rfl,-⟩:=x;cases y with
 |slice b=>
  refine(cY L.S b).bindM (λz a o v s=>?_);cases s;have w:=h.mono (u.trans v);dsimp only;have p:∀{f:aU G} {d e:Array U},z.le f->bg f d e->aq P P' ay f (match X7 (λc=>I (c*a,a)) ((Yp (n*a)).map (d[· % d.size]!)) ps.toList with|some g=>do pure (.slice (I (<-newRow b g)) n n)|_=>stuck "buildSlice: a part of the wrong size") (match X7 (λc=>I (c*a,a)) ((Yp (n*a)).map (e[· % e.size]!)) m.toList with|some g=>do pure (.slice (I (<-newRow b g)) n n)|_=>stuck "buildSlice: a part of the wrong size"):=by
   intro f d e k l;rcases CZ (λc=>I (c*a,a)) (w.mono k) (lW l (n*a)) with⟨i,j⟩|⟨B,C,i,j,r⟩
   ·rw[i,j];exact aq.stuck
   ·rw[i,j];exact(qg b r).bindM (λq a o _ h=>.aB (.sl h _ _))
  split
  ·exact aq.dz
  ·split
   ·exact p (aU.le.refl _) (bg.nil _)
   ·exact(jK L.S b).bindM (λq a o k l=>p k l.cells)
 |_=>exact aq.stuck
def wN(L:Alike G P P')(t:Ug){v a:U}(h:ay ρ v a):aq P P' ay ρ (Instr.makeInterface t v) (Instr.makeInterface t a):=by
 unfold Instr.makeInterface;refine(aV L.S t).bindM (λf d e b c=>?_);obtain⟨rfl,-⟩:=c
 split
 ·exact aq.stuck
 ·exact .aB (.iface t (h.mono b))
def Kb(L:Alike G P P')(t:Ug){o o':Option U}(h:ek ρ o o'):aq P P' ay ρ (Instr.makeMap t o) (Instr.makeMap t o'):=by
 unfold Instr.makeMap;have a:∀{g:aU G},aq P P' ay g (do pure (.map (I (<-newObj (.map #[] 0))))) (do pure (.map (I (<-newObj (.map #[] 0))))):=.new (.map Y (λn b=>by simp at b) 0) (λq r d=>.pure (.map (aU.xj _ _ _ d)));cases h using ek.ind with
 |none=>exact a
 |some h=>
  refine(aV L.S t).bindM (λi f s c e=>?_);obtain⟨rfl,-⟩:=e;cases f with
  |map p l=>exact(oE (h.mono c)).bindM (λi j k _ m=>a)
  |_=>exact aq.stuck
def PK(L:Alike G P P')(t:Ug){v a:U}(h:ay ρ v a)(i:Nat):aq P P' ay ρ (Instr.field t v i) (Instr.field t a i):=by
 unfold Instr.field;refine(aV L.S t).bindM (λl j k c d=>?_);obtain⟨rfl,-⟩:=d;cases j with
 |struct b=>
  dsimp only;cases b[i]? with
  |none=>exact aq.stuck
  |some f=>
   have h:=h.mono c;cases h using ay.ind with
   |agg e g=>exact lH L.S _ ⟨e,g⟩ _
   |_=>exact aq.stuck
 |_=>exact aq.stuck
def PN(L:Alike G P P')(t:Ug){v d i c:U}(h:ay ρ v d)(g:ay ρ i c):aq P P' ay ρ (Instr.index t v i) (Instr.index t d c):=by
 unfold Instr.index;refine(qQ g).bindM (λx b e j a=>?_);cases a;obtain⟨q,u⟩:=b;refine(aV L.S t).bindM (λy p w k m=>?_);obtain⟨rfl,-⟩:=m;have h:=h.mono (j.trans k);cases p with
 |array r f=>
  cases h using ay.ind with
  |agg n o=>
   dsimp only
   split
   ·exact(cY L.S f).bindM (λz b e l a=>by cases a;exact lH L.S _ (bg.mono l ⟨n,o⟩) _)
   ·exact od L.S _ _ _ _
  |_=>exact aq.stuck
 |string=>
  cases h using ay.ind with
  |string s=>
   dsimp only
   split
   ·exact .aB (.int _ _)
   ·exact od L.S _ _ _ _
  |_=>exact aq.stuck
 |_=>cases h using ay.ind<;>exact aq.stuck
def J7{v c:U}(h:ay ρ v c)(i:Nat):aq P P' ay ρ (Instr.extract v i) (Instr.extract c i):=by
 cases h using ay.ind with
 |tuple e f=>
  simp only[Instr.extract];rcases bg.get ⟨e,f⟩ i with⟨a,b⟩|⟨v,c,a,b,d⟩
  ·rw[a,b];exact aq.stuck
  ·rw[a,b];exact .aB d
 |_=>exact aq.stuck
def PS(a:UnOp){v b:U}(h:ay ρ v b):aq P P' ay ρ (Op.unary a v) (Op.unary a b):=by
 cases h using ay.ind<;>cases a<;>simp only[Op.unary,Op.intArith,Op.intBits]<;>first|exact aq.stuck|exact aq.dz|exact .aB (.int _ _)|exact .aB (.bool _)
end
end
section
variable {G:mi}
section
variable {P P':Ue}{ρ:aU G}
def rZ{a a' b b':UJ}(e:cM ρ a a')(f:cM ρ b b'):(a.block==b.block)=(a'.block==b'.block):=by
 rw[XF];simp only[beq_iff_eq];constructor
 ·intro c;have d:=e.1;rw[c,f.1] at d;exact(Yk d).symm
 ·intro c;exact ρ.inj _ _ _ e.1 (by rw[c];exact f.1)
def addr_eq{a a' b b':UJ}(f:cM ρ a a')(g:cM ρ b b'):(a==b)=(a'==b'):=by
 have c:=rZ f g;have d:=f.2;have e:=g.2;obtain⟨h,i,j⟩:=a;obtain⟨k,l,m⟩:=a';obtain⟨n,o,p⟩:=b;obtain⟨u1,u2,u3⟩:=b';simp only at c d e;obtain⟨rfl,rfl⟩:=d;obtain⟨rfl,rfl⟩:=e;rw[XF] at c ⊢;simp only[beq_iff_eq] at c;simp only[beq_iff_eq,Wh,c]
def qf{a a':UJ}(h:cM ρ a a'):aq P P' (iW (α:=Bool)) ρ (frozen a) (frozen a'):=.frozen h (λb=>.pure Y)
def oG{r r':Nat}(h:ρ.f r=I r'):aq P P' (iW (α:=Option (Ug×Nat))) ρ (shape r) (shape r'):=.shape h (λa=>.pure Y)
def vP{a a':UJ}(h:cM ρ a a'):aq P P' (iW (α:=Bool)) ρ (stringish a) (stringish a'):=by
 unfold stringish;refine(qf h).bindM (λi d f c b=>?_);cases b
 split
 ·exact .aB Y
 ·refine(oG (c _ _ h.1)).bindM (λj d f e b=>?_);cases b;cases d with
  |none=>exact .aB Y
  |some g=>exact qf ⟨e _ _ (c _ _ h.1),rfl,rfl⟩
def Gn{a a' b b':UJ}(h:cM ρ a a')(g:cM ρ b b'):aq P P' (iW (α:=Bool)) ρ (mayBeOne a b) (mayBeOne a' b'):=by
 unfold mayBeOne;have k:∀{f:aU G} {d l:UJ},cM f d l->aq P P' (iW (α:=Bool)) f (do pure ((<-shape d.block) matches I (_,0))) (do pure ((<-shape l.block) matches I (_,0))):=λn=>(oG n.1).bindM (λq d m _ c=>by cases c;exact .aB Y);refine(vP h).bindM (λf d m e c=>?_);cases c;refine(vP (g.mono e)).bindM (λq m s i c=>?_);cases c;refine(k (h.mono (e.trans i))).bindM (λr o p j c=>?_);cases c;refine(k (g.mono (e.trans (i.trans j)))).bindM (λr o p j c=>?_);cases c;exact .aB Y
def yU{a a' b b':UJ}(h:cM ρ a a')(d:cM ρ b b'):aq P P' (iW (α:=Bool)) ρ (sameAddr a b) (sameAddr a' b'):=by
 unfold sameAddr;rw[rZ h d,addr_eq h d]
 split
 ·exact .aB Y
 ·refine(qf h).bindM (λr p m e c=>?_);cases c;refine(qf (d.mono e)).bindM (λs m q f c=>?_);cases c
  split
  ·exact aq.dz
  ·refine(yS (h.mono (e.trans f))).bindM (λt j k g c=>?_);refine(yS (d.mono (e.trans (f.trans g)))).bindM (λu j k l c=>?_);have i:=e.trans (f.trans (g.trans l));refine(Gn (h.mono i) (d.mono i)).bindM (λv j k n c=>?_);cases c
   split
   ·exact qc _ (λo=>.aB Y)
   ·exact .aB Y
theorem tq{α a:Type}{f f':α->a->Wu (ForInStep a)}:∀(l:List α) {ρ:aU G} (b:a),(∀ σ,ρ.le σ->∀x∈l,∀b,aq P P' (iW (α:=ForInStep a)) σ (f x b) (f' x b))->aq P P' (iW (α:=a)) ρ (forIn l b f) (forIn l b f')
 | [],ρ,b,c=>by simp only[List.forIn_nil];exact .aB Y
 |x::l,ρ,b,c=>by
  simp only[List.forIn_cons];refine(c ρ (aU.le.refl _) x (by simp) b).bindM (λσ d m h g=>?_);cases g;cases d with
  |done b=>exact .aB Y
  |yield b=>exact tq l b (λk i d j e=>c k (h.trans i) d (by simp[j]) e)
def Gl{α a:Type}{f f':α->a->Wu (ForInStep a)}(l:Array α)(b:a)(h:∀ σ,ρ.le σ->∀x∈l.toList,∀b,aq P P' (iW (α:=ForInStep a)) σ (f x b) (f' x b)):aq P P' (iW (α:=a)) ρ (forIn l b f) (forIn l b f'):=by
 rw[<-Array.forIn_toList,<-Array.forIn_toList];exact tq _ _ h
def fH{α c γ a:Type}{B:aU G->γ->a->Prop}{u:Unsupported}{f:α->Wu γ}{f':c->Wu a}(b:pN (.unsupported u)=Z:=by rfl):aq P P' B ρ (unsupported u >>= f) (unsupported u >>= f'):=.halt (.same _ b)
def Kf(L:Alike G P P')(t:Ug):aq P P' (iW (α:=String)) ρ (typeStr t) (typeStr t):=by
 unfold typeStr;refine(fQ L.S t).bindM (λd b c _ a=>?_);obtain⟨rfl,-⟩:=a;dsimp only
 split
 ·exact aq.dz
 ·exact .aB Y
def yT{r r':Nat}(h:ρ.f r=I r'):aq P P' (λσ (x y:Option (UJ×Bool))=>(x=K/\y=K)\/∃a a' l,x=I (a,l)/\y=I (a',l)/\cM σ a a') ρ (numberAt r) (numberAt r'):=by
 unfold numberAt;refine(oG h).bindM (λσ a i e d=>?_);cases d
 split
 ·exact .aB (.inl ⟨rfl,rfl⟩)
 ·refine aq.bindM (A:=dJ) (.getObj (e _ _ h) (λf g b=>.pure b)) (λk f g j b=>?_);cases b using dJ.ind with
  |number c l=>exact .aB (.inr ⟨_,_,_,rfl,rfl,c⟩)
  |_=>exact .aB (.inl ⟨rfl,rfl⟩)
def jX{a a':UJ}(h:cM ρ a a'):aq P P' (λσ (x y:UJ×Bool)=>cM σ x.1 y.1/\x.2=y.2) ρ (WA a) (WA a'):=by
 unfold WA;refine(yT h.1).bindM (λσ x y d b=>?_);rcases b with⟨rfl,rfl⟩|⟨e,f,g,rfl,rfl,c⟩
 ·exact .aB ⟨h.mono d,rfl⟩
 ·exact .aB ⟨c,rfl⟩
theorem qR(L:Alike G P P'):∀(d:Nat) {ρ:aU G} (t:Ug) {x u y w:U},ay ρ x u->ay ρ y w->aq P P' (iW (α:=Bool)) ρ (Op.equalIn d t x y) (Op.equalIn d t u w)
 |0,ρ,t,x,u,y,w,c,a=>by unfold Op.equalIn;exact aq.dz
 |d+1,ρ,t,x,u,y,w,c,a=>by
  unfold Op.equalIn;refine(aV L.S t).bindM (λaa V au H I=>?_);obtain⟨rfl,I⟩:=I;have c:=c.mono H;have a:=a.mono H;cases V with
  |struct N=>
   cases c using ay.ind with
   |agg k o=>
    cases a using ay.ind with
    |agg B C=>
     dsimp only;refine .asks ?_;rw[L.IF]
     split
     ·exact fH
     ·refine aq.bindM (A:=iW) (Gl N _ (λp e f _ h=>?_)) (λp g h e b=>?_)
      ·split
       ·refine(lH L.S f.type (bg.mono e ⟨k,o⟩) _).bindM (λz v W q s=>?_);refine(lH L.S f.type (bg.mono (e.trans q) ⟨B,C⟩) _).bindM (λA X Z i D=>?_);refine(qR L d f.type (s.mono i) D).bindM (λab g h _ b=>?_);cases b
        split<;>exact .aB Y
       ·exact .aB Y
      ·cases b
       split<;>exact .aB Y
    |_=>exact aq.stuck
   |_=>cases a using ay.ind<;>exact aq.stuck
  |array ao j=>
   cases c using ay.ind with
   |agg k o=>
    cases a using ay.ind with
    |agg B C=>
     dsimp only;refine(cY L.S j).bindM (λp r T e b=>?_);cases b;rw[Vx,Vx];refine aq.bindM (A:=iW) (tq _ _ (λz q al _ h=>?_)) (λp g h e b=>?_)
     ·refine(lH L.S j (bg.mono (e.trans q) ⟨k,o⟩) _).bindM (λz v W i s=>?_);refine(lH L.S j (bg.mono (e.trans (q.trans i)) ⟨B,C⟩) _).bindM (λA X Z i D=>?_);refine(qR L d j (s.mono i) D).bindM (λab g h _ b=>?_);cases b
      split<;>exact .aB Y
     ·cases b
      split<;>exact .aB Y
    |_=>exact aq.stuck
   |_=>cases a using ay.ind<;>exact aq.stuck
  |interface ap=>
   cases c using ay.ind with
   |nilIface=>cases a using ay.ind<;>first|exact aq.stuck|exact .aB Y
   |iface F s=>
    cases a using ay.ind with
    |nilIface=>exact .aB Y
    |iface ar R=>
     dsimp only
     split
     ·exact .aB Y
     ·refine(fQ L.S F).bindM (λp g h e b=>?_);obtain⟨rfl,-⟩:=b
      split
      ·refine .asks ?_;refine .asks ?_;rw[L.M1,L.depth]
       split
       ·exact fH
       ·exact(Kf L F).bindM (λp g h _ b=>by cases b;exact eE L.S _ (by simp) (by simp) (by simp))
      ·exact qR L d F (s.mono e) (R.mono e)
    |_=>exact aq.stuck
   |_=>cases a using ay.ind<;>exact aq.stuck
  |pointer j=>
   cases c using ay.ind with
   |cZ=>cases a using ay.ind<;>first|exact aq.stuck|exact .aB Y
   |ptr l=>
    cases a using ay.ind with
    |cZ=>exact .aB Y
    |ptr n=>
     dsimp only;refine(cY L.S j).bindM (λp r T e b=>?_);cases b;rw[addr_eq l n]
     split
     ·exact yU (l.mono e) (n.mono e)
     ·split
      ·exact .aB Y
      ·exact qc _ (λr=>.aB Y)
    |_=>exact aq.stuck
   |_=>cases a using ay.ind<;>exact aq.stuck
  |unsafePointer=>
   cases c using ay.ind with
   |cZ=>cases a using ay.ind<;>first|exact aq.stuck|exact .aB Y
   |ptr l=>
    cases a using ay.ind with
    |cZ=>exact .aB Y
    |ptr n=>exact yU l n
    |_=>exact aq.stuck
   |_=>cases a using ay.ind<;>exact aq.stuck
  |chan ad j=>
   cases c using ay.ind with
   |iL=>cases a using ay.ind<;>first|exact aq.stuck|exact .aB Y
   |chan l=>
    cases a using ay.ind with
    |iL=>exact .aB Y
    |chan n=>
     refine .aB ?_;have:=rZ (ρ:=aa) (a:=⟨_,0,K⟩) (a':=⟨_,0,K⟩) (b:=⟨_,0,K⟩) (b':=⟨_,0,K⟩) ⟨l,rfl,rfl⟩ ⟨n,rfl,rfl⟩;simpa [iW] using this
    |_=>exact aq.stuck
   |_=>cases a using ay.ind<;>exact aq.stuck
  |int E=>
   cases c using ay.ind with
   |int S g=>
    rcases g with(_|r)|r
    all_goals
     cases a using ay.ind with
     |int am h=>
      rcases h with(_|m)|m
      all_goals
       dsimp only
       split
       ·exact .aB Y
       ·exact aq.stuck
     |ptr ae=>first|exact .aB Y|exact aq.dz
     |cZ=>exact aq.dz
     |_=>exact aq.stuck
   |cZ=>cases a using ay.ind<;>exact aq.dz
   |ptr l=>
    cases a using ay.ind with
    |ptr n=>
     dsimp only;refine(jX l).bindM (λp g h e b=>?_);refine(jX (n.mono e)).bindM (λz J M q O=>?_);have k:=b.1.mono q;have o:=O.1;refine .asks ?_;rw[rZ k o,L.ym,L.Ml];have Q:decide (g.1.block<G.g)=decide (h.1.block<G.g):=by
      rw[decide_eq_decide];exact z.OU _ _ k.1
     rw[Q]
     split
     ·refine(mN L k).bindM (λA x y i b=>?_);cases b;refine(mN L (o.mono i)).bindM (λA x y i b=>?_);cases b;exact .aB Y
     ·refine(fQ L.S t).bindM (λA x y i b=>?_);obtain⟨rfl,-⟩:=b;rw[addr_eq k o]
      (repeat' split)<;>first|exact aq.dz|exact .aB Y
    |int S g=>
     rcases g with(_|r)|r
     ·exact .aB Y
     ·exact aq.dz
     ·exact aq.dz
    |_=>exact aq.dz
   |_=>cases a using ay.ind<;>first|exact aq.stuck|exact aq.dz
  |slice j=>cases c using ay.ind<;>first|exact aq.stuck|(cases a using ay.ind<;>first|exact aq.stuck|exact .aB Y)
  |map E M=>cases c using ay.ind<;>first|exact aq.stuck|(cases a using ay.ind<;>first|exact aq.stuck|exact .aB Y)
  |func g h J=>cases c using ay.ind<;>first|exact aq.stuck|(cases a using ay.ind<;>first|exact aq.stuck|exact .aB Y)
  |bool=>cases c using ay.ind<;>first|exact aq.stuck|(cases a using ay.ind<;>first|exact aq.stuck|exact .aB Y)
  |string=>cases c using ay.ind<;>first|exact aq.stuck|(cases a using ay.ind<;>first|exact aq.stuck|exact .aB Y)
  |float E=>cases c using ay.ind<;>first|exact aq.stuck|(cases a<;>first|exact aq.stuck|(dsimp only;split<;>first|exact .aB Y|exact aq.stuck))
  |complex E=>cases c using ay.ind<;>first|exact aq.stuck|(cases a<;>first|exact aq.stuck|(dsimp only;split<;>first|exact .aB Y|exact aq.stuck))
  |_=>cases c using ay.ind<;>first|exact aq.stuck|(cases a<;>exact aq.stuck)
end
end
section
variable {G:mi}
section
variable {P P':Ue}{ρ:aU G}
def Cn(L:Alike G P P')(t:Ug){x a y b:U}(c:ay ρ x a)(d:ay ρ y b):aq P P' (iW (α:=Bool)) ρ (Op.equal t x y) (Op.equal t a b):=qR L _ t c d
theorem qd(L:Alike G P P'):∀(d:Nat) {ρ:aU G} (t:Ug) {x k y l:U},ay ρ x k->ay ρ y l->aq P P' (iW (α:=Bool)) ρ (Op.eqGuardIn d t x y) (Op.eqGuardIn d t k l)
 |0,ρ,t,x,k,y,l,e,b=>by unfold Op.eqGuardIn;exact aq.dz
 |d+1,ρ,t,x,k,y,l,e,b=>by
  unfold Op.eqGuardIn;refine(aV L.S t).bindM (λR C Q w z=>?_);obtain⟨rfl,z⟩:=z;have e:=e.mono w;have b:=b.mono w;cases C with
  |struct B=>
   cases e using ay.ind with
   |agg n o=>
    cases b using ay.ind with
    |agg p q=>
     dsimp only;refine aq.bindM (A:=iW) (Gl B _ (λu c f _ g=>?_)) (λu m g c a=>?_)
     ·split
      ·refine(lH L.S f.type (bg.mono c ⟨n,o⟩) _).bindM (λA v D j r=>?_);refine(lH L.S f.type (bg.mono (c.trans j) ⟨p,q⟩) _).bindM (λH E F h s=>?_);refine(qd L d f.type (r.mono h) s).bindM (λI m g _ a=>?_);cases a
       split<;>exact .aB Y
      ·exact .aB Y
     ·cases a
      split<;>exact .aB Y
    |_=>exact .aB Y
   |_=>cases b using ay.ind<;>exact .aB Y
  |array K i=>
   cases e using ay.ind with
   |agg n o=>
    cases b using ay.ind with
    |agg p q=>
     dsimp only;refine(cY L.S i).bindM (λu N O c a=>?_);cases a;rw[Vx,Vx];refine aq.bindM (A:=iW) (tq _ _ (λA j J _ g=>?_)) (λu m g c a=>?_)
     ·refine(lH L.S i (bg.mono (c.trans j) ⟨n,o⟩) _).bindM (λA v D h r=>?_);refine(lH L.S i (bg.mono (c.trans (j.trans h)) ⟨p,q⟩) _).bindM (λH E F h s=>?_);refine(qd L d i (r.mono h) s).bindM (λI m g _ a=>?_);cases a
      split<;>exact .aB Y
     ·cases a
      split<;>exact .aB Y
    |_=>exact .aB Y
   |_=>cases b using ay.ind<;>exact .aB Y
  |interface M=>cases e using ay.ind<;>first|exact .aB Y|(cases b using ay.ind<;>exact .aB Y)
  |_=>cases e using ay.ind<;>first|exact .aB Y|(cases b<;>exact .aB Y)
def J6(L:Alike G P P')(f:Yx)(t:Ug)(x y:U6){a a' b b':U}(e:ay ρ a a')(c:ay ρ b b'):aq P P' (iW (α:=Unit)) ρ (eqGuard f t x y a b) (eqGuard f t x y a' b'):=by
 have h:∀{d:aU G} {s:String} {a a' b b':U},ay d a a'->ay d b b'->aq P P' (iW (α:=Unit)) d (do if <-Op.eqGuardIn Op.maxDepth t a b then unsupported (.noEntry s)) (do if <-Op.eqGuardIn Op.maxDepth t a' b' then unsupported (.noEntry s)):=λe c=>
  (qd L _ t e c).bindM (λd a b _ n=>by
    cases n
    split
    ·exact aq.dz
    ·exact .aB Y)
 have i:aq P P' (iW (α:=Unit)) ρ (eqGuard .eql t x y a b) (eqGuard .eql t x y a' b'):=by
  unfold eqGuard;cases e using ay.ind with
  |nilIface=>
   cases c using ay.ind with
   |nilIface=>cases x<;>cases y<;>first|exact aq.aB (A:=iW (α:=Unit)) Y|exact h .nilIface .nilIface
   |_=>exact aq.aB (A:=iW (α:=Unit)) Y
  |agg j k=>
   cases c using ay.ind with
   |agg l m=>
    refine aq.asks (k:=λg=>_) (k':=λg=>_) ?_;refine aq.asks (k:=λg=>_) (k':=λg=>_) ?_;rw[L.SP,L.depth]
    split
    ·exact .aB Y
    ·exact h (.agg j k) (.agg l m)
   |_=>exact aq.aB (A:=iW (α:=Unit)) Y
  |_=>cases c using ay.ind<;>exact aq.aB (A:=iW (α:=Unit)) Y
 cases f<;>first|exact aq.aB (A:=iW (α:=Unit)) rfl|exact i
def ny(L:Alike G P P')(e:Array Ug)(t:Ug){x f:U}(k:Wx)(n:Int)(i:ay ρ x f):aq P P' ay ρ (Xn e t #[x,.int k n]) (Xn e t #[f,.int k n]):=by
 unfold Xn;cases i using ay.ind with
 |cZ=>
  dsimp only;refine(oE (.int k n)).bindM (λl g h c a=>?_);cases a
  split
  ·exact aq.dz
  ·split<;>exact aq.dz
 |ptr b=>
  dsimp only;refine(oE (.int k n)).bindM (λl g h c a=>?_);cases a
  split
  ·refine(Ep (c _ _ b.1)).bindM (λm x j d a=>?_);obtain⟨rfl,rfl⟩:=a;exact .aB (.ptr (b.mono (c.trans d)))
  ·split
   ·exact aq.dz
   ·refine(oG (c _ _ b.1)).bindM (λm x j d a=>?_);cases a;cases x with
    |none=>exact aq.dz
    |some o=>
     dsimp only;refine .asks ?_;rw[L.cells,L.cellAt,L.depth,<-b.2.1]
     split
     ·exact .aB (.ptr ⟨(c.trans d) _ _ b.1,rfl,b.2.2⟩)
     ·exact aq.dz
 |_=>exact aq.stuck
def jm(L:Alike G P P')(t:Ug){o o':Option UJ}(k:Wx)(n:Int)(d:ay ρ (.pointer o) (.pointer o')):aq P P' ay ρ (movedNumber t (.pointer o) (.int k n)) (movedNumber t (.pointer o') (.int k n)):=by
 unfold movedNumber;refine(aV L.S t).bindM (λj i y q h=>?_);obtain⟨rfl,h⟩:=h;have d:=d.mono q;cases d using ay.ind with
 |ptr m=>
  rename_i f l;have e:aq P P' ay j (WA f >>= λa=>Xn #[] t #[.pointer (I a.1),.int k n] >>= λc=>match c with| .pointer (I b)=>asNumber b a.2|v=>pure v) (WA l >>= λa=>Xn #[] t #[.pointer (I a.1),.int k n] >>= λc=>match c with| .pointer (I b)=>asNumber b a.2|v=>pure v):=by
   refine(jX m).bindM (λA f b u g=>?_);refine(ny L _ _ k n (.ptr g.1)).bindM (λB v z w s=>?_);rw[g.2];cases s using ay.ind with
   |ptr p=>exact .new (.number p _) (λc x r=>.pure (.ptr ⟨aU.xj _ _ _ r,rfl,rfl⟩))
   |_=>exact .aB (by first|exact .bool _|exact .int _ _|exact .string _|exact .cZ|exact .ptr ‹_› |exact .jU _ _|exact .sl ‹_› _ _|exact .kD|exact .map ‹_› |exact .iL|exact .chan ‹_› |exact .nilFunc|exact .nilIface|exact .iface _ ‹_› |exact .agg ‹_› ‹_› |exact .tuple ‹_› ‹_› |exact .func ‹_› ‹_› ‹_› ‹_› ‹_›)
  cases i<;>first|exact fH|exact e
 |cZ=>
  have e:=ny L (ρ:=j) #[] t k n .cZ;cases i<;>first|exact fH|exact e
def yR(L:Alike G P P')(t:Ug){o o':Option UJ}(k:Wx)(n:Int)(d:ay ρ (.pointer o) (.pointer o')):aq P P' ay ρ (movedPointer t (.pointer o) (.int k n)) (movedPointer t (.pointer o') (.int k n)):=by
 unfold movedPointer;cases d using ay.ind with
 |cZ=>exact ny L _ _ k n .cZ
 |ptr a=>
  refine(yT a.1).bindM (λl i j c b=>?_);rcases b with⟨rfl,rfl⟩|⟨e,f,h,rfl,rfl,g⟩
  ·exact ny L #[] t k n (.ptr (a.mono c))
  ·exact fH
def vQ(L:Alike G P P'){a a' b b':UJ}(c:cM ρ a a')(e:cM ρ b b'):aq P P' (iW (α:=Nat×Nat)) ρ (Op.twoPlaces a b) (Op.twoPlaces a' b'):=by
 unfold Op.twoPlaces;refine .asks ?_;have g:decide (a.block>=G.g)=decide (a'.block>=G.g):=by
  rw[decide_eq_decide];have:=ρ.OU _ _ c.1;omega
 have h:(a.block !=b.block)=(a'.block !=b'.block):=by
  have:=rZ c e;simp only[bne,this]
 rw[L.ym,L.Ml,h,g]
 split
 ·exact fH
 ·refine(mN L c).bindM (λk i j f d=>?_);cases d;refine(mN L (e.mono f)).bindM (λk i j f d=>?_);cases d;exact .aB Y
def A2(L:Alike G P P')(k:Wx){a a':UJ}(n:Int)(d:cM ρ a a'):aq P P' ay ρ (Op.addrMod k a n) (Op.addrMod k a' n):=by
 unfold Op.addrMod;refine(oG d.1).bindM (λh c f e b=>?_);cases b;cases c with
 |none=>exact aq.dz
 |some i=>
  refine(fQ L.S _).bindM (λj c f g b=>?_);obtain⟨rfl,-⟩:=b;dsimp only
  split
  ·exact fH
  ·refine(mN L (d.mono (e.trans g))).bindM (λh c f e b=>?_);cases b;exact .aB (.int _ _)
def Gm(c:Yx)(k:Wx)(a b:Int):aq P P' (ay (ρ:=·)) ρ (Op.intArith c k a b) (Op.intArith c k a b):=by
 cases c<;>first|exact .aB (.int _ _)|exact aq.stuck
def Ka(c:Yx)(k:Wx)(a b:Int):aq P P' (ay (ρ:=·)) ρ (Op.intBits c k a b) (Op.intBits c k a b):=by
 cases c<;>first|exact .aB (.int _ _)|exact aq.stuck
def Na(c:Yx)(a b:Int):aq P P' (ay (ρ:=·)) ρ (Op.intCmp c a b) (Op.intCmp c a b):=by
 cases c<;>first|exact .aB (.bool _)|exact aq.stuck
def Nb(L:Alike G P P')(c:Yx)(k:Wx)(a b:Int):aq P P' (ay (ρ:=·)) ρ (Op.intDiv c k a b) (Op.intDiv c k a b):=by
 unfold Op.intDiv
 split
 ·exact eE L.S _ (by simp) (by simp) (by simp)
 ·cases c<;>first|exact .aB (.int _ _)|exact aq.stuck
def PO(L:Alike G P P')(c:Yx)(k:Wx)(a:Int)(d:Wx)(b:Int):aq P P' (ay (ρ:=·)) ρ (Op.shift c k a d b) (Op.shift c k a d b):=by
 unfold Op.shift
 split
 ·exact eE L.S _ (by simp) (by simp) (by simp)
 ·cases c<;>first|exact .aB (.int _ _)|exact aq.stuck
def Gr(c:Yx)(a b:ByteArray):aq P P' (ay (ρ:=·)) ρ (Op.stringOp c a b) (Op.stringOp c a b):=by
 cases c
 all_goals
  unfold Op.stringOp;dsimp only
  first
  |exact .aB (.bool _)
  |exact aq.stuck
  |(split
    ·exact aq.dz
    ·exact .aB (.string _))
def RA(L:Alike G P P')(c:Yx)(t:Ug)(k:Wx)(a:Int)(d:Wx)(b:Int):aq P P' (ay (ρ:=·)) ρ (binOp c t (.int k a) (.int d b)) (binOp c t (.int k a) (.int d b)):=by
 cases c
 all_goals
  unfold binOp;dsimp only
  first
  |exact PO L _ _ _ _ _
  |(split
    ·exact aq.stuck
    ·first|exact Gm _ _ _ _|exact Nb L _ _ _ _|exact Ka _ _ _ _|exact Na _ _ _)
def PI(L:Alike G P P')(c:Yx)(t:Ug){x l y m:U}(p:ay ρ x l)(k:ay ρ y m):aq P P' ay ρ (binOp c t x y) (binOp c t l m):=by
 have f:∀{x l y m:U},ay ρ x l->ay ρ y m->aq P P' ay ρ (do pure (.bool (<-Op.equal t x y))) (do pure (.bool (<-Op.equal t l m))):=λp k=>(Cn L t p k).bindM (λq h i _ j=>by cases j;exact .aB (.bool _));have g:∀{x l y m:U},ay ρ x l->ay ρ y m->aq P P' ay ρ (do pure (.bool (!(<-Op.equal t x y)))) (do pure (.bool (!(<-Op.equal t l m)))):=λp k=>(Cn L t p k).bindM (λq h i _ j=>by cases j;exact .aB (.bool _));have a:=p;have b:=k;have B:∀{w z:Option UJ} (d:Wx) (o:Int),ay ρ (.pointer w) (.pointer z)->aq P P' ay ρ (do if (<-Xq t) matches .unsafePointer then movedPointer t (.pointer w) (.int d o) else movedNumber t (.pointer w) (.int d o)) (do if (<-Xq t) matches .unsafePointer then movedPointer t (.pointer z) (.int d o) else movedNumber t (.pointer z) (.int d o)):=λd o e=>by
  refine(aV L.S t).bindM (λq K O n H=>?_);obtain⟨rfl,-⟩:=H;have e:=e.mono n;cases K<;>first|exact yR L t d o e|exact jm L t d o e
 cases p using ay.ind with
 |int d h=>
  cases k using ay.ind with
  |int I i=>exact RA L c t d h I i
  |ptr e=>
   cases c<;>first
    |exact f (.int d h) (.ptr e)
    |exact g (.int d h) (.ptr e)
    |exact jm L t d h (.ptr e)
    |exact(jX e).bindM (λq h i n j=>A2 L _ _ j.1)
    |exact aq.dz
  |cZ=>
   cases c<;>first
    |exact f (.int d h) .cZ
    |exact g (.int d h) .cZ
    |exact jm L t d h .cZ
    |exact aq.dz
  |_=>cases c<;>first|exact f a b|exact g a b|exact aq.stuck
 |string s=>
  cases k using ay.ind with
  |string J=>cases c<;>(unfold binOp;exact Gr _ s J)
  |ptr e=>cases c<;>first|exact f a b|exact g a b|exact aq.dz
  |cZ=>cases c<;>first|exact f a b|exact g a b|exact aq.dz
  |_=>cases c<;>first|exact f a b|exact g a b|exact aq.stuck
 |ptr e=>
  cases k using ay.ind with
  |int d i=>
   cases c<;>first
    |exact f a b
    |exact g a b
    |exact B d i a
    |exact jm L t d (-i) a
    |exact(jX e).bindM (λq h i n j=>A2 L _ _ j.1)
    |exact aq.dz
  |ptr A=>
   have F:aq P P' ay ρ (do Op.addrSub .u64 (<-WA _).1 (<-WA _).1) (do Op.addrSub .u64 (<-WA _).1 (<-WA _).1):=
    (jX e).bindM (λq h i n j=>(jX (A.mono n)).bindM (λM C D u r=>(vQ L (j.1.mono u) r.1).bindM (λN x y _ v=>by cases v;exact .aB (.int _ _))))
   have E:∀c,aq P P' ay ρ (do Op.addrCmp c (<-WA _).1 (<-WA _).1) (do Op.addrCmp c (<-WA _).1 (<-WA _).1):=λc=>
    (jX e).bindM (λq h i n j=>(jX (A.mono n)).bindM (λM C D u r=>(vQ L (j.1.mono u) r.1).bindM (λN x y _ v=>by cases v;cases c<;>first|exact .aB (.bool _)|exact aq.dz)))
   cases c<;>first
    |exact f a b
    |exact g a b
    |exact F
    |exact E _
    |exact aq.dz
  |_=>cases c<;>first|exact f a b|exact g a b|exact aq.dz
 |cZ=>
  cases k using ay.ind with
  |int d i=>
   cases c<;>first
    |exact f a b
    |exact g a b
    |exact B d i a
    |exact jm L t d (-i) a
    |exact aq.dz
  |_=>cases c<;>first|exact f a b|exact g a b|exact aq.dz
 |_=>
  cases k using ay.ind with
  |ptr e=>cases c<;>first|exact f a b|exact g a b|exact aq.dz
  |cZ=>cases c<;>first|exact f a b|exact g a b|exact aq.dz
  |_=>cases c<;>first|exact f a b|exact g a b|exact aq.stuck
end
end
section
variable {G:mi}
def fC (ρ:aU G)(f:List VP)(g:List VP):Prop:=∀a:List VP->List VP->Prop,(a [] [])->(∀{b c:VP} {d e:List VP} (h:sF ρ b c) (i:a d e),a (b::d) (c::e))->a f g
def fC.nil{ρ:aU G}:fC ρ [] []:=λb a c=>a
def fC.cons{ρ:aU G}{e e':VP}{l b:List VP}(h:sF ρ e e')(f:fC ρ l b):fC ρ (e::l) (e'::b):=λc d a=>a h (f c d a)
def fC.ind{ρ:aU G}{d:∀(a:List VP) (b:List VP),fC ρ a b->Prop}(nil:d _ _ (fC.nil))(cons:∀{e e':VP} {l f:List VP} (h:sF ρ e e') (c:fC ρ l f),(d _ _ c)->d _ _ (fC.cons h c)){a:List VP}{b:List VP}(h:fC ρ a b):d a b h:=(h (λa b=>fC ρ a b/\∀h,d a b h) (⟨fC.nil,λ_=>nil⟩) (λh c=>⟨fC.cons h c.1,λ_=>cons h c.1 (c.2 _)⟩)).2 h
def fC.mono{ρ σ:aU G}(b:ρ.le σ){l a:List VP}(h:fC ρ l a):fC σ l a:=by
 induction h using fC.ind with
 |nil=>exact .nil
 |cons h _ c=>exact .cons (h.mono b) c
theorem DM{ρ:aU G}:∀(l a:List VP),l.length=a.length->(∀i (h:i<l.length) (e:i<a.length),sF ρ l[i] a[i])->fC ρ l a
 | [],[],_,_=>.nil
 | [],_::_,h,_=>by simp at h
 |_::_,[],h,_=>by simp at h
 |v::l,f::a,h,b=>.cons (b 0 (by simp) (by simp)) (DM l a (by simpa using h) (λi c d=>b (i+1) (by simpa using c) (by simpa using d)))
def nQ (ρ:aU G)(es b:Array VP):Prop:=es.size=b.size/\∀a (c:a<es.size) (d:a<b.size),sF ρ es[a] b[a]
def nQ.mono{ρ σ:aU G}(d:ρ.le σ){l a:Array VP}(h:nQ ρ l a):nQ σ l a:=⟨h.1,λe b c=>(h.2 e b c).mono d⟩
def nQ.toList{ρ:aU G}{es a:Array VP}(h:nQ ρ es a):fC ρ es.toList a.toList:=
 DM _ _ (by simpa using h.1) (λd b c=>by simpa using h.2 d (by simpa using b) (by simpa using c))
def plainKey(P:Ue):Nat->Ug->Bool
 |0,_=>Z
 |d+1,c=>match P.underlying c with
  |some (.interface _)=>T5
  |some (.array _ a)=>plainKey P d a
  |some (.struct b)=>b.toList.all λf=>plainKey P d f.type
  |_=>Z
section
variable {P P':Ue}{ρ:aU G}
theorem oF(L:Alike G P P')(j k:Bool):∀(d:Nat) {ρ:aU G} (t:Ug) {v c:U},plainKey P d t=Z->ay ρ v c->aq P P' (iW (α:=Unit)) ρ (XT j d t v) (XT k d t c)
 |0,ρ,t,v,c,a,b=>by unfold XT;exact aq.dz
 |d+1,ρ,t,v,c,a,b=>by
  unfold XT;refine(aV L.S t).bindM (λJ z I y o=>?_);obtain⟨rfl,o⟩:=o;have b:=b.mono y;unfold plainKey at a;rw[o] at a;cases z with
  |interface E=>simp at a
  |struct u=>
   cases b using ay.ind with
   |agg l m=>
    dsimp only;refine aq.bindM (A:=iW) (Gl u _ (λq g f w e=>?_)) (λq h e g n=>.aB Y);have x:plainKey P d f.type=Z:=by
     simp only at a;exact Uy.1 a f w
    split
    ·refine(lH L.S f.type (bg.mono g ⟨l,m⟩) _).bindM (λA v c r p=>?_);exact(oF L j k d f.type x p).bindM (λs h e _ _=>.aB Y)
    ·exact .aB Y
   |_=>exact aq.stuck
  |array D i=>
   cases b using ay.ind with
   |agg l m=>
    dsimp only;rw[Vx,Vx];refine aq.bindM (A:=iW) (tq _ _ (λq g C _ e=>?_)) (λq h e g n=>.aB Y);refine(cY L.S i).bindM (λA F H r n=>?_);cases n;refine(lH L.S i (bg.mono (g.trans r) ⟨l,m⟩) _).bindM (λs v c B p=>?_);exact(oF L j k d i (by simpa using a) p).bindM (λs h e _ _=>.aB Y)
   |_=>exact aq.stuck
  |_=>cases b using ay.ind<;>exact .aB Y
def kS (ρ:aU G)(d:Option (Nat×U))(e:Option (Nat×U)):Prop:=∀a:Option (Nat×U)->Option (Nat×U)->Prop,(a K K)->(∀(b:Nat) {v c:U} (f:ay ρ v c),a (I (b,v)) (I (b,c)))->a d e
def kS.none{ρ:aU G}:kS ρ K K:=λb a c=>a
def kS.some{ρ:aU G}(i:Nat){v a:U}(h:ay ρ v a):kS ρ (I (i,v)) (I (i,a)):=λc d b=>b i h
def kS.ind{ρ:aU G}{c:∀(a:Option (Nat×U)) (b:Option (Nat×U)),kS ρ a b->Prop}(none:c _ _ (kS.none))(some:∀(i:Nat) {v d:U} (h:ay ρ v d),c _ _ (kS.some i h)){a:Option (Nat×U)}{b:Option (Nat×U)}(h:kS ρ a b):c a b h:=(h (λa b=>kS ρ a b/\∀h,c a b h) (⟨kS.none,λ_=>none⟩) (λi {v} {d} h=>⟨kS.some i h,λ_=>some i h⟩)).2 h
theorem tj(L:Alike G P P')(t:Ug):∀(es c:List VP) {ρ:aU G} {k k':U} (i:Nat),ay ρ k k'->fC ρ es c->aq P P' kS ρ (Instr.findAsking t k es i) (Instr.findAsking t k' c i)
 | [],[],ρ,k,k',i,b,a=>.aB .none
 | [],_::_,ρ,k,k',i,b,a=>by cases a using fC.ind
 |_::_,[],ρ,k,k',i,b,a=>by cases a using fC.ind
 |e::es,m::c,ρ,k,k',i,b,a=>by
  cases a using fC.ind with
  |cons f h=>
   unfold Instr.findAsking;refine(Cn L t b f.key).bindM (λn j l d g=>?_);cases g
   split
   ·exact .aB (.some _ (f.val.mono d))
   ·exact tj L t es c _ (b.mono d) (h.mono d)
def Ns(d:TypeDesc){x a y b:U}(c:ay ρ x a)(e:ay ρ y b):Instr.sameNow d x y=Instr.sameNow d a b:=by
 cases c using ay.ind<;>cases e using ay.ind<;>first|rfl|(cases d<;>rfl)
theorem DR(d:TypeDesc){k k':U}(f:ay ρ k k'):∀(es b:List VP) (i:Nat),fC ρ es b->(Instr.findNow d k es i=K/\Instr.findNow d k' b i=K)\/∃x g,Instr.findNow d k es i=I x/\Instr.findNow d k' b i=I g/\kS ρ x g
 | [],[],i,a=>.inr ⟨_,_,rfl,rfl,.none⟩
 | [],_::_,i,a=>by cases a using fC.ind
 |_::_,[],i,a=>by cases a using fC.ind
 |e::es,j::b,i,a=>by
  cases a using fC.ind with
  |cons c h=>
   unfold Instr.findNow;rw[Ns d f c.key]
   split
   ·exact .inr ⟨_,_,rfl,rfl,.some _ c.val⟩
   ·exact DR d f es b (i+1) h
   ·exact .inl ⟨rfl,rfl⟩
def A4(L:Alike G P P')(t:Ug){k k':U}{es a:List VP}(e:ay ρ k k')(h:fC ρ es a):aq P P' kS ρ (Ym t k es) (Ym t k' a):=by
 unfold Ym;refine(aV L.S t).bindM (λn i j b g=>?_);obtain⟨rfl,-⟩:=g;rcases DR i (e.mono b) es a 0 (h.mono b) with⟨c,d⟩|⟨l,m,c,d,f⟩
 ·rw[c,d];exact tj L t es a 0 (e.mono b) (h.mono b)
 ·rw[c,d];exact .aB f
def Nd(L:Alike G P P')(t:Ug){x z k k':U}(ok:Bool)(C:∀a b,P.underlying t=I (.map a b)->plainKey P 10000 a=Z)(s:ay ρ x z)(h:ay ρ k k'):aq P P' ay ρ (Instr.lookup t x k ok) (Instr.lookup t z k' ok):=by
 unfold Instr.lookup;refine(aV L.S t).bindM (λR K Q p r=>?_);obtain⟨rfl,r⟩:=r;cases K with
 |map e n=>
  have u:∀{d:aU G} {f g:Array VP},ρ.le d->nQ d f g->aq P P' ay d (do
   XT f.isEmpty 10000 e k
   let (v,c) <-match <-Ym e k f.toList with
    |some (_,v)=>pure (v,Z)
    |none=>pure (<-Wn n,T5)
   pure (if ok then .tuple #[v,.bool c] else v)) (do
   XT g.isEmpty 10000 e k'
   let (v,c) <-match <-Ym e k' g.toList with
    |some (_,v)=>pure (v,Z)
    |none=>pure (<-Wn n,T5)
   pure (if ok then .tuple #[v,.bool c] else v)):=by
   intro d f g y B;have w:∀{d:aU G} {v m:U} (c:Bool),ay d v m->ay d (if ok then .tuple #[v,.bool c] else v) (if ok then .tuple #[m,.bool c] else m):=by
    intro d v m c j;cases ok
    ·exact j
    ·exact .tuple Y (λl o N=>by
      have:l=0\/l=1:=by simp at o;omega
      rcases this with rfl|rfl
      ·exact j
      ·exact .bool _)
   refine(oF L _ _ _ e (C _ _ r) (h.mono y)).bindM (λS a b i _=>?_);refine(A4 L e (h.mono (y.trans i)) (B.mono i).toList).bindM (λT a b O A=>?_);cases A using kS.ind with
   |none=>exact(jK L.S n).bindM (λV a b _ H=>.aB (w _ H))
   |some l j=>exact .aB (w _ j)
  have s:=s.mono p;cases s using ay.ind with
  |kD=>exact u p ⟨rfl,λl o=>by simp at o⟩
  |map E=>
   refine aq.bindM (A:=dJ) (.getObj E (λc J q=>.pure q)) (λd c J i q=>?_);cases q using dJ.ind with
   |map F D M=>exact u (p.trans i) ⟨F,D⟩
   |_=>exact aq.stuck
  |_=>exact aq.stuck
 |_=>exact aq.stuck
def Qk(f:U->U->Bool){l c:List U}(h:iZ ρ l c):∀{m m':List U},iZ ρ m m'->(∀x d y e,ay ρ x d->ay ρ y e->f x y=f d e)->((l.zip m).all fun(x,y)=>f x y)=((c.zip m').all fun(x,y)=>f x y):=by
 induction h using iZ.ind with
 |nil=>intro m m' _ _;simp
 |cons g _ j=>
  intro m m' a b;cases a using iZ.ind with
  |nil=>simp
  |cons i a=>
   simp only[List.zip_cons_cons,List.all_cons];rw[b _ _ _ _ g i,j a b]
def MW{a a' b b':Nat}(c:ρ.f a=I a')(d:ρ.f b=I b'):(a==b)=(a'==b'):=by
 have:=rZ (ρ:=ρ) (a:=⟨a,0,K⟩) (a':=⟨a',0,K⟩) (b:=⟨b,0,K⟩) (b':=⟨b',0,K⟩) ⟨c,rfl,rfl⟩ ⟨d,rfl,rfl⟩;simpa using this
theorem uP:∀(n:Nat) {x c y d:U},ay ρ x c->ay ρ y d->Xz n x y=Xz n c d
 |0,x,c,y,d,e,f=>by
  cases e using ay.ind<;>cases f using ay.ind<;>first
   |rfl
   |(rename_i a _ _ b;simp only[Xz];have:=addr_eq a b;simpa using this)
   |(rename_i a _ _ b;simp only[Xz];have:=MW a b;simpa using this)
 |n+1,x,c,y,d,e,f=>by
  cases e using ay.ind<;>cases f using ay.ind<;>first
   |rfl
   |(rename_i a _ _ b;simp only[Xz];have:=addr_eq a b;simpa using this)
   |(rename_i a _ _ b;simp only[Xz];have:=MW a b;simpa using this)
   |(rename_i a _ _ _ b _ _;simp only[Xz];rw[uP n a b])
   |(rename_i a b _ _ g h _ _;simp only[Xz,a,g];rw[Qk (Xz n) (bg.toList ⟨a,b⟩) (bg.toList ⟨g,h⟩) (λ_ _ _ _ i j=>uP n i j)])
end
end
section
variable {G:mi}
section
variable {P P':Ue}{ρ:aU G}
def nQ.push{es a:Array VP}(h:nQ ρ es a){e e':VP}(b:sF ρ e e'):nQ ρ (es.push e) (a.push e'):=by
 refine⟨by simp[h.1],λc d f=>?_⟩;simp only[Array.getElem_push];have:=h.1
 split
 ·rw[dif_pos (by omega)];exact h.2 c _ _
 ·rw[dif_neg (by omega)];exact b
def nQ.modify{es a:Array VP}(h:nQ ρ es a)(i:Nat){f f':VP->VP}(c:∀e e',sF ρ e e'->sF ρ (f e) (f' e')):nQ ρ (es.modify i f) (a.modify i f'):=by
 refine⟨by simp[h.1],λb d g=>?_⟩;simp only[Array.getElem_modify]
 split
 ·exact c _ _ (h.2 b _ _)
 ·exact h.2 b _ _
def yQ{a a' b b':U}(d:ay ρ a a')(c:ay ρ b b'):aq P P' ay ρ (Instr.keyThatStays a b) (Instr.keyThatStays a' b'):=by
 unfold Instr.keyThatStays;rw[uP _ d c]
 split
 ·exact .aB c
 ·refine qc _ (λe=>.aB ?_)
  split
  ·exact c
  ·exact d
def vN(L:Alike G P P')(t:Ug){m m' k k' v j:U}(M:∀a b,P.underlying t=I (.map a b)->plainKey P 10000 a=Z)(q:ay ρ m m')(d:ay ρ k k')(C:ay ρ v j):aq P P' (iW (α:=Unit)) ρ (Instr.mapUpdate t m k v) (Instr.mapUpdate t m' k' j):=by
 unfold Instr.mapUpdate;refine(aV L.S t).bindM (λad R ab y s=>?_);obtain⟨rfl,s⟩:=s;cases R with
 |map E aa=>
  have q:=q.mono y;cases q using ay.ind with
  |kD=>exact eE L.S _ (by simp) (by simp) (by simp)
  |map A=>
   refine aq.bindM (A:=dJ) (.getObj A (λO Q r=>.pure r)) (λV O Q z r=>?_);cases r using dJ.ind with
   |map N J u=>
    rename_i l w;have x:nQ V l w:=⟨N,J⟩;have p:=y.trans z;refine(oF L _ _ _ E (M _ _ s) (d.mono p)).bindM (λae _ _ e _=>?_);refine(A4 L E (d.mono (p.trans e)) (x.mono e).toList).bindM (λW a b n H=>?_);have c:=x.mono (e.trans n);have f:=p.trans (e.trans n);have B:=(z.trans (e.trans n)) _ _ A;cases H using kS.ind with
    |none=>
     have:=c.push (e:=⟨k,v,u⟩) (e':=⟨k',j,u⟩) ⟨d.mono f,C.mono f,rfl⟩;exact .setObj B (.map this.1 this.2 _) (.pure Y)
    |some g D=>
     have K:ay W ((l[g]?.map (·.key)).getD k) ((w[g]?.map (·.key)).getD k'):=by
      by_cases i:g<l.size
      ·rw[UU i,UU (by rw[<-c.1];exact i)];exact(c.2 g i (by rw[<-c.1];exact i)).key
      ·rw[Vl (by omega),Vl (by have:=c.1;omega)];exact d.mono f
     refine(yQ K (d.mono f)).bindM (λal S T o D=>?_);have:=(c.mono o).modify g (f:=λh=>{h with key:=S,val:=v}) (f':=λh=>{h with key:=T,val:=j}) (λh X F=>⟨D,C.mono (f.trans o),F.born⟩);exact .setObj (o _ _ B) (.map this.1 this.2 _) (.pure Y)
   |_=>exact aq.stuck
  |_=>exact aq.stuck
 |_=>exact aq.stuck
def Cp{v a:U}(h:ay ρ v a):aq P P' (iW (α:=Nat)) ρ (Yl v) (Yl a):=by
 cases h using ay.ind<;>first|exact .aB rfl|exact aq.stuck
def N6(s:ByteArray):bg ρ (s.data.map λb=>.int .u8 b.toNat) (s.data.map λb=>.int .u8 b.toNat):=
 ⟨rfl,λd a c=>by simp only[Array.getElem_map];exact .int _ _⟩
def jY(a n:Nat){v b:U}(h:ay ρ v b):aq P P' bg ρ (Xl a n v) (Xl a n b):=by
 cases h using ay.ind with
 |sl d m c=>exact vM _ d
 |jU m c=>exact .aB (bg.nil _)
 |string s=>exact .aB (N6 _)
 |_=>exact aq.stuck
def SE(L:Alike G P P')(j:Array Ug)(t:Ug){vs m:Array U}(h:bg ρ vs m):aq P P' ay ρ (Builtin.len_ j t vs) (Builtin.len_ j t m):=by
 unfold Builtin.len_;cases j[0]? with
 |none=>rcases h.get 0 with⟨b,c⟩|⟨v,A,b,c,d⟩<;>(rw[b,c];exact aq.stuck)
 |some y=>
  rcases h.get 0 with⟨b,c⟩|⟨v,A,b,c,d⟩
  ·rw[b,c];exact aq.stuck
  ·rw[b,c];dsimp only;refine(aV L.S y).bindM (λB k z l e=>?_);obtain⟨rfl,e⟩:=e;have d:=d.mono l;cases k with
   |pointer o=>
    refine(aV L.S o).bindM (λB k z l e=>?_);obtain⟨rfl,e⟩:=e;cases k<;>first|exact .aB (.int _ _)|exact aq.stuck
   |array x D=>exact .aB (.int _ _)
   |map n p=>
    cases d using ay.ind with
    |map f=>
     refine aq.bindM (A:=dJ) (.getObj f (λg i a=>.pure a)) (λC g i u a=>?_);cases a using dJ.ind with
     |map w E q=>dsimp only;rw[w];exact .aB (.int _ _)
     |_=>exact aq.stuck
    |kD=>exact .aB (.int _ _)
    |_=>exact aq.stuck
   |chan n p=>
    cases d using ay.ind with
    |chan f=>
     refine aq.bindM (A:=dJ) (.getObj f (λg i a=>.pure a)) (λC g i u a=>?_);cases a using dJ.ind with
     |chan x r q s F H=>dsimp only;rw[r.1];exact .aB (.int _ _)
     |_=>exact aq.stuck
    |iL=>exact .aB (.int _ _)
    |_=>exact aq.stuck
   |_=>cases d using ay.ind<;>first|exact .aB (.int _ _)|exact aq.stuck
def Ry(L:Alike G P P')(n:Array Ug)(t:Ug){vs q:Array U}(h:bg ρ vs q):aq P P' ay ρ (Builtin.copy_ n t vs) (Builtin.copy_ n t q):=by
 unfold Builtin.copy_;cases n[0]? with
 |none=>exact aq.stuck
 |some x=>
  rcases h.get 0 with⟨k,l⟩|⟨v,D,k,l,m⟩
  ·rw[k,l];exact aq.stuck
  ·rw[k,l];rcases h.get 1 with⟨i,j⟩|⟨E,F,i,j,e⟩
   ·rw[i,j];exact aq.stuck
   ·rw[i,j];dsimp only;refine(aV L.S x).bindM (λH y C d p=>?_);obtain⟨rfl,p⟩:=p;cases y with
    |slice o=>
     have m:=m.mono d;cases m using ay.ind with
     |jU w r=>
      refine(Cp (e.mono d)).bindM (λz b c f a=>?_);cases a;refine(cY L.S o).bindM (λA b c g a=>?_);cases a;exact(jY _ _ (e.mono (d.trans (f.trans g)))).bindM (λB b c _ _=>.aB (.int _ _))
     |sl s w r=>
      refine(Cp (e.mono d)).bindM (λz b c f a=>?_);cases a;refine(cY L.S o).bindM (λA b c g a=>?_);cases a;refine(jY _ _ (e.mono (d.trans (f.trans g)))).bindM (λB b c u a=>?_);exact(jZ _ _ 0 (s.mono (f.trans (g.trans u))) a.toList).bindM (λI b c _ _=>.aB (.int _ _))
     |_=>exact aq.stuck
    |_=>exact aq.stuck
def tv{a a':UJ}(n:Nat)(h:cM ρ a a'):aq P P' (iW (α:=Bool)) ρ (Xm a n) (Xm a' n):=by
 unfold Xm;refine(oG h.1).bindM (λf d e c b=>?_);cases b;rw[h.2.1,h.2.2]
 split<;>exact .aB Y
def fS (ρ:aU G)(d:Option UJ)(e:Option UJ):Prop:=∀a:Option UJ->Option UJ->Prop,(a K K)->(∀{b c:UJ} (f:cM ρ b c),a (I b) (I c))->a d e
def fS.none{ρ:aU G}:fS ρ K K:=λb a c=>a
def fS.some{ρ:aU G}{a a':UJ}(h:cM ρ a a'):fS ρ (I a) (I a'):=λc d b=>b h
def fS.ind{ρ:aU G}{d:∀(b:Option UJ) (c:Option UJ),fS ρ b c->Prop}(none:d _ _ (fS.none))(some:∀{a a':UJ} (h:cM ρ a a'),d _ _ (fS.some h)){b:Option UJ}{c:Option UJ}(h:fS ρ b c):d b c h:=(h (λb c=>fS ρ b c/\∀h,d b c h) (⟨fS.none,λ_=>none⟩) (λh=>⟨fS.some h,λ_=>some h⟩)).2 h
def vO(k:Nat){o o':Option UJ}(g:fS ρ o o'):∀{σ:aU G} {x a:U},ρ.le σ->ay σ x a->aq P P' (iW (α:=Bool)) σ (match x with| .slice (I b) _ _=>do pure (!(<-Xm b k)||o.any (·.block==b.block))|_=>pure T5) (match a with| .slice (I b) _ _=>do pure (!(<-Xm b k)||o'.any (·.block==b.block))|_=>pure T5):=by
 intro σ x a f h;cases h using ay.ind with
 |sl c m i=>
  refine(tv _ c).bindM (λn x l j e=>?_);cases e;cases g using fS.ind with
  |none=>exact .aB Y
  |some d=>
   refine .aB ?_;simp only[Option.any_some,rZ (d.mono f) c];rfl
 |_=>exact .aB Y
def Gp(h sl n:Nat){o o':Option UJ}{x i:U}(e:fS ρ o o')(g:ay ρ x i):aq P P' (iW (α:=Bool)) ρ (Yb h sl n o x) (Yb h sl n o' i):=by
 unfold Yb;have f:=e;cases e using fS.ind with
 |none=>exact vO _ f (aU.le.refl _) g
 |some c=>
  refine(tv _ c).bindM (λp j l b a=>?_);cases a;refine(qf ((c.mono b).add _)).bindM (λq k m d a=>?_);cases a;cases j<;>cases k<;>first|exact aq.aB (A:=iW (α:=Bool)) rfl|exact vO _ f (b.trans d) (g.mono (b.trans d))
def N7{z a:Array U}(h:bg ρ z a)(n:Nat):bg ρ (Builtin.zeroCells z n) (Builtin.zeroCells a n):=by
 unfold Builtin.zeroCells;rw[<-h.1];have:=lW h (n*z.size);rw[<-h.1] at this;exact this
end
end
section
variable {G:mi}
section
variable {P P':Ue}{ρ:aU G}
def yq (a:Ug)(d m n c:Nat)(o:Option UJ)(x:U):Wu U:=do
 let b <-choose (Question.appendCap (m+n) c a);let f <-XC a
 askRoom (b*f.bytes)
 let h <-Xl d m (Vg o m c);let g <-Xl d n x;let i <-Wn a;let e <-newRow a (h++g++Builtin.zeroCells i.cells (b-(m+n)))
 pure (Vg (I e) (m+n) b)
def yp (a:Ug)(b m n c:Nat)(o:Option UJ)(x:U):Wu U:=do
 let e <-XC a
 if Builtin.nextslicecap (m+n) c*e.bytes>2^48 then
  (do
    let d <-Yb b m n o x
    if (!d)=Z then do
     mark Mark.noRoom
     unsupported (YH "append: a slice or a string whose bytes no memory bears")
    else unsupported (YH "append: a slice or a string whose bytes no memory bears"):Wu PUnit) >>= λ_=>yq a b m n c o x
 else yq a b m n c o x
def m7 (b:Ug)(a m n c:Nat)(o:Option UJ)(x:U):Wu U:=
 if m+n<=c then do
  let f <-Xl a n x
  match o with
   |some d=>do
    storeCells (d.add (m*a)) f.toList
    pure (Vg o (m+n) c)
   |_=>pure (Vg o (m+n) c)
 else do
  let e <-XC b
  if ((m+n:Nat):Int)>XM.max/\(False\/e.bytes=0) then do
   runtimePanic (Y1 "growslice: len out of range")
   yp b a m n c o x
  else yp b a m n c o x
def fS.mono{σ:aU G}(a:ρ.le σ){o o':Option UJ}(h:fS ρ o o'):fS σ o o':=by
 cases h using fS.ind with
 |none=>exact .none
 |some h=>exact .some (h.mono a)
def fS.slice{o o':Option UJ}(h:fS ρ o o')(m c:Nat):ay ρ (.slice o m c) (.slice o' m c):=by
 cases h using fS.ind with
 |none=>exact .jU _ _
 |some h=>exact .sl h _ _
def PM(L:Alike G P P')(a:Ug)(b m n c:Nat){o o':Option UJ}{x f:U}(t:fS ρ o o')(u:ay ρ x f):aq P P' ay ρ (yq a b m n c o x) (yq a b m n c o' f):=by
 unfold yq;refine qc _ (λB=>?_);refine(fQ L.S a).bindM (λE z A p l=>?_);obtain⟨rfl,-⟩:=l;refine(A3 _).bindM (λF _ _ q _=>?_);have e:=p.trans q;refine(jY b m ((t.mono e).slice m c)).bindM (λH g w r j=>?_);refine(jY b n (u.mono (e.trans r))).bindM (λI h y s k=>?_);refine(jK L.S a).bindM (λJ C D d v=>?_);exact(qg a (((j.mono (s.trans d)).append (k.mono d)).append (N7 v.cells _))).bindM (λK g h _ i=>.aB (.sl i _ _))
def PL(L:Alike G P P')(a:Ug)(d m n c:Nat){o o':Option UJ}{x g:U}(e:fS ρ o o')(f:ay ρ x g):aq P P' ay ρ (yp a d m n c o x) (yp a d m n c o' g):=by
 unfold yp;refine(fQ L.S a).bindM (λs q r b k=>?_);obtain⟨rfl,-⟩:=k
 split
 ·refine aq.bindM (A:=λ_ (_ _:PUnit)=>False) ?_ (λ_ _ _ _ i=>i.elim);refine(Gp _ _ _ (e.mono b) (f.mono b)).bindM (λt h l p j=>?_);cases j;cases h
  ·exact aq.room (.halt (.same _ Y))
  ·exact aq.dz
 ·exact PM L a d m n c (e.mono b) (f.mono b)
def J3(L:Alike G P P')(b:Ug)(d m n c:Nat){o o':Option UJ}{x h:U}(f:fS ρ o o')(g:ay ρ x h):aq P P' ay ρ (m7 b d m n c o x) (m7 b d m n c o' h):=by
 unfold m7
 split
 ·refine(jY d n g).bindM (λl p q a i=>?_);cases f using fS.ind with
  |none=>exact .aB (.jU _ _)
  |some e=>exact(jZ _ _ 0 ((e.mono a).add _) i.toList).bindM (λt _ _ k _=>.aB (.sl (e.mono (a.trans k)) _ _))
 ·refine(fQ L.S b).bindM (λl r s a j=>?_);obtain⟨rfl,-⟩:=j
  split
  ·exact uI L _ (by simp) (by simp) (by simp)
  ·exact PL L b d m n c (f.mono a) (g.mono a)
def M7(L:Alike G P P')(e:Array Ug)(t:Ug){vs D:Array U}(Q:∀f,e[1]? =I f->∀k,P.underlying f≠I (.int k))(h:bg ρ vs D):aq P P' ay ρ (XX e t vs) (XX e t D):=by
 unfold XX;cases e[0]? with
 |none=>exact aq.stuck
 |some R=>
  rcases h.get 0 with⟨p,q⟩|⟨v,C,p,q,j⟩
  ·rw[p,q];exact aq.stuck
  ·rw[p,q];rcases h.get 1 with⟨n,o⟩|⟨E,F,n,o,i⟩
   ·rw[n,o];exact aq.stuck
   ·rw[n,o];dsimp only;refine(aV L.S R).bindM (λH S X x A=>?_);obtain⟨rfl,A⟩:=A;cases S with
    |slice g=>
     have j:=j.mono x;have i:=i.mono x;obtain⟨b,l,m,a,rfl,rfl,N⟩|M:(∃b l m a,v= .slice b m a/\C= .slice l m a/\fS H b l)\/((∀b m a,v≠.slice b m a)/\∀b m a,C≠.slice b m a):=by
      cases j using ay.ind with
      |jU m a=>exact .inl ⟨_,_,_,_,rfl,rfl,.none⟩
      |sl K m a=>exact .inl ⟨_,_,_,_,rfl,rfl,.some K⟩
      |_=>exact .inr ⟨by simp,by simp⟩
     ·dsimp only;refine(cY L.S g).bindM (λY u T y r=>?_);cases r;have B:∀{w:aU G},H.le w->aq P P' ay w (Yl E >>= λd=>m7 g u m d a b E) (Yl F >>= λd=>m7 g u m d a l F):=λc=>
       (Cp (i.mono c)).bindM (λZ d W z r=>by
         cases r;exact J3 L g u m d a (N.mono (c.trans z)) (i.mono (c.trans z)))
      cases O:e[1]? with
      |none=>
       simp only[pure_bind,UA,if_false,Bool.not_false,if_true];exact B y
      |some f=>
       refine(aV L.S f).bindM (λw J V c s=>?_);obtain⟨rfl,s⟩:=s;cases J with
       |int k=>exact absurd s (Q f O k)
       |_=>
        simp only[pure_bind,UA,if_false,Bool.not_false,if_true];exact B (y.trans c)
     ·cases j using ay.ind<;>first|exact aq.stuck|exact absurd rfl (M.1 _ _ _)
    |_=>exact aq.stuck
end
end
end Rl
namespace Cc
open Go
section
variable {P P':Ue}{O:Xv->Prop}{α β:Type}
def At(s:FloatKind)(b:Nat)(d:Wx):St P P' O (Conv.floatToInt s b d):=by
 unfold Conv.floatToInt
 (try dsimp only)
 repeat' first|exact aA _|exact cV _|refine ag ?_ (λ_=>?_)|split|dsimp only|exact trivial
def zy(n:Int):St P P' O (Conv.intToString n):=by
 unfold Conv.intToString;exact trivial
def uX(b:Twin P P')(a:Plain O)(e:Ug)(s:ByteArray):St P P' O (Conv.stringToBytes e s):=by unfold Conv.stringToBytes;((try dsimp only);repeat' first|exact cV _|exact jM a _ _|exact oh b a _|assumption|(refine ag ?_ (λ_=>?_))|intro _|split|(dsimp only)|exact trivial)
def uY(b:Twin P P')(a:Plain O)(e:Ug)(s:ByteArray):St P P' O (Conv.stringToRunes e s):=by unfold Conv.stringToRunes;((try dsimp only);repeat' first|exact cV _|exact jM a _ _|assumption|(refine ag ?_ (λ_=>?_))|intro _|split|(dsimp only)|exact trivial)
def GR(a:Twin P P')(b:Plain O)(s d:Ug)(x:U)(h:FL P s d=Z):St P P' O (convert s d x):=by
 unfold convert;refine iN (xx a s) λm i=>?_;refine iN (xx a d) λf k=>?_;unfold FL at h;rw[i,k] at h;cases m<;>first|(simp at h;done)|skip
 ·rename_i p;cases f<;>first|(simp at h;done)|skip
  cases x<;>first|exact trivial|exact aZ _ rfl|(rename_i c;cases c<;>exact aZ _ rfl)|skip
  exact At _ _ _
 ·rename_i g;cases f<;>first|(simp at h;done)|skip
  ·cases x<;>first|exact trivial|skip
   all_goals first
    |exact zy _
    |(refine iN (xx a g) λe j=>?_;dsimp only at h;rw[j] at h;cases e<;>first|(simp at h;done)|skip
      rename_i l;cases l<;>first|(simp at h;done)|exact uR a b _)
  ·cases x with
   |string s=>
    refine ag (aH a _) λe=>?_
    split
    ·exact uX a b _ _
    ·exact uY a b _ _
    ·exact aA _
   |slice c q o=>
    cases c with
    |none=>exact aZ _ Y
    |some n=>
     refine ag (aH a _) λe=>?_
     split
     ·exact ag (oh a b _) λ_=>trivial
     ·exact aZ _ Y
   |_=>exact aZ _ Y
def ER(a:Twin P P')(b:Plain O)(e:Ug)(s m n c:Nat)(o:Option UJ)(x:U):St P P' O (Rl.yq e s m n c o x):=by
 unfold Rl.yq;exact ag (cV _) λ_=>ag (bM a _) λ_=>ag (zq _) λ_=>ag (kP _ _ _) λ_=>ag (kP _ _ _) λ_=>ag (fI a _) λ_=>ag (jM b _ _) λ_=>trivial
def EQ(a:Twin P P')(b:Plain O)(e:Ug)(s m n c:Nat)(o:Option UJ)(x:U):St P P' O (Rl.yp e s m n c o x):=by
 unfold Rl.yp;refine ag (bM a _) λf=>?_
 split
 ·refine ag (ag (EV a b _ _ _ _ _) λd=>?_) λ_=>ER a b _ _ _ _ _ _ _
  split
  ·exact ag Bo λ_=>aZ _ Y
  ·exact aZ _ Y
 ·exact ER a b _ _ _ _ _ _ _
def GO(a:Twin P P')(b:Plain O)(e:Ug)(s m n c:Nat)(o:Option UJ)(x:U):St P P' O (Rl.m7 e s m n c o x):=by
 unfold Rl.m7
 split
 ·refine ag (kP _ _ _) λd=>?_
  split
  ·exact ag (jo _ _ _) λ_=>trivial
  ·exact trivial
 ·refine ag (bM a _) λf=>?_
  split
  ·exact ag (bP a b _) λ_=>EQ a b _ _ _ _ _ _ _
  ·exact EQ a b _ _ _ _ _ _ _
def Lu (P:Ue)(a:Array Ug):Bool:=match a[1]? with
 |some b=>match P.underlying b with|some (.int _)=>T5|_=>Z
 |none=>Z
def KC(a:Twin P P')(k:Plain O)(b:Array Ug)(t:Ug)(f:Array U)(h:Lu P b=Z):St P P' O (XX b t f):=by
 unfold XX
 split
 ·refine ag (aH a _) λs=>?_
  split
  ·split
   ·rename_i e _ j _ o m g _;refine ag (bT a _) λp=>?_;have d:St P P' O (Yl e >>= λc=>Rl.m7 j p m c g o e):=ag (ET _) λc=>GO a k _ _ _ _ _ _ _;unfold Lu at h;cases n:b[1]? with
    |none=>
     simp only[pure_bind,UA,if_false,Bool.not_false,if_true];exact d
    |some q=>
     rw[n] at h;refine iN (xx a q) λi l=>?_;dsimp only at h;rw[l] at h;cases i with
     |int r=>simp at h
     |_=>
      simp only[pure_bind,UA,if_false,Bool.not_false,if_true];exact d
   ·exact aA _
  ·exact aA _
 ·exact aA _
end
def Ds (P:Ue)(b:Builtin)(a:Array Ug):Bool:=match b with
 | .len| .copy| .min| .unsafeString=>Z
 | .append=>Lu P a
 |_=>T5
def mC (P:Ue)(b:Bool):Op->Bool
 | .move _| .assign _| .pick _ _ _| .alloc _| .box _ _| .build _ _| .buildSlice _ _ _| .load _ _| .store _ _ _| .nilCheck _| .binOp _ _ _ _ _| .unOp _ _ _| .makeInterface _ _| .makeFunc _ _ _| .makeMap _ _| .makeSlice _ _ _| .slice _ _ _ _ _| .fieldAddr _ _ _| .field _ _ _| .indexAddr _ _ _| .index _ _ _| .lookup _ _ _ _| .mapUpdate _ _ _ _| .extract _ _| .panic _=>Z
 | .convert s d _=>FL P s d
 | .call a=>match a.callee with
  | .builtin .recover=> !b
  | .builtin c=>Ds P c a.argTypes
  |_=>Z
 | .defer a=> !b&&(match a.callee with| .builtin _=>T5|_=>Z)
 |_=>T5
def bp (P:Ue)(b:Bool):WU->Bool
 | .region _ e _=>e.toList.all λd=>mC P b d.op
 | .seq a c=>bp P b a&&bp P b c
 | .cond _ a c=>bp P b a&&bp P b c
 | .block _ a| .loop a=>bp P b a
 | .rangeFunc _ _ a c=>bp P Z a&&bp P Z c
 | .skip| .exit _| .ret| .refuse _=>Z
 | .goto _| .label _| .scope _=>T5
def lJ:Target->Bool
 | .nil| .fn _ _| .collected _=>Z
 |_=>T5
def bn (P:Ue):Xv->Prop
 | .loop a=>bp P Z a.assign=Z/\bp P Z a.body=Z/\∀b,a.pending=I b->bp P Z b=Z
 | .deferred (I d)=>∀c∈d,lJ c.target=Z
 | .pending _ _=>False
 | .coro _=>False
 |_=>True
def ez(P:Ue):Plain (bn P):=⟨λ_ _ _=>trivial,λ_ _ a=>a,λa=>a,⟨{state:=.ready,pending:=K,fn:=0,tmps:= #[],params:= #[],assign:=.skip,body:=.skip,defers:=0},rfl,rfl,λb a=>by cases a⟩⟩
def py (P:Ue)(d:Bool):Next->Prop
 | .value _| .skip| .enter _ _=>True
 | .recover=>d=T5
 | .defer c=>lJ c.target=Z
 | .round _ _ _ a b=>bp P Z a=Z/\bp P Z b=Z
 |_=>False
structure Ext(P P':Ue):Prop where
 named:∀(f:Nat) (fn:WC),P.funcs[f]? =I fn->(fn.name == "runtime.NumGoroutine")=T5
 next:∀(f:Nat) (fn:WC),P.funcs[f]? =I fn->fn.body.isNone=Z->Extern.findNext fn=K
 find:∀(f:Nat) (fn:WC) (e:Array U->Wu U),P.funcs[f]? =I fn->fn.body.isNone=Z->YB fn=I e->∀args,St P P' (bn P) (e args)
section
variable {P P':Ue}{O:Xv->Prop}{α β:Type}
def qu(a:Twin P P')(t:Ug)(x:Place):St P P' O (x.get t):=by
 cases x with
 |val v=>exact trivial
 |var b=>exact oR a _ _
theorem uT(a:Twin P P')(b:Plain O):∀(l:List FieldStep) (t:Ug) (x:Place),St P P' O (follow l t x)
 | [],t,x=>trivial
 |s::d,t,x=>by
  have c:=uT a b d;unfold follow
  ((try dsimp only);repeat' first|exact aH a _|exact aA _|exact oe a b _|exact gV a _ _ _|exact c _ _|exact qu a _ _|exact rM a b _ _|assumption|(refine ag ?_ (λ_=>?_))|(refine bU ?_ ?_)|intro _|split|(dsimp only)|exact trivial)
def G3(c:Twin P P')(d:Plain O)(g:Array Ug)(t:Ug)(x:U)(a b:ByteArray):St P P' O (Builtin.ssaWrapNilChk_ g t #[x,.string a,.string b]):=by
 have e:∀s:String,St P P' O (stuck s:Wu U):=λs=>aA s;unfold Builtin.ssaWrapNilChk_;cases x with
 |pointer f=>
  cases f with
  |some a=>exact trivial
  |none=>
   refine ag (cV _) λh=>?_
   ((try dsimp only);repeat' first|exact bM c _|exact aH c _|exact aA _|exact bP c d _|exact cV _|(refine aZ _ ?_;rfl)|assumption|(refine ag ?_ (λ_=>?_))|(refine bU ?_ ?_)|intro _|split|(dsimp only)|exact trivial)
 |_=>exact e _
def rP(a:Twin P P')(b:Plain O)(t:Ug)(x:Place)(p:Bool)(w:Option String):St P P' O (receiverAt t x p w):=by
 unfold receiverAt
 ((try dsimp only);repeat' first|exact aH a _|exact aA _|exact oe a b _|exact oR a _ _|exact qu a _ _|exact G3 a b _ _ _ _ _|assumption|(refine ag ?_ (λ_=>?_))|intro _|split|(dsimp only)|exact trivial)
def zA(c:Twin P P')(a:Plain O)(t:Ug)(v:U)(p:Array FieldStep)(b:Bool):St P P' O (receiverVia t v p b):=by
 unfold receiverVia
 ((try dsimp only);repeat' first|exact uT c a _ _ _|exact rP c a _ _ _ _|assumption|(refine ag ?_ (λ_=>?_))|intro _|split|(dsimp only)|exact trivial)
theorem Bm(a:Twin P P')(b:Plain O):∀(n:Nat) (t:Ug) (v:U) (s:String),St P P' O (Go.method n t v s)
 |0,t,v,s=>aZ _ Y
 |n+1,t,v,s=>by
  have c:=Bm a b n;unfold Go.method
  ((try dsimp only);repeat' first|exact bM a _|exact aA _|exact bP a b _|(refine aZ _ ?_;rfl)|exact c _ _ _|exact uT a b _ _ _|exact rP a b _ _ _ _|exact qu a _ _|assumption|(refine ag ?_ (λ_=>?_))|intro _|split|(dsimp only)|exact trivial)
theorem qs(a:Twin P P')(b:Plain O):∀(l:List FieldStep) (t:Ug) (x:Option U),St P P' O (followBlind l t x)
 | [],t,x=>trivial
 |s::d,t,x=>by
  have c:=qs a b d;unfold followBlind
  ((try dsimp only);repeat' first|exact aH a _|exact aA _|exact gV a _ _ _|exact c _ _|assumption|(refine ag ?_ (λ_=>?_))|intro _|split|(dsimp only)|exact trivial)
theorem vX(a:Twin P P')(b:Plain O):∀(n:Nat) (t:Ug) (v:U) (s:String),St P P' O (nilAhead n t v s)
 |0,t,v,s=>trivial
 |n+1,t,v,s=>by
  have c:=vX a b n;unfold nilAhead
  ((try dsimp only);repeat' first|exact bM a _|exact aH a _|exact aA _|exact c _ _ _|exact qs a b _ _ _|assumption|(refine ag ?_ (λ_=>?_))|intro _|split|(dsimp only)|exact trivial)
def qm(l:Twin P P')(c:Ext P P')(n:Bool)(f:V6)(args:Array U):Still P P' (bn P) (py P n) (callFunc f args):=by
 unfold callFunc;refine cB ?_ ?_
 ·rcases l.Q8 f with b|⟨a,o,g,h,i,j,k⟩
  ·rw[b]
  ·rw[g,h];simp only[i,j,k,UA,if_false]
 ·cases d:P.funcs[f]? with
  |none=>exact aA _
  |some a=>
   dsimp only;rw[if_neg (by rw[c.named f a d];simp)]
   split
   ·rename_i e;refine ag ⟨.inr ⟨_,rfl⟩,trivial⟩ λ_=>?_;rw[c.next f a d e];dsimp only;cases m:YB a with
    |some b=>exact ag (c.find f a b d e m args) λ_=>trivial
    |none=>exact bU trivial (aZ _ Y)
   ·exact trivial
def rL(a:Twin P P')(d:Ext P P')(c:Bool)(v:U)(s:String)(args:Array U):Still P P' (bn P) (py P c) (callMethod v s args):=by
 have b:=ez P;unfold callMethod
 split
 ·refine cB (by rw[a.TO]) ?_;exact ag (Bm a b _ _ _ _) λ_=>qm a d c _ _
 ·exact bP a b _
 ·exact aA _
def mR(l:Nat):Still P P' (bn P) (λr=>bn P (.loop r)) (Instr.getLoop l):=by
 unfold Instr.getLoop;refine jD l (λb a=>?_) (pS Y)
 split
 ·exact a
 ·exact aA _
def NO(b:Bool)(l:Nat)(args:Array U):Still P P' (bn P) (py P b) (Instr.yield l args):=by
 unfold Instr.yield;refine iN (mR l) λc a=>?_;dsimp only
 split
 ·exact ag (aA _) λ_=>⟨a.1,a.2.1⟩
 ·exact⟨a.1,a.2.1⟩
def GQ(c:Twin P P')(b:Builtin)(d:Array Ug)(t:Ug)(cs:Array Bool)(args:Array U)(h:Ds P b d=Z)(e:Bool):Still P P' (bn P) (py P e) (builtin b d t cs args):=by
 have a:=ez P;unfold builtin;cases b<;>first|(simp[Ds] at h;done)|skip
 ·exact ag (KC c a _ _ _ h) λ_=>trivial
 ·exact ag (PX c a _ _ _) λ_=>trivial
 ·exact ag (RH c a _ _ _) λ_=>trivial
 ·exact ag (RI _ _ _) λ_=>trivial
 ·exact ag (wY c a _ _ _) λ_=>trivial
def yx (P:Ue)(b:Bool):Target->Bool
 | .builtin .recover _ _ _=> !b
 | .builtin a c _ _=>Ds P a c
 | .coroexit _=>T5
 |_=>Z
def uV(a:Twin P P')(c:Ext P P')(b:Bool)(t:Target)(args:Array U)(h:yx P b t=Z):Still P P' (bn P) (py P b) (invoke t args):=by
 have e:=ez P;unfold invoke
 split
 ·exact bP a e _
 ·rename_i d i t g;by_cases f:d= .recover
  ·subst f;simp only[yx,Bool.not_eq_true'] at h;exact h
  ·exact GQ a d i t g args (by cases d<;>first|exact absurd Y f|exact h) b
 ·exact qm a c b _ _
 ·split
  ·exact rL a c b _ _ _
  ·exact aA _
 ·split
  ·refine ag (aH a _) λj=>?_;exact rL a c b _ _ _
  ·exact aA _
 ·split
  ·exact ag (zA a e _ _ _ _) λ_=>qm a c b _ _
  ·exact aA _
 ·exact NO b _ _
 ·exact aA _
 ·simp[yx] at h
def zB(P P':Ue)(a:Bool)(ρ:U6->U)(c:Call)(t:Ug)(h:(match c.callee with| .builtin .recover=> !a| .builtin b=>Ds P b c.argTypes|_=>Z)=Z):Still P P' (bn P) (λd=>yx P a d.target=Z) (X6 ρ c t):=by
 unfold X6;dsimp only
 split
 ·rename_i b e;rw[e] at h;show yx P a (.builtin b c.argTypes t _)=Z;unfold yx;cases b<;>first|exact h|rfl
 ·exact rfl
 ·unfold XN
  split
  ·exact rfl
  ·exact rfl
  ·exact aA _
def EX(P P':Ue)(ρ:U6->U)(c:Call)(t:Ug)(h:(match c.callee with| .builtin _=>T5|_=>Z)=Z):Still P P' (bn P) (λd=>lJ d.target=Z) (X6 ρ c t):=by
 unfold X6;dsimp only
 split
 ·rename_i b a;rw[a] at h;cases h
 ·exact rfl
 ·unfold XN
  split
  ·exact rfl
  ·exact rfl
  ·exact aA _
def PY(a:Twin P P')(l:Ext P P')(d:Bool)(ρ:U6->U)(o:Oper)(h:mC P d o.op=Z):Still P P' (bn P) (py P d) (execOp ρ o):=by
 have b:=ez P;have m:∀g i,bn P (.number g i):=λ_ _=>trivial;have f:∀k c,bn P (.map k c):=λ_ _=>trivial;unfold execOp;cases n:o.op<;>rw[n] at h<;>first|(simp[mC] at h;done)|skip
 all_goals dsimp only
 case move=>exact trivial
 case assign=>exact trivial
 case pick=>exact ag (uQ _) λ_=>trivial
 case alloc=>exact ag (NC a b _ _ _) λ_=>trivial
 case box=>exact ag (RG a b _ _) λ_=>trivial
 case build=>exact ag (NE a b _ _) λ_=>trivial
 case buildSlice=>exact ag (As a b _ _ _) λ_=>trivial
 case load=>exact ag (KF a b _ _) λ_=>trivial
 case store=>exact ag (G1 a b _ _ _) λ_=>trivial
 case nilCheck=>
  split
  all_goals first
   |exact bP a b _
   |exact trivial
   |skip
  split
  ·exact bP a b _
  ·refine cB (by rw[a.TO]) ?_;refine ag (vX a b _ _ _ _) λp=>?_
   split
   ·exact ag (aZ _ Y) λ_=>trivial
   ·exact trivial
  ·exact trivial
 case binOp=>exact ag (ag (GU a b _ _ _ _ _ _) λ_=>ND a b m _ _ _ _) λ_=>trivial
 case unOp=>exact ag (NN _ _) λ_=>trivial
 case convert=>exact ag (GR a b _ _ _ h) λ_=>trivial
 case makeInterface=>exact ag (uW a b _ _) λ_=>trivial
 case makeFunc=>exact trivial
 case makeMap=>exact ag (GZ a b f _ _) λ_=>trivial
 case makeSlice=>exact ag (CL a b _ _ _) λ_=>trivial
 case slice=>exact ag (G0 a b _ _ _ _ _) λ_=>trivial
 case fieldAddr=>exact ag (GW a b _ _ _) λ_=>trivial
 case field=>exact ag (NH a b _ _ _) λ_=>trivial
 case indexAddr=>exact ag (GX a b _ _ _) λ_=>trivial
 case index=>exact ag (NI a b _ _ _) λ_=>trivial
 case lookup=>exact ag (KG a b _ _ _ _) λ_=>trivial
 case mapUpdate=>exact ag (CM a b f _ _ _ _) λ_=>trivial
 case extract=>exact ag (GV _ _) λ_=>trivial
 case panic=>exact ag (NJ a b _) λ_=>trivial
 case call c=>exact iN (zB P P' d ρ c o.type h) λj e=>uV a l d _ _ e
 case defer c=>
  simp only[mC,Uv] at h;exact iN (EX P P' ρ c o.type h.2) λj e=>e
end
structure oY(P P':Ue):Prop where
 T:Twin P P'
 E:Ext P P'
 quiet:∀f:Nat,(P'.funcs[f]?).any (·.norace)=(P.funcs[f]?).any (·.norace)
 mixed:P'.follows .mixedOrders=P.follows .mixedOrders
 bad:∀f:Nat,P'.funcs[f]? =P.funcs[f]? \/∃fn s,P.funcs[f]? =I fn/\fn.body=I (.refuse s)
 FA:∀(f:Nat) (fn:WC) (c:WU),P.funcs[f]? =I fn->fn.body=I c->bp P T5 c=Z
 view:Views P P'
def bW (P:Ue)(a:Bool):WM->Prop
 | .code b| .inLoop b=>bp P a b=Z
 | .inBlock _| .inRangeFunc _| .endRangeFunc _=>True
 | .beginRound=>a=Z
 | .inRegion d _=>(d.toList.all λc=>mC P a c.op)=Z
 |_=>False
structure mX(P:Ue)(fr:Us):Prop where
 todo:∀i∈fr.todo,bW P fr.roundOf.isSome i
 defers:∀d∈fr.defers,lJ d.target=Z
 kind:fr.kind= .normal\/fr.kind= .deferred
def cX:Us->List Us->Prop
 |fr,[]=>fr.kind= .normal
 |_,f::a=>cX f a
structure eM(P:Ue)(fr:Us)(aE:List Us):Prop where
 top:mX P fr
 rest:∀f∈aE,mX P f
 bot:cX fr aE
def IV (fr:Us):Prop:=fr.mode= .run/\∃s,fr.todo=[.code (.refuse s)]
def C6 (n:Nat)(e:Vm):Prop:=match e.loc with
 | .obj b=>b<n
 | .cell a=>a.block<n
 | .mark m=>Conc.Neutral m
 |_=>True
def C6.mono{n m:Nat}(h:n<=m){e:Vm}(a:C6 n e):C6 m e:=by
 unfold C6 at*
 split<;>simp_all<;>omega
def CD(h:V6->Bool):∀(l:List Vm) (q:Bool) (kept:Array Vm),(∀e∈kept,∀f,e.loc≠.mark (.extern f))->∀e∈(l.foldl (Conc.seenStep h) (q,kept)).2,∀f,e.loc≠.mark (.extern f):=by
 intro l
 induction l with
 |nil=>exact λ_ _ a=>a
 |cons i l c=>
  intro q kept a;simp only[List.foldl_cons,Conc.seenStep]
  split
  ·exact c _ _ a
  ·rename_i g;refine c _ _ ?_
   split
   ·exact a
   ·intro e b;rcases Array.mem_push.1 b with b|rfl
    ·exact a e b
    ·exact λf d=>g f d
def EF{P:Ue}{fn:V6}{es:Array Vm}{n:Nat}(h:∀e∈es,zS n e):∀e∈seen P fn es,C6 n e:=by
 intro e c;have a:=h e (Conc.mem_seen c);have d:∀f,e.loc≠.mark (.extern f):=by
  rw[Conc.seen_def] at c;exact CD _ _ _ _ (λe h=>by simp at h) e c
 unfold zS at a;unfold C6;cases b:e.loc with
 |mark m=>
  rw[b] at a;rcases a with a|⟨f,rfl⟩
  ·exact a
  ·exact absurd b (d f)
 |cell g=>rw[b] at a;exact a
 |obj i=>rw[b] at a;exact a
 |_=>trivial
structure Da(P P':Ue)(w:F)(F:Ue->Bool->List Us->F->Yt)(fr':Us)(tops':List Us)(w':F)(es:Array Vm):Prop where
 eq:∀m cs,F P m cs w= .go (Uf fr' (tops'++cs)) w' es
 ok:eM P fr' tops'
 hp:Hp (bn P) w'
 tape:w'.tape=w.tape
 drawn:w.drawn<=w'.drawn
 size:w.heap.size<=w'.heap.size
 os:w'.os=w.os
 output:w'.output=w.output
 evs:∀e∈es,C6 w'.heap.size e
 twin:(P≠P'/\IV fr')\/∀ τ d u,Un w u->Al w.tape w.drawn τ d (w'.drawn-w.drawn)->∃u',rV w u w' u'/\∀m cs,F P' m cs (sh τ d u)= .go (Uf fr' (tops'++cs)) (sh τ (d+(w'.drawn-w.drawn)) u') es
def BC (P P':Ue)(w:F)(c:Ue->Bool->List Us->F->Yt):Prop:=
 (∀m d,∃f b a,c P m d w= .ended f b a)\/∃e g b a,Da P P' w c e g b a
section
variable {P P':Ue}{w:F}
def iA(b:Hp (bn P) w)(fr':Us)(tops':List Us)(ok:eM P fr' tops'):BC P P' w (λR m cs w=>.go (Uf fr' (tops'++cs)) w):=
 .inr ⟨fr',tops',w,#[],λ_ _=>rfl,ok,b,rfl,T6 _,T6 _,rfl,rfl,λf a=>by simp at a,.inr λg e d c _=>⟨d,c.two,λm cs=>by simp⟩⟩
def A9(v:Hp (bn P) w)(h:oY P P')(f:V6)(args:Array U)(kind:CallKind)(u:kind= .normal\/kind= .deferred)(tops':List Us)(x:∀f∈tops',mX P f)(p:cX (UY P f args kind) tops'):
 BC P P' w (λR m cs w=>.go (Uf (UY R f args kind) (tops'++cs)) w):=by
 have t:mX P (UY P f args kind):=by
  refine⟨λz i=>?_,λe q=>by simp[UY] at q,u⟩;simp only[UY,WI] at i;subst i;show bp P T5 _=Z;cases r:P.funcs[f]? with
  |none=>rfl
  |some a=>
   cases b:a.body with
   |none=>simp[b,bp]
   |some k=>simpa [b] using h.FA f a k r b
 refine .inr ⟨UY P f args kind,tops',w,#[],λ_ _=>rfl,⟨t,x,p⟩,v,rfl,T6 _,T6 _,rfl,rfl,λg l=>by simp at l,?_⟩;rcases h.bad f with g|⟨a,s,n,o⟩
 ·refine .inr λy e d c _=>⟨d,c.two,λm cs=>?_⟩;have:UY P' f args kind=UY P f args kind:=by unfold UY;rw[g]
  simp[this]
 ·by_cases j:P=P'
  ·subst j;exact .inr λy e d c _=>⟨d,c.two,λm cs=>by simp⟩
  ·refine .inl ⟨j,rfl,s,?_⟩;simp[UY,n,o]
def Kv(a:oY P P')(f:V6)(es:Array Vm):seen P' f es=seen P f es:=by
 unfold seen;simp only[a.quiet]
def oI{α:Type}(t:oY P P')(E:Hp (bn P) w)(f:V6){s:Wu α}{Q:α->Prop}(G:Still P P' (bn P) Q s){q:Ue->Bool->List Us->F->Yt}(j:Ue->Bool->List Us->XW α->Yt)
 (hF:∀R,R=P\/R=P'->∀m cs w,(∀h w',(s.runT R w #[]).1= .halt h w'->pg h=Z)->(∀a w',(s.runT R w #[]).1= .ok a w'->Q a)->q R m cs w=WQ (seen R f (s.runT R w #[]).2) (j R m cs (s.runT R w #[]).1))
 (D:∀a w',Q a->Hp (bn P) w'->BC P P' w' (λR m cs w=>j R m cs (.ok a w)))
 (C:∀h w',pg h=Z->Hp (bn P) w'->BC P P' w' (λR m cs w=>j R m cs (.halt h w)))
 (I:∀y w' m cs,∃o p es,j P m cs (.halt (.stuck y) w')= .ended o p es):BC P P' w q:=by
 have b:=Np (ez P) t.view s w #[] G E;rcases b.shift with⟨y,w',L⟩|H
 ·refine .inl λm cs=>?_;obtain⟨o,p,es,h⟩:=I y w' m cs;refine⟨o,p,seen P f (s.runT P w #[]).2++es,?_⟩;rw[hF P (.inl Y) _ _ _ b.halt b.ok,L,h];rfl
 have d:BC P P' (rW (s.runT P w #[]).1) (λR m cs n=>j R m cs (Ok n (s.runT P w #[]).1)):=by
  cases h:(s.runT P w #[]).1 with
  |ok a e=>exact D a e (b.ok a e h) (by have:=b.hp;rw[h] at this;exact this)
  |halt i e=>exact C i e (b.halt i e h) (by have:=b.hp;rw[h] at this;exact this)
 have v:Ok (rW (s.runT P w #[]).1) (s.runT P w #[]).1=(s.runT P w #[]).1:=by cases(s.runT P w #[]).1<;>rfl
 rcases d with d|⟨A,O,w',es,d⟩
 ·refine .inl λm cs=>?_;obtain⟨o,w',es,h⟩:=d m cs;dsimp only at h;rw[v] at h;refine⟨o,w',seen P f (s.runT P w #[]).2++es,?_⟩;rw[hF P (.inl Y) _ _ _ b.halt b.ok,h];rfl
 ·refine .inr ⟨A,O,w',seen P f (s.runT P w #[]).2++es,λm cs=>?_,d.ok,d.hp,d.tape.trans b.tape,Ux b.drawn d.drawn,Ux b.size d.size,d.os.trans b.os,d.output.trans b.output,λc B=>?_,?_⟩
  ·have:=d.eq m cs
   try dsimp only at this
   rw[v] at this;rw[hF P (.inl Y) _ _ _ b.halt b.ok,this];rfl
  ·rcases Array.mem_append.1 B with h|h
   ·refine C6.mono d.size (EF (λi g=>?_) c h);rcases b.evs i g with h|h
    ·simp at h
    ·exact h
   ·exact d.evs c h
  ·rcases d.twin with h|h
   ·exact .inl h
   ·refine .inr λz r n K u=>?_;have S:=b.drawn;have T:=d.drawn;obtain⟨u1,x,l⟩:=H z r n K (u.sub (by omega));obtain⟨u2,J,k⟩:=h z (r+((rW (s.runT P w #[]).1).drawn-w.drawn)) u1 x.un (by
     intro M N U;have:=u ((rW (s.runT P w #[]).1).drawn-w.drawn+M) N (by omega);rw[U5,b.tape,this];congr 1;omega)
    refine⟨u2,x.trans J,λm cs=>?_⟩;replace k:=k m cs;rw[hF P' (.inr Y) _ _ _ (λh w' c=>by
     rw[l] at c;cases g:(s.runT P w #[]).1 with
     |ok a e=>rw[g] at c;simp[Ok] at c
     |halt i e=>
      rw[g] at c;simp only[Ok,Y4] at c;rw[<-c.1];exact b.halt i e g) (λa w' c=>by
     rw[l] at c;cases g:(s.runT P w #[]).1 with
     |halt a e=>rw[g] at c;simp[Ok] at c
     |ok i e=>
      rw[g] at c;simp only[Ok,Result.ok.injEq] at c;rw[<-c.1];exact b.ok i e g),l]
    dsimp only at k ⊢;rw[k,Kv t];show GStep.go _ _ _=GStep.go _ _ _;congr 2;omega
end
def dN (fr:Us)(aE:List Us)(R:Ue)(m:Bool)(cs:List Us)(w:F):Yt:=UM R m (Uf fr (aE++cs)) w
section
variable {P P':Ue}{w:F}
def gG{b F':Ue->Bool->List Us->F->Yt}(h:∀R,R=P\/R=P'->∀m cs w,b R m cs w=F' R m cs w)(a:BC P P' w F'):BC P P' w b:=by
 rcases a with a|⟨f,l,p,e,a⟩
 ·exact .inl λm cs=>by rw[h P (.inl Y)];exact a m cs
 ·exact .inr ⟨f,l,p,e,λm cs=>by rw[h P (.inl Y)];exact a.eq m cs,a.ok,a.hp,a.tape,a.drawn,a.size,a.os,a.output,a.evs,a.twin.imp id λg q c n k i=>by
  obtain⟨o,j,d⟩:=g q c n k i;exact⟨o,j,λm cs=>by rw[h P' (.inr Y)];exact d m cs⟩⟩
def uw{fr:Us}(h:mX P fr){k:List WM}(a:∀i∈k,bW P fr.roundOf.isSome i):mX P {fr with todo:=k}:=⟨a,h.defers,h.kind⟩
theorem xR{fr b:Us}(h:b.kind=fr.kind):∀{l:List Us},cX fr l->cX b l
 | [],a=>h.trans a
 |_::_,a=>a
def iO{fr a:Us}{aE:List Us}(h:eM P fr aE)(b:mX P a)(c:a.kind=fr.kind):eM P a aE:=⟨b,h.rest,xR c h.bot⟩
def Jb{c:WU}(h:bp P Z c=Z):bp P T5 c=Z:=by
 have k:∀a,mC P Z a=Z->mC P T5 a=Z:=by
  intro a b;cases a<;>first|exact b|skip
  ·rename_i c;obtain⟨j,_,_⟩:=c;cases j with
   |builtin e=>cases e<;>first|rfl|exact b
   |_=>rfl
  ·simp[mC] at b
 induction c with
 |region _ l _=>
  simp only[bp,Uy] at h ⊢;exact λa b=>k _ (h a b)
 |seq d e g i=>simp only[bp,Uv] at h ⊢;exact⟨g h.1,i h.2⟩
 |cond _ d e g i=>simp only[bp,Uv] at h ⊢;exact⟨g h.1,i h.2⟩
 |block _ d f=>exact f h
 |loop d f=>exact f h
 |rangeFunc _ _ d e _ _=>exact h
 |_=>first|rfl|(simp[bp] at h)
def Oy{a:Bool}{c:WU}(h:bp P Z c=Z):bp P a c=Z:=by
 cases a
 ·exact Jb h
 ·exact h
theorem r9{c:Bool}{id:Nat}:∀{l k:List WM},(∀i∈l,bW P c i)->Yh id l=I k->∀i∈k,bW P c i
 | [],k,_,a=>by simp[Yh] at a
 |i::l,k,d,a=>by
  have b:∀i∈l,bW P c i:=λf e=>d f (by simp[e]);cases i<;>simp only[Yh] at a
  case inBlock g=>
   split at a
   ·cases a;exact b
   ·exact r9 b a
  all_goals exact r9 b a
def fA{fr:Us}(h:mX P fr)(v:U):mX P (fr.finish v)/\(fr.finish v).kind=fr.kind:=by
 unfold VW;have a:=h.todo
 split
 ·rename_i g f i e b;rw[b] at a;exact⟨⟨λd c=>by
   rcases VM.1 c with rfl|c
   ·exact a (.inRegion g (f::i)) (by simp)
   ·exact a d (by simp[c]),h.defers,h.kind⟩,rfl⟩
 ·rename_i j e b;rw[b] at a;exact⟨⟨λd c=>by
   rcases VM.1 c with rfl|c
   ·exact trivial
   ·exact a d (by simp[c]),h.defers,h.kind⟩,rfl⟩
 ·rename_i e b;rw[b] at a;exact⟨⟨λd c=>a d (by simp[c]),h.defers,h.kind⟩,rfl⟩
 ·rename_i b;rw[b] at a;exact(a _ (Xs ..)).elim
 ·rename_i b;rw[b] at a;exact(a _ (Xs ..)).elim
 ·exact⟨h,rfl⟩
def kZ{fr:Us}(h:mX P fr)(c:List Vr):mX P (fr.raise c)/\(fr.raise c).kind=fr.kind:=by
 unfold Frame.raise
 split<;>exact⟨⟨h.todo,h.defers,h.kind⟩,rfl⟩
def Eu(l:Nat)(f:V6)(tmps:Array U)(a b:WU)(k:CallKind)(h:k= .normal\/k= .deferred)(d:bp P Z a=Z)(e:bp P Z b=Z):mX P (WW l f tmps a b k):=by
 refine⟨λj c=>?_,λi g=>by simp[WW] at g,h⟩;simp only[WW,VM,List.not_mem_nil,or_false] at c;rcases c with rfl|rfl|rfl
 ·exact d
 ·rfl
 ·exact e
def Gt{fr:Us}{aE:List Us}(h:eM P fr aE):
 (∀cs,Xp fr (aE++cs)=K)\/∃v tops',(∀cs,Xp fr (aE++cs)=I (v,tops'++cs))/\(∀f∈tops',mX P f)/\cX fr tops':=by
 obtain⟨l,j,e⟩:=h;rcases l.kind with a|a
 ·exact .inl λcs=>by unfold Xp;rw[a]
 ·cases aE with
  |nil=>exact absurd (e.symm.trans a) (by simp)
  |cons d i=>
   by_cases c:∃v b,d.mode= .panicking ({v,recovered:=T5,goexit:=T5}::b)
   ·obtain⟨v,b,c⟩:=c;refine .inr ⟨v,{d with mode:=.panicking ({v,recovered:=Z}::b)}::i,λcs=>?_,λf g=>?_,?_⟩
    ·unfold Xp;simp[a,c]
    ·rcases VM.1 g with rfl|g
     ·have:=j d (by simp);exact⟨this.todo,this.defers,this.kind⟩
     ·exact j f (by simp[g])
    ·cases i with
     |nil=>exact e
     |cons m i=>exact e
   ·refine .inl λcs=>?_;unfold Xp;simp only[a,Wd]
    split
    ·rename_i v b k;exact absurd ⟨v,b,k⟩ c
    ·rfl
def fM(a:Yt):WQ #[] a=a:=by cases a<;>simp[WQ]
def seen_none(R:Ue)(f:V6):seen R f #[]=#[]:=by simp[seen]
def uK(z:oY P P')(J:Hp (bn P) w){fr:Us}{aE:List Us}(h:eM P fr aE){s:Wu Next}(L:Still P P' (bn P) (py P fr.roundOf.isSome) s)(I:∀d wr M N k,fr.todo≠.call d wr M N::k):
 BC P P' w (λR m cs w=>VN R Z fr (aE++cs) K s w):=by
 have e:(fr.kind == .early)=T5:=by rcases h.top.kind with n|n<;>rw[n]<;>rfl
 have H:(match fr.todo with| .call _ Z _ _::_=>CallKind.wrapped|_=>.normal)= .normal:=by
  split
  ·rename_i n;exact absurd n (I _ _ _ _ _)
  ·rfl
 refine oI z J fr.fn L (λR m cs u=>match u with
  | .ok c w=>VN R Z fr (aE++cs) K (.pure c) w
  | .halt a w=>VN R Z fr (aE++cs) K (.halt a) w) (λR S m cs w o _=>?_) (λc y i g=>?_) (λa y b g=>?_) (λT y m cs=>⟨_,_,_,by simp only[VN,U4,seen_none,e,fM,if_true,UA,if_false];rfl⟩)
 ·unfold VN;simp only[if_true,e,UA,if_false];generalize E:s.runT R w #[]=D;obtain⟨u,Q⟩:=D;rw[E] at o;cases u with
  |ok c C=>simp[U4,fM,seen_none]
  |halt a C=>
   have:=o a C Y;cases a<;>first|(simp[pg] at this;done)|(simp[U4,fM,seen_none];done)|skip
   rename_i x;cases x<;>first|(simp[pg] at this;done)|(simp[U4,fM,seen_none];done)
 ·have r:∀v:U,BC P P' y (λR m cs w=>.go (Uf (fr.finish v) (aE++cs)) w):=λv=>iA g _ _ (iO h (fA h.top v).1 (fA h.top v).2);have j:∀(R:Ue) (cs:List Us) (w:F),VN R Z fr (aE++cs) K (.pure c) w=(match c with
   | .value v=>GStep.go (Uf (fr.finish v) (aE++cs)) w
   | .skip=>.go (Uf (fr.finish Vk) (aE++cs)) w
   | .enter f args=>.go (Uf (UY R f args .normal) (fr::(aE++cs))) w
   | .round p f q a l=>.go (Uf (WW p f q a l .normal) (fr::(aE++cs))) w
   | .defer d=>.go (Uf ({fr with defers:=d::fr.defers}.finish Vk) (aE++cs)) w
   |_=>VN R Z fr (aE++cs) K (.pure c) w):=by
   intro R cs w;cases c<;>first|rfl|skip
   all_goals simp[VN,U4,seen_none,e,fM,Uf]
   exact congrArg (UY R _ _) H
  cases c with
  |value v=>exact gG (λR _ m cs w=>j R cs w) (r v)
  |skip=>exact gG (λR _ m cs w=>j R cs w) (r Vk)
  |enter f args=>exact gG (λR _ m cs w=>j R cs w) (A9 g z f args .normal (.inl Y) (fr::aE) (λa b=>by
   rcases VM.1 b with rfl|b
   ·exact h.top
   ·exact h.rest a b) h.bot)
  |round p f q a l=>exact gG (λR _ m cs w=>j R cs w) (iA g (WW p f q a l .normal) (fr::aE) ⟨Eu p f q a l .normal (.inl Y) i.1 i.2,λa b=>by
   rcases VM.1 b with rfl|b
   ·exact h.top
   ·exact h.rest a b,h.bot⟩)
  |defer d=>
   have A:mX P {fr with defers:=d::fr.defers}:=⟨h.top.todo,λa b=>by
    rcases VM.1 b with rfl|b
    ·exact i
    ·exact h.top.defers a b,h.top.kind⟩
   exact gG (λR _ m cs w=>j R cs w) (iA g _ _ (iO h (fA A Vk).1 (fA A Vk).2))
  |recover=>
   have B:fr.roundOf=K:=by
    have:fr.roundOf.isSome=T5:=i;simpa using this
   rcases Gt h with t|⟨v,O,t,o,G⟩
   ·exact gG (λR _ m cs w=>by simp[VN,U4,seen_none,e,fM,Uf,B,t]) (r .nilIface)
   ·exact gG (λR _ m cs w=>by simp[VN,U4,seen_none,e,fM,Uf,B,t]) (iA g (fr.finish v) O ⟨(fA h.top v).1,o,xR (fA h.top v).2 G⟩)
  |_=>exact i.elim
 ·cases a with
  |panic v=>
   refine gG (F':=λR m cs w=>.go (Uf (fr.raise [{v,recovered:=T5}]) (aE++cs)) w) (λR _ m cs w=>?_) (iA g _ _ (iO h (kZ h.top _).1 (kZ h.top _).2));simp[VN,U4,seen_none,e,fM,Uf]
  |stuck s=>exact .inl λm cs=>⟨_,_,_,by simp only[VN,U4,seen_none,e,fM,if_true,UA,if_false];rfl⟩
  |unsupported x=>
   refine .inl λm cs=>?_;cases x<;>first|(simp[pg] at b;done)|exact⟨_,_,_,by simp only[VN,U4,seen_none,e,fM,if_true,UA,if_false];rfl⟩
  |_=>simp[pg] at b
def oX (fr:Us)(aE:List Us):Prop:=aE=[]->(fr.mode≠.run->fr.defers≠[])/\(fr.mode= .run->fr.roundOf=K\/(fr.todo≠[]/\(∀a,fr.todo≠.code .ret::a)/\∀id a,fr.todo= .code (.exit id)::a->Yh id a≠K))
def sr(A:oY P P')(k:Hp (bn P) w){fr c:Us}{aE:List Us}(h:eM P fr (c::aE))(v:U):BC P P' w (λR m cs w=>WY R m fr (c::aE++cs) K v w):=by
 have a:mX P c:=h.rest c (by simp);have l:∀f∈aE,mX P f:=λf p=>h.rest f (by simp[p]);have i:cX c aE:=h.bot;rcases h.top.kind with b|b
 ·refine gG (F':=λR m cs w=>.go (Uf (c.finish v) (aE++cs)) w) (λR _ m cs w=>?_) (iA k _ _ ⟨(fA a v).1,l,xR (fA a v).2 i⟩);simp[WY,b,Uf]
 ·obtain⟨e,n,q,o⟩:∃e:Us,mX P e/\e.kind=c.kind/\∀(R:Ue) (m:Bool) (cs:List Us) (w:F),WY R m fr (c::aE++cs) K v w= .go (Uf e (aE++cs)) w:=by
   cases d:c.mode with
   |run=>exact⟨c,a,rfl,λR m cs w=>by simp[WY,b,d,Uf]⟩
   |returning=>exact⟨c,a,rfl,λR m cs w=>by simp[WY,b,d,Uf]⟩
   |panicking r=>
    cases r with
    |nil=>exact⟨c,a,rfl,λR m cs w=>by simp[WY,b,d,Uf]⟩
    |cons g s=>
     obtain⟨y,u,z⟩:=g;cases u with
     |false=>exact⟨c,a,rfl,λR m cs w=>by simp[WY,b,d,Uf]⟩
     |true=>
      cases j:s.dropWhile (λg:Vr=> !g.goexit) with
      |nil=>exact⟨{c with mode:=.returning},⟨a.todo,a.defers,a.kind⟩,rfl,λR m cs w=>by simp[WY,b,d,Uf,j]⟩
      |cons x t=>exact⟨{c with mode:=.panicking (x::t)},⟨a.todo,a.defers,a.kind⟩,rfl,λR m cs w=>by simp[WY,b,d,Uf,j]⟩
  exact gG (λR _ m cs w=>o R m cs w) (iA k _ _ ⟨n,l,xR q i⟩)
end
section
variable {P P':Ue}{w:F}
def EM(l:Nat)(j:Option WU)(b:∀c,j=I c->bp P Z c=Z):St P P' (bn P) (Yc l j):=by
 unfold Yc;exact iN (mR l) λd a=>ag (l8 _ ⟨a.1,a.2.1,b⟩) λ_=>trivial
def Ar(b:Twin P P')(l:Nat):St P P' (bn P) (Instr.beginRound l):=by
 unfold Instr.beginRound;refine iN (mR l) λc a=>ag (l8 _ ⟨a.1,a.2.1,a.2.2⟩) λ_=>?_
 split
 ·exact trivial
 all_goals exact bP b (ez P) _
def GS(b:Twin P P')(l:Nat):Still P P' (bn P) (λj=>∀c,j=I c->bp P Z c=Z) (Instr.endLoop l):=by
 unfold Instr.endLoop;refine iN (mR l) λd a=>?_;dsimp only
 split
 ·exact ag (bP b (ez P) _) λ_=>ag (l8 _ ⟨a.1,a.2.1,a.2.2⟩) λ_=>a.2.2
 ·exact ag (l8 _ ⟨a.1,a.2.1,a.2.2⟩) λ_=>a.2.2
def CI(f:V6)(tmps:Array U)(ps:Array Tmp)(a b:WU)(h:Option Nat)(k:bp P Z a=Z)(l:bp P Z b=Z):Still P P' (bn P) (λp=>∀d∈p.2,lJ d.target=Z) (Instr.enterLoop f tmps ps a b h):=by
 unfold Instr.enterLoop;have i:∀(e:Nat),bn P (.loop {state:=.ready,pending:=K,fn:=f,tmps,params:=ps,assign:=a,body:=b,defers:=e}):=λe=>⟨k,l,λr j=>by cases j⟩;cases h with
 |some m=>
  refine ag (Tz (mR m)) λq=>iN (Q:=λp:Nat×List Wj=>∀d∈p.2,lJ d.target=Z) (λd c=>by simp at c) λp g=>?_;obtain⟨e,n⟩:=p;exact ag (l7 (i _)) λo=>g
 |none=>
  refine ag (l7 (λd c=>by simp at c)) λq=>iN (Q:=λp:Nat×List Wj=>∀d∈p.2,lJ d.target=Z) (λd c=>by
   simp only[WI] at c;subst c;rfl) λp g=>?_
  obtain⟨e,n⟩:=p;exact ag (l7 (i _)) λo=>g
def wX(b:Nat):Still P P' (bn P) (λds=>∀d∈ds,lJ d.target=Z) (Instr.takeDeferred b):=by
 unfold Instr.takeDeferred;refine jD b (λc a=>?_) (pS Y)
 split
 ·exact ag (l8 _ trivial) λ_=>a
 ·exact aA _
def uL(f:oY P P')(g:Hp (bn P) w){fr:Us}{aE:List Us}(h:eM P fr aE)(q:aE=[]->fr.roundOf=K)(j:Option WU)(p:∀c,j=I c->bp P Z c=Z)
 {b:Ue->Bool->List Us->F->Yt} (k:fr.roundOf=K->(∀m cs,∃o w' es,b P m cs w= .ended o w' es)\/∀R,R=P\/R=P'->∀m cs w,b R m cs w= .go (Uf {fr with mode:=.returning} (aE++cs)) w)
 (n:∀l,fr.roundOf=I l->∀R m cs w,b R m cs w=WQ (seen R fr.fn ((Yc l j).runT R w #[]).2) (match ((Yc l j).runT R w #[]).1 with
   | .ok v w=>WY R m fr (aE++cs) K v w
   | .halt _ w=>.ended (.stuck "range over a function: no such loop" (fr.pos R)) w)):BC P P' w b:=by
 cases d:fr.roundOf with
 |none=>
  rcases k d with e|e
  ·exact .inl e
  ·exact gG e (iA g _ _ (iO h ⟨h.top.todo,h.top.defers,h.top.kind⟩ Y))
 |some l=>
  cases aE with
  |nil=>rw[q Y] at d;cases d
  |cons c aE=>
   refine oI f g fr.fn (EM l j p) (λR m cs r=>match r with
    | .ok v w=>WY R m fr (c::aE++cs) K v w
    | .halt _ w=>.ended (.stuck "range over a function: no such loop" (fr.pos R)) w) (λR s m cs w _ _=>n l d R m cs w) (λa w' _ i=>?_) (λu w' t i=>?_) (λx w' m cs=>⟨_,_,_,rfl⟩)
   ·exact sr f i h a
   ·exact .inl λm cs=>⟨_,_,_,rfl⟩
def Nj(k:oY P P')(u:Hp (bn P) w){fr:Us}{aE:List Us}(h:eM P fr aE)(V:oX fr aE)(d:fr.mode= .run):BC P P' w (dN fr aE):=by
 have X:=h.top.todo;have W:aE=[]->fr.roundOf=K\/(fr.todo≠[]/\(∀e,fr.todo≠.code .ret::e)/\∀id e,fr.todo= .code (.exit id)::e->Yh id e≠K):=λj=>(V j).2 d;cases b:fr.todo with
 |nil=>
  refine uL k u h (λj=>(W j).elim id λn=>absurd b n.1) K (λq j=>by cases j) (λJ=>.inr λc _ m a w=>?_) (λi x c m a w=>?_)
  ·simp[dN,Uf,UM,UI,d,b,J]
  ·simp only[dN,Uf,UM,UI,d,b,x];rfl
 |cons aa e=>
  rw[b] at X;have D:=X aa (by simp);have o:∀l∈e,bW P fr.roundOf.isSome l:=λl t=>X l (by simp[t]);have move:∀(M:List WM),(∀l∈M,bW P fr.roundOf.isSome l)->(∀c m a w,dN fr aE c m a w= .go (Uf {fr with todo:=M} (aE++a)) w)->BC P P' w (dN fr aE):=λM k j=>gG (λc _ m a w=>j c m a w) (iA u _ _ (iO h (uw h.top k) Y));have r:∀{l:WM} {i:List WM},bW P fr.roundOf.isSome l->(∀l∈i,bW P fr.roundOf.isSome l)->∀n∈l::i,bW P fr.roundOf.isSome n:=λt x n y=>by
   rcases VM.1 y with rfl|y
   ·exact t
   ·exact x n y
  have T:(∀m a,∃N E ad,dN fr aE P m a w= .ended N E ad)->BC P P' w (dN fr aE):=λj=>.inl j;cases aa with
  |inBlock l=>exact move e o λc m a w=>by simp[dN,Uf,UM,UI,d,b]
  |inLoop q=>exact move (.code q :: .inLoop q::e) (r D (r D o)) λc m a w=>by simp[dN,Uf,UM,UI,d,b]
  |inScope q=>exact D.elim
  |call _ _ _ _=>exact D.elim
  |extern _ _=>exact D.elim
  |inRangeFunc i=>exact T λm a=>by simp[dN,Uf,UM,UI,d,b]
  |beginRound=>
   have V:Still P P' (bn P) (py P fr.roundOf.isSome) (do fr.roundOf.elim (stuck "beginRound: no round") Instr.beginRound;pure .skip):=by
    refine ag ?_ λ_=>trivial;cases fr.roundOf with
    |none=>exact aA _
    |some i=>exact Ar k.T i
   refine gG (λc _ m a w=>?_) (uK k u h V (by simp[b]));simp only[dN,Uf,UM,UI,d,b]
  |endRangeFunc i=>
   refine oI k u fr.fn (GS k.T i) (λc m a R=>match R with
    | .ok ao w=>.go (Uf {fr with todo:=(ao.map Item.code).toList++e} (aE++a)) w
    | .halt (.panic v) w=>.go (Uf (fr.raise [{v,recovered:=T5}]) (aE++a)) w
    | .halt _ w=>.ended (.stuck "range over a function: no such loop" (fr.pos c)) w) (λc ae m a w _ _=>?_) (λp E H G=>?_) (λn E y G=>?_) (λS E m a=>⟨_,_,_,rfl⟩)
   ·simp only[dN,Uf,UM,UI,d,b];rfl
   ·refine iA G _ _ (iO h (uw h.top λl t=>?_) Y);rcases U1.1 t with t|t
    ·cases p with
     |none=>simp at t
     |some q=>
      simp at t;subst t;exact Oy (H q Y)
    ·exact o l t
   ·cases n with
    |panic v=>exact iA G _ _ (iO h (kZ h.top _).1 (kZ h.top _).2)
    |_=>exact .inl λm a=>⟨_,_,_,rfl⟩
  |inRegion z au=>
   cases au with
   |nil=>exact move e o λc m a w=>by simp[dN,Uf,UM,UI,d,b]
   |cons l R=>
    by_cases L:((z[l]?).map (UF · (yielded z fr.tmps))).getD T5=Z
    ·cases O:z[l]? with
     |none=>rw[O] at L;simp at L
     |some N=>
      have U:mC P fr.roundOf.isSome N.op=Z:=by
       have:=Uy.1 D N (by
        have:=Ua.1 O;obtain⟨t,rfl⟩:=this;simp)
       exact this
      refine gG (λc _ m a w=>?_) (uK k u h (PY k.T k.E fr.roundOf.isSome fr.eval N U) (by simp[b]));rw[O] at L;simp only[dN,Uf,UM,UI,d,b,O,L,if_true,stepG.oper,Frame.oper?]
      split
      ·rename_i i q x g;rw[x,g] at U;simp[mC] at U
      ·rfl
    ·refine gG (F':=λc m a w=>.go (Uf (fr.finish Vk) (aE++a)) w) (λc _ m a w=>?_) (iA u _ _ (iO h (fA h.top Vk).1 (fA h.top Vk).2));simp only[dN,Uf,UM,UI,d,b,L,if_false];rfl
  |code q=>
   have g:bp P fr.roundOf.isSome q=Z:=D;cases q with
   |skip=>exact move e o λc m a w=>by simp[dN,Uf,UM,UI,d,b]
   |label i=>simp[bp] at g
   |scope i=>simp[bp] at g
   |goto i=>simp[bp] at g
   |refuse s=>exact T λm a=>by simp[dN,Uf,UM,UI,d,b]
   |seq p F=>
    simp only[bp,Uv] at g;exact move (.code p :: .code F::e) (r g.1 (r g.2 o)) λc m a w=>by simp[dN,Uf,UM,UI,d,b]
   |block id p=>exact move (.code p :: .inBlock id::e) (r g (r trivial o)) λc m a w=>by simp[dN,Uf,UM,UI,d,b]
   |loop p=>exact move (.code p :: .inLoop p::e) (r g (r g o)) λc m a w=>by simp[dN,Uf,UM,UI,d,b]
   |cond n p F=>
    simp only[bp,Uv] at g;cases y:fr.eval n with
    |bool S=>
     refine move (.code (if S then p else F)::e) (r ?_ o) λc m a w=>by simp[dN,Uf,UM,UI,d,b,y]
     cases S
     ·exact g.2
     ·exact g.1
    |_=>exact T λm a=>by simp[dN,Uf,UM,UI,d,b,y]
   |ret=>
    refine uL k u h (λj=>(W j).elim id λn=>absurd b (n.2.1 e)) (I .ret) (λq j=>by cases j;rfl) (λJ=>.inr λc _ m a w=>?_) (λi x c m a w=>?_)
    ·simp[dN,Uf,UM,UI,d,b,J]
    ·simp only[dN,Uf,UM,UI,d,b,x];rfl
   |exit id=>
    cases C:Yh id e with
    |some M=>exact move M (r9 o C) λc m a w=>by simp[dN,Uf,UM,UI,d,b,C]
    |none=>
     refine uL k u h (λj=>(W j).elim (λn=>n) λn=>absurd C (n.2.2 id e b)) (I (.exit id)) (λq j=>by cases j;rfl) (λJ=>.inl λm a=>?_) (λi x c m a w=>?_)
     ·simp[dN,Uf,UM,UI,d,b,C,J]
     ·simp only[dN,Uf,UM,UI,d,b,C,x];rfl
   |region id z ab=>
    cases ab with
    |false=>exact move (.inRegion z (List.range z.size)::e) (r g o) λc m a w=>by simp[dN,Uf,UM,UI,d,b]
    |true=>
     refine .inr ⟨{fr with todo:=.inRegion z (XZ (P.follows .mixedOrders) z (w.tape w.drawn (.order fr.fn id)))::e},aE,{w with drawn:=w.drawn+1},#[],λm a=>?_,iO h (uw h.top (r g o)) Y,u,rfl,Nat.le_succ _,T6 _,rfl,rfl,λj C=>by simp at C,.inr λaw A av Q H=>⟨av,⟨⟨Q.size,Q.at_,Q.os,Q.output⟩,λF al=>⟨al,rfl⟩⟩,λm a=>?_⟩⟩
     ·simp[dN,Uf,UM,UI,d,b,choose,Wt,Question.forced,Question.cut]
     ·have:=H 0 (.order fr.fn id) (by simp);simp only[Nat.add_zero] at this;simp[dN,Uf,UM,UI,d,b,choose,Wt,Question.forced,Question.cut,k.mixed,sh,this]
   |rangeFunc f ar p F=>
    simp only[bp,Uv] at g;refine oI k u fr.fn (CI fr.fn fr.tmps ar p F fr.roundOf g.1 g.2) (λc m a R=>match R with
     | .ok (i,mark) w=>VN c Z {fr with todo:=.inRangeFunc i::e,defers:=mark++fr.defers} (aE++a) K (do let A <-X6 fr.eval {callee:=.value f,args:= #[.const (.func (.yield i) #[] #[])],argTypes:= #[]} 0;invoke A.target A.args) w
     | .halt _ w=>.ended (.stuck "range over a function: no such loop" (fr.pos c)) w) (λc ae m a w _ _=>?_) (λap E H G=>?_) (λn E y G=>?_) (λS E m a=>⟨_,_,_,rfl⟩)
    ·simp only[dN,Uf,UM,UI,d,b];rfl
    ·obtain⟨i,mark⟩:=ap;have am:mX P {fr with todo:=.inRangeFunc i::e,defers:=mark++fr.defers}:=⟨r trivial o,λA B=>by
      rcases U1.1 B with B|B
      ·exact H A B
      ·exact h.top.defers A B,h.top.kind⟩
     exact uK k G (iO h am Y) (iN (zB P P' fr.roundOf.isSome _ _ _ Y) λA B=>uV k.T k.E _ _ _ B) (by simp)
    ·exact .inl λm a=>⟨_,_,_,rfl⟩
def Ms{a:Bool}{t:Target}(h:lJ t=Z):yx P a t=Z:=by
 cases t<;>first|rfl|(simp[lJ] at h)
def Ct(j:oY P P')(F:Hp (bn P) w){fr:Us}{aE:List Us}(h:eM P fr aE)(d:Wj)(E:lJ d.target=Z)(J:fr.mode≠.run):BC P P' w (λR m cs w=>callDeferred R fr (aE++cs) K d w):=by
 obtain⟨o,u⟩:=d;by_cases y:o= .nil/\∃x,fr.mode= .panicking x
 ·obtain⟨rfl,x,D⟩:=y;refine .inl λm cs=>?_;dsimp only;unfold callDeferred;rw[if_pos ?hP]
  case hP=>simp[D]
  exact⟨_,_,_,rfl⟩
 ·have r:∀e,Hp (bn P) e->BC P P' e (λR m cs w=>.go (Uf fr (aE++cs)) w):=λe b=>iA b _ _ h;refine oI j F fr.fn (uV j.T j.E Z o u (Ms E)) (λR m cs q=>match q with
   | .ok (.enter f args) w=>.go (Uf (UY R f args .deferred) (fr::aE++cs)) w
   | .ok (.round n f p g i) w=>.go (Uf (WW n f p g i .deferred) (fr::aE++cs)) w
   | .ok _ w=>.go (Uf fr (aE++cs)) w
   | .halt (.panic v) w=>.go (Uf (fr.raise [{v,recovered:=T5}]) (aE++cs)) w
   | .halt a w=>.ended (match a with| .unsupported A=>.unsupported A (fr.pos R)| .stuck s=>.stuck s (fr.pos R)|_=>.stuck "" "") w) (λR H m cs w z l=>?_) (λg e k b=>?_) (λa e c b=>?_) (λL e m cs=>⟨_,_,_,rfl⟩)
  ·unfold callDeferred;rw[if_neg ?hL]
   case hL=>
    intro C;apply y;cases o<;>cases l:fr.mode<;>simp[l] at C ⊢
   generalize I:(invoke o u).runT R w #[]=B at z l;obtain⟨q,G⟩:=B;dsimp only;cases q with
   |ok g t=>
    have:=l g t Y;cases g<;>first|exact absurd this (λh=>h)|(cases this;done)|rfl
   |halt a t=>
    have:=z a t Y;cases a<;>first|(simp[pg] at this;done)|rfl
  ·cases g with
   |value v=>exact r e b
   |skip=>exact r e b
   |enter f args=>exact A9 b j f args .deferred (.inr Y) (fr::aE) (λa c=>by
    rcases VM.1 c with rfl|c
    ·exact h.top
    ·exact h.rest a c) h.bot
   |round n f p a i=>exact iA b (WW n f p a i .deferred) (fr::aE) ⟨Eu n f p a i .deferred (.inr Y) k.1 k.2,λa c=>by
    rcases VM.1 c with rfl|c
    ·exact h.top
    ·exact h.rest a c,h.bot⟩
   |defer d=>exact r e b
   |recover=>cases k
   |_=>exact k.elim
  ·cases a with
   |panic v=>exact iA b _ _ (iO h (kZ h.top _).1 (kZ h.top _).2)
   |stuck s=>exact .inl λm cs=>⟨_,_,_,rfl⟩
   |unsupported A=>exact .inl λm cs=>⟨_,_,_,rfl⟩
   |_=>simp[pg] at c
def zC(a:Twin P P')(fn:WC)(tmps:Array U):St P P' (bn P) (UX fn tmps):=by
 unfold UX;refine ag (IC _ _ λb=>?_) λe=>trivial;cases b with
 |tmp c=>exact trivial
 |cell d c=>exact ag (oe a (ez P) _) λ_=>oR a _ _
def Gu(i:oY P P')(j:∀f:Nat,(P'.funcs[f]? =K↔P.funcs[f]? =K)/\∀fn c:WC,P.funcs[f]? =I fn->P'.funcs[f]? =I c->c.results=fn.results)(l:Hp (bn P) w){fr:Us}{aE:List Us}(h:eM P fr aE)(R:oX fr aE)(u:fr.mode≠.run):BC P P' w (dN fr aE):=by
 have J:∀a m b w,dN fr aE a m b w=Yi a m fr (aE++b) K w:=λa m b w=>by
  unfold dN;cases o:fr.mode<;>first|exact absurd o u|simp[Uf,UM,o]
 refine gG (λa _ m b w=>J a m b w) ?_;cases e:fr.defers with
 |cons r A=>
  have Q:lJ r.target=Z:=h.top.defers r (by simp[e]);have D:mX P {fr with defers:=A}:=⟨h.top.todo,λg d=>h.top.defers g (by simp[e,d]),h.top.kind⟩;have T:=Ct i l (iO h D Y) r Q u;obtain⟨U,W⟩:=r;cases U with
  |collected E=>
   refine oI i l fr.fn (wX E) (λa m b y=>match y with
    | .ok F w=>.go (Uf {fr with defers:=F++A} (aE++b)) w
    | .halt _ w=>.ended (.stuck "the deferred calls of a range-over-func loop have been taken" (fr.pos a)) w) (λa t m b w _ _=>?_) (λz p B n=>?_) (λg p d n=>?_) (λV p m b=>⟨_,_,_,rfl⟩)
   ·unfold Yi;rw[e];rfl
   ·exact iA n _ _ (iO h ⟨h.top.todo,λg d=>by
     rcases U1.1 d with d|d
     ·exact B g d
     ·exact D.defers g d,h.top.kind⟩ Y)
   ·exact .inl λm b=>⟨_,_,_,rfl⟩
  |_=>
   refine gG (λa _ m b w=>?_) T;unfold Yi;rw[e]
 |nil=>
  cases aE with
  |nil=>exact absurd e ((R Y).1 u)
  |cons q aE=>
   have C:mX P q:=h.rest q (by simp);have S:∀f∈aE,mX P f:=λf j=>h.rest f (by simp[j]);cases x:fr.mode with
   |run=>exact absurd x u
   |panicking G=>
    have O:∀a,fr.catches a=T5:=λa=>by
     unfold Frame.catches
     split
     ·rename_i H;exact Yq (h.top.todo (Item.call _ _ _ _) (by rw[H];exact Xs ..))
     ·rfl
    refine gG (F':=λa m b w=>.go (Uf (q.raise G) (aE++b)) w) (λa _ m b w=>?_) (iA l _ _ ⟨(kZ C _).1,S,xR (kZ C _).2 h.bot⟩);unfold Yi;rw[e];simp[x,O,Uf]
   |returning=>
    cases k:P.funcs[fr.fn]? with
    |none=>
     have X:=(j fr.fn).1.2 k;refine gG (λa t m b w=>?_) (sr i l h (fr.tmps.getD 0 Vk));have:a.funcs[fr.fn]? =K:=by rcases t with rfl|rfl<;>assumption
     unfold Yi;rw[e];simp[x,this]
    |some fn=>
     refine oI i l fr.fn (zC i.T fn fr.tmps) (λa m b y=>match y with
      | .ok v w=>WY a m fr (q::aE++b) K v w
      | .halt (.stuck s) w=>.ended (.stuck s (fr.pos a)) w
      | .halt _ w=>.ended (.stuck "return: the result variables cannot be read" (fr.pos a)) w) (λa t m b w _ _=>?_) (λz p B n=>?_) (λg p d n=>?_) (λV p m b=>⟨_,_,_,rfl⟩)
     ·have:∃c,a.funcs[fr.fn]? =I c/\c.results=fn.results:=by
       rcases t with rfl|rfl
       ·exact⟨fn,k,rfl⟩
       ·cases o:a.funcs[fr.fn]? with
        |none=>rw[(j fr.fn).1.1 o] at k;cases k
        |some c=>exact⟨c,rfl,(j fr.fn).2 fn c k o⟩
      obtain⟨c,L,M⟩:=this;have N:UX c fr.tmps=UX fn fr.tmps:=by unfold UX;rw[M]
      unfold Yi;rw[e];simp only[x,L,N];rfl
     ·exact sr i n h z
     ·cases g<;>exact .inl λm b=>⟨_,_,_,rfl⟩
def zb(b:oY P P')(g:∀f:Nat,(P'.funcs[f]? =K↔P.funcs[f]? =K)/\∀fn a:WC,P.funcs[f]? =I fn->P'.funcs[f]? =I a->a.results=fn.results)(d:Hp (bn P) w){fr:Us}{aE:List Us}(h:eM P fr aE)(e:oX fr aE):BC P P' w (dN fr aE):=by
 by_cases c:fr.mode= .run
 ·exact Nj b d h e c
 ·exact Gu b g d h e c
end
structure Twins(P P':Ue):Prop where
 A:oY P P'
 R:∀f:Nat,(P'.funcs[f]? =K↔P.funcs[f]? =K)/\∀fn fn':WC,P.funcs[f]? =I fn->P'.funcs[f]? =I fn'->fn'.results=fn.results
def Still.self{P P':Ue}{h:Xv->Prop}{α:Type}{Q:α->Prop}:∀{s:Wu α},Still P P' h Q s->Still P P h Q s:=by
 intro s
 induction s with
 |pure e=>intro a;exact a
 |load m e c b=>intro a v;exact b v (a v)
 |store m e v c b=>intro a;exact b a
 |new f c b=>intro a;exact⟨a.1,λd=>b d (a.2 d)⟩
 |shape d c b=>intro a s;exact b s (a s)
 |freeze e g c b=>intro a;exact b a
 |frozen e c b=>intro a i;exact b i (a i)
 |getObj d c b=>intro a;exact⟨λf j=>b f (a.1 f j),a.2⟩
 |setObj d f c b=>intro a;exact⟨a.1,b a.2⟩
 |choose l c b=>intro a g;exact b g (a g)
 |sys k c b=>intro a;exact⟨a.1,λd=>b d (a.2 d)⟩
 |program c b=>intro a;exact⟨rfl,b P a.2⟩
 |mark m c b=>intro a;exact⟨a.1,b a.2⟩
 |halt a=>intro a;exact a
def Views.self{P P':Ue}(h:Views P P'):Views P P:=by
 have i:∀(a:F) c d b m,a.viewLoad P' c d b m=a.viewLoad P c d b m:=λa c d b m=>h.load a a c d b m λ_ _ _=>Iff.rfl;have s:∀(a:F) c d b v m,a.viewStore P' c d b v m=a.viewStore P c d b v m:=λa c d b v m=>by
  rcases h.store a a c d b v m λ_ _ _=>Iff.rfl with⟨o,j,k⟩|⟨l,i,f,n,j,k,-⟩<;>rw[j,k]
 refine⟨λa e c d b m g=>(i e c d b m).symm.trans (h.load a e c d b m g),h.touch,λa e c d b v m g=>?_⟩;rw[<-s e];exact h.store a e c d b v m g
def Twins.self{P P':Ue}(h:Twins P P'):Twins P P:=
 ⟨⟨⟨λ_=>rfl,λ_=>rfl,rfl,λ_=>rfl,λ_=>rfl,rfl,λ_ _ _ _ _ _=>rfl,λ_ _ _ _ _=>rfl,λ_ _ _=>rfl,λ_ _=>rfl,λ_=>rfl,λ_ _=>rfl,rfl,rfl,rfl,λ_=>.inl Y⟩,
  ⟨h.A.E.named,h.A.E.next,λf c d b a e args=>(h.A.E.find f c d b a e args).self⟩,λ_=>rfl,rfl,λ_=>.inl Y,h.A.FA,h.A.view.self⟩,λf=>⟨Iff.rfl,λc g b a=>by rw[b] at a;cases a;rfl⟩⟩
structure BB(P:Ue)(w w':F)(es:Array Vm):Prop where
 hp:Hp (bn P) w'
 tape:w'.tape=w.tape
 drawn:w.drawn<=w'.drawn
 size:w.heap.size<=w'.heap.size
 os:w'.os=w.os
 output:w'.output=w.output
 evs:∀e∈es,C6 w'.heap.size e
def Fin (P P':Ue)(Stop:Us->List Us->F->Prop)(fr:Us)(aE:List Us)(w u:F):Prop:=
 ∀d:Us->List Us->F->F->Prop,(∀fr aE w u,Stop fr aE w->d fr aE w u)->
  (∀fr aE w u (c:Tp->Nat->Us×List Us×F×F×Array Vm),(∀b a m e,UM P' m (Uf fr (aE++e)) (sh b a u)= .go (Uf (c b a).1 ((c b a).2.1++e)) (c b a).2.2.2.1 (c b a).2.2.2.2)->
    (∀b a,BB P (sh b a w) (c b a).2.2.1 (c b a).2.2.2.2)->(∀b a,rV (sh b a w) (sh b a u) (c b a).2.2.1 (c b a).2.2.2.1/\(c b a).2.2.2.1.tape=(c b a).2.2.1.tape)->(∀b a,eM P (c b a).1 (c b a).2.1)->oX fr aE->
    (∀b a,d (c b a).1 (c b a).2.1 (c b a).2.2.1 (c b a).2.2.2.1)->d fr aE w u)->d fr aE w u
def Fin.stop{P P':Ue}{Stop:Us->List Us->F->Prop}{fr:Us}{aE:List Us}{w u:F}(h:Stop fr aE w):Fin P P' Stop fr aE w u:=λb a _=>a _ _ _ _ h
def Fin.step{P P':Ue}{Stop:Us->List Us->F->Prop}{fr:Us}{aE:List Us}{w u:F}(b:Tp->Nat->Us×List Us×F×F×Array Vm)(go:∀a d m cs,UM P' m (Uf fr (aE++cs)) (sh a d u)= .go (Uf (b a d).1 ((b a d).2.1++cs)) (b a d).2.2.2.1 (b a d).2.2.2.2)
 (g:∀a d,BB P (sh a d w) (b a d).2.2.1 (b a d).2.2.2.2) (j:∀a d,rV (sh a d w) (sh a d u) (b a d).2.2.1 (b a d).2.2.2.1/\(b a d).2.2.2.1.tape=(b a d).2.2.1.tape) (ok:∀a d,eM P (b a d).1 (b a d).2.1) (i:oX fr aE) (h:∀a d,Fin P P' Stop (b a d).1 (b a d).2.1 (b a d).2.2.1 (b a d).2.2.2.1):Fin P P' Stop fr aE w u:=
 λe f c=>c _ _ _ _ b go g j ok i λa d=>h a d e f c
def bG:Us:={(default:Us) with todo:=[.code (.refuse "")],defers:=[{target:=.nil,args:= #[]}],mode:=.run,kind:=.normal}
section
variable {P P':Ue}
def CQ(c:Option (List Vr))(w:F):∃o w' es,UM P Z (Uf ((c.map bG.raise).getD bG) []) w= .ended o w' es:=by
 cases c with
 |none=>simp[Uf,UM,UI,bG]
 |some a=>simp[Uf,UM,bG,Frame.raise,Yi,callDeferred]
def Tv(N:Twins P P'){fr:Us}{w:F}(Q:Hp (bn P) w)(h:eM P fr [])(t:¬oX fr []):(∃o w' es,UM P Z (Uf fr [bG]) w= .ended o w' es)\/∃c w' es,UM P Z (Uf fr [bG]) w= .go (Uf (((c:Option (List Vr)).map bG.raise).getD bG) []) w' es:=by
 have E:fr.kind= .normal:=h.bot;have q:∀v w,WY P Z fr [bG] K v w= .go (Uf bG []) w:=λv w=>by simp[WY,E,Uf,VW,bG]
 have r:∀es g,((∃o w' es,g=GStep.ended o w' es)\/∃c w' es,g=GStep.go (Uf (((c:Option (List Vr)).map bG.raise).getD bG) []) w' es)->(∃o w' j,WQ es g=GStep.ended o w' j)\/∃c w' j,WQ es g=GStep.go (Uf (((c:Option (List Vr)).map bG.raise).getD bG) []) w' j:=by
  rintro es g (⟨o,w',j,rfl⟩|⟨c,w',j,rfl⟩)
  ·exact .inl ⟨_,_,_,rfl⟩
  ·exact .inr ⟨c,_,_,rfl⟩
 by_cases e:fr.mode= .run
 ·
  have M:∃b p,fr.roundOf=I b/\∀w,UM P Z (Uf fr [bG]) w=WQ (seen P fr.fn ((Yc b p).runT P w #[]).2) (match ((Yc b p).runT P w #[]).1 with
   | .ok v w=>WY P Z fr [bG] K v w
   | .halt _ w=>.ended (.stuck "range over a function: no such loop" (fr.pos P)) w):=by
   have:¬(fr.roundOf=K\/(fr.todo≠[]/\(∀a,fr.todo≠.code .ret::a)/\∀id a,fr.todo= .code (.exit id)::a->Yh id a≠K)):=λD=>t λ_=>⟨λh=>absurd e h,λ_=>D⟩;rw[not_or] at this;obtain⟨J,n⟩:=this;obtain⟨b,d⟩:∃b,fr.roundOf=I b:=by
    cases L:fr.roundOf with
    |none=>exact absurd L J
    |some b=>exact⟨b,rfl⟩
   by_cases s:fr.todo=[]
   ·exact⟨b,K,d,λw=>by simp only[Uf,UM,UI,e,s,d];rfl⟩
   ·by_cases k:∃a,fr.todo= .code .ret::a
    ·obtain⟨a,k⟩:=k;exact⟨b,I .ret,d,λw=>by simp only[Uf,UM,UI,e,k,d];rfl⟩
    ·by_cases l:∃id a,fr.todo= .code (.exit id)::a/\Yh id a=K
     ·obtain⟨id,a,l,A⟩:=l;exact⟨b,I (.exit id),d,λw=>by simp only[Uf,UM,UI,e,l,A,d];rfl⟩
     ·exact absurd ⟨s,λa i=>k ⟨a,i⟩,λid a i H=>l ⟨id,a,i,H⟩⟩ n
  obtain⟨b,p,d,C⟩:=M;rw[C];refine r _ _ ?_;cases((Yc b p).runT P w #[]).1 with
  |ok v f=>exact .inr ⟨K,f,_,q v f⟩
  |halt u f=>exact .inl ⟨_,_,_,rfl⟩
 ·have m:fr.defers=[]:=by
   by_cases m:fr.defers=[]
   ·exact m
   ·exact absurd (λ_=>⟨λ_=>m,λh=>absurd h e⟩) t
  have y:∀w,UM P Z (Uf fr [bG]) w=Yi P Z fr [bG] K w:=λw=>by
   cases n:fr.mode<;>first|exact absurd n e|simp[Uf,UM,n]
  rw[y];unfold Yi;rw[m];cases G:fr.mode with
  |run=>exact absurd G e
  |panicking x=>
   have B:fr.catches P=T5:=by
    unfold Frame.catches
    split
    ·rename_i i;exact Yq (h.top.todo (Item.call _ _ _ _) (by rw[i];exact Xs ..))
    ·rfl
   exact .inr ⟨I x,w,#[],by simp[B,Uf]⟩
  |returning=>
   dsimp only;cases O:P.funcs[fr.fn]? with
   |none=>exact .inr ⟨K,w,_,q _ w⟩
   |some z=>
    dsimp only;refine r _ _ ?_;cases((UX z fr.tmps).runT P w #[]).1 with
    |ok v f=>exact .inr ⟨K,f,_,q v f⟩
    |halt u f=>cases u<;>exact .inl ⟨_,_,_,rfl⟩
end
section
variable {P P':Ue}
def kQ(a:P'.toTables=P.toTables)(t:Ug):P'.info? t=P.info? t:=by rw[a]
def jE(a:P'.toTables=P.toTables)(t:Ug):P'.underlying t=P.underlying t:=by unfold Program.underlying;simp only[kQ a]
def j9(a:P'.toTables=P.toTables)(t:Ug):P'.cellsOf t=P.cellsOf t:=by unfold Program.cellsOf;simp only[kQ a]
def lm(a:P'.toTables=P.toTables)(t:Ug):P'.bytesOf t=P.bytesOf t:=by unfold Program.bytesOf;simp only[kQ a]
def lu(a:P'.toTables=P.toTables):P'.depth=P.depth:=by unfold Program.depth;rw[a]
def tH(a:P'.toTables=P.toTables)(t:Ug):P'.underlyingId t=P.underlyingId t:=by unfold Program.underlyingId;simp only[kQ a]
def sA(a:P'.toTables=P.toTables)(d:Nat):∀t o,byteOfCell P' d t o=byteOfCell P d t o:=by
 induction d with
 |zero=>intro t o;rfl
 |succ d b=>intro t o;simp only[byteOfCell,jE a,j9 a,lm a,b]
def Aw(a:P'.toTables=P.toTables)(d:Nat):∀t o,cellOfByte P' d t o=cellOfByte P d t o:=by
 induction d with
 |zero=>intro t o;rfl
 |succ d b=>intro t o;simp only[cellOfByte,jE a,j9 a,lm a,b]
def KP(a:P'.toTables=P.toTables)(d:Nat)(e:Ug)(c o:Nat)(b:Int):cellAtBytes P' d e c o b=cellAtBytes P d e c o b:=by
 simp only[cellAtBytes,j9 a,lm a,sA a,Aw a]
def wh(a:P'.toTables=P.toTables)(d:Nat):∀t u,P'.alikeButTags d t u=P.alikeButTags d t u:=by
 induction d with
 |zero=>intro t u;rfl
 |succ d b=>intro t u;simp only[Program.alikeButTags,jE a,tH a,kQ a,b]
def G9(a:P'.toTables=P.toTables)(t:Ug):P'.stoodInAs t=P.stoodInAs t:=by
 simp only[Program.stoodInAs,Program.ownRow,jE a,tH a,kQ a,wh a,lu a,a]
def tG(a:P'.toTables=P.toTables)(t:Ug):P'.stoodInHeld t=P.stoodInHeld t:=by
 simp only[Program.stoodInHeld,G9 a,kQ a]
def KQ(a:P'.toTables=P.toTables)(t:Ug):P'.packed t=P.packed t:=by
 simp only[Program.packed,Program.packedAs,Program.ownRow,jE a,tH a,kQ a,wh a,lu a,a]
def NY(a:P'.toTables=P.toTables)(d:Nat):∀t,P'.holdsPacked d t=P.holdsPacked d t:=by
 induction d with
 |zero=>intro t;rfl
 |succ d b=>intro t;simp only[Program.holdsPacked,KQ a,jE a,b]
def NX(a:P'.toTables=P.toTables)(d:Nat):∀t,P'.eqGuardType d t=P.eqGuardType d t:=by
 induction d with
 |zero=>intro t;rfl
 |succ d b=>intro t;simp only[Program.eqGuardType,jE a,b]
def N0(a:P'.toTables=P.toTables)(d:Nat):∀t u,sameLayout P' d t u=sameLayout P d t u:=by
 induction d with
 |zero=>intro t u;rfl
 |succ d b=>intro t u;simp only[sameLayout,jE a,tH a,tG a,b]
def NZ(a:P'.toTables=P.toTables)(f:Ug->Bool)(d:Nat):∀e c o n,rowAt P' f d e c o n=rowAt P f d e c o n:=by
 induction d with
 |zero=>intro e c o n;rfl
 |succ d b=>intro e c o n;simp only[rowAt,jE a,j9 a,tG a,b]
def P7(a:P'.toTables=P.toTables)(d:Nat):∀e c o u n,liesAt P' d e c o u n=liesAt P d e c o u n:=by
 induction d with
 |zero=>intro e c o u n;rfl
 |succ d b=>intro e c o u n;simp only[liesAt,jE a,lu a,NZ a,N0 a,b]
def CV(a:P'.toTables=P.toTables)(d:Nat):∀t o,plainCell P' d t o=plainCell P d t o:=by
 induction d with
 |zero=>intro t o;rfl
 |succ d b=>intro t o;simp only[plainCell,jE a,j9 a,b]
def G8(a:P'.toTables=P.toTables)(d:Nat):∀t b,cellHolding P' d t b=cellHolding P d t b:=by
 induction d with
 |zero=>intro t b;rfl
 |succ d c=>intro t b;simp only[cellHolding,jE a,j9 a,lm a,c]
def N1(a:P'.toTables=P.toTables)(d:Nat):∀t,tight P' d t=tight P d t:=by
 induction d with
 |zero=>intro t;rfl
 |succ d b=>intro t;simp only[tight,jE a,lm a,b]
def CW(a:P'.toTables=P.toTables)(c:Array U)(e:Ug)(f:Nat):∀x s,seenCells P' c e f x s=seenCells P c e f x s:=by
 induction f with
 |zero=>intro x s;rfl
 |succ f b=>intro x s;simp only[seenCells,G8 a,lu a,j9 a,lm a,b]
def IG(b:P'.toTables=P.toTables){w u:F}{a:UJ}(h:∀c e f,w.heap[a.block]? =I (.cells c e f)↔u.heap[a.block]? =I (.cells c e f))(t:Ug)(k:UJ)(m:Bool):u.seen P' a t k m=w.seen P a t k m:=by
 have j:(∃c e f,w.heap[a.block]? =I (.cells c e f)/\u.heap[a.block]? =I (.cells c e f))\/((∀c e f,w.heap[a.block]? ≠I (.cells c e f))/\∀c e f,u.heap[a.block]? ≠I (.cells c e f)):=by
  by_cases d:∃c e f,w.heap[a.block]? =I (.cells c e f)
  ·obtain⟨c,e,f,d⟩:=d;exact .inl ⟨c,e,f,d,(h c e f).1 d⟩
  ·exact .inr ⟨λc e f l=>d ⟨c,e,f,l⟩,λc e f l=>d ⟨c,e,f,(h c e f).2 l⟩⟩
 unfold World.seen;simp only[CV b,sA b,j9 b,lm b,lu b,CW b];rcases j with⟨c,e,f,g,i⟩|⟨g,i⟩
 ·rw[g,i]
 ·cases j:w.heap[a.block]? with
  |none=>cases n:u.heap[a.block]? with
   |none=>rfl
   |some o=>cases o<;>first|exact absurd n (i _ _ _)|rfl
  |some p=>cases n:u.heap[a.block]? with
   |none=>cases p<;>first|exact absurd j (g _ _ _)|rfl
   |some o=>cases p<;>first|exact absurd j (g _ _ _)|(cases o<;>first|exact absurd n (i _ _ _)|rfl)
def Iy{P:Ue}{w:F}{a:UJ}{t:Ug}{k:UJ}{m:Bool}{r:_}(h:w.seen P a t k m= .ok r):a.block<w.heap.size:=by
 rcases Vy a.block w.heap.size with b|b
 ·exact b
 ·have c:w.heap[a.block]? =K:=Vl b;unfold World.seen at h;rw[c] at h;simp only[bind,Except.bind,throw,throwThe,YF,pure,Except.pure] at h
  repeat' first|(cases h;done)|split at h
def N4(q:P'.toTables=P.toTables):Views P P':=by
 refine⟨λc k b j p m a=>?_,λc b j p m v s a y w=>?_,λc k b j p v m a=>?_⟩
 ·unfold World.viewLoad;rw[IG q a]
 ·unfold World.viewLoad at a;cases h:c.seen P b j p m with
  |error e=>rw[h] at a;cases a
  |ok C=>
   have u:=Iy h;rw[h] at a;simp only[bind,Except.bind,throw,throwThe,YF,pure,Except.pure] at a
   split at a
   ·cases a;obtain⟨e,_,rfl⟩:=U7.1 w;exact u
   ·cases a
 ·unfold World.viewStore;rw[IG q a,N1 q,lu q];cases H:tight P P.depth j with
  |false=>exact .inl ⟨_,rfl,rfl⟩
  |true=>
   cases h:c.seen P b j p m with
   |error e=>exact .inl ⟨e,rfl,rfl⟩
   |ok C=>
    have u:=Iy h;obtain⟨t,d,f,first,i,z⟩:=C;cases G:v.bytes? with
    |none=>exact .inl ⟨_,rfl,rfl⟩
    |some bytes=>
     by_cases r:I bytes.length≠i.bytes?.map (·.length)
     ·refine .inl ⟨ "memory seen as another type: a value of another size",?_,?_⟩
      ·show(if I bytes.length≠i.bytes?.map (·.length) then _ else _)=_;rw[if_pos r];rfl
      ·show(if I bytes.length≠i.bytes?.map (·.length) then _ else _)=_;rw[if_pos r];rfl
     ·have E:∀(l n:Except String (F×List UJ)) (o:Except String (Array U)),l=o.bind (λg=>.ok ({c with heap:=c.heap.setIfInBounds b.block (.cells g d f)},z.map λx=>({block:=b.block,off:=x.1}:UJ)))->n=o.bind (λg=>.ok ({k with heap:=k.heap.setIfInBounds b.block (.cells g d f)},z.map λx=>({block:=b.block,off:=x.1}:UJ)))->
       (∃D,l= .error D/\n= .error D)\/∃t d f s,l= .ok ({c with heap:=c.heap.setIfInBounds b.block (.cells t d f)},s)/\n= .ok ({k with heap:=k.heap.setIfInBounds b.block (.cells t d f)},s)/\∀y∈s,y.block<c.heap.size:=by
       intro l n o A B;cases o with
       |error e=>exact .inl ⟨e,A,B⟩
       |ok g=>
        refine .inr ⟨g,d,f,_,A,B,λy w=>?_⟩;obtain⟨e,_,rfl⟩:=U7.1 w;exact u
      apply E
      ·show(if I bytes.length≠i.bytes?.map (·.length) then _ else _)=_;rw[if_neg r];rfl
      ·show(if I bytes.length≠i.bytes?.map (·.length) then _ else _)=_;rw[if_neg r];rfl
def P8(a:P'.toTables=P.toTables)(d:∀f:Nat,P'.funcs[f]? =P.funcs[f]? \/∃fn c:WC,P.funcs[f]? =I fn/\P'.funcs[f]? =I c/\c.name=fn.name/\fn.body.isNone=T5/\c.body.isNone=T5):Twin P P':=
 ⟨kQ a,jE a,by rw[a],j9 a,lm a,lu a,λb=>P7 a b,λb=>KP a b,λb=>sA a b,λb=>NX a b,tG a,λb=>NY a b,by rw[a],by rw[a],by rw[a],d⟩
end
end Cc
end Go.Proofs.YtjidbonhhpkljaaGreat
namespace Go.Proofs
def an.cut (fn:WC):WC:={fn with body:=I (.refuse "")}
def an.of(P:Ue):Ue:={P with funcs:=((P.funcs.modify 78 an.cut).modify 116 an.cut).modify 117 an.cut}
def an.tables(P:Ue):P.toTables=(an.of P).toTables:=rfl
namespace YtjidbonhhpkljaaGreat.Cc
open Go
def SB(P:Ue)(f:Nat):(an.of P).funcs[f]? =if f=78\/f=116\/f=117 then(P.funcs[f]?).map an.cut else P.funcs[f]? :=by
 show(((P.funcs.modify 78 an.cut).modify 116 an.cut).modify 117 an.cut)[f]? =_;simp only[VV];by_cases b:f=78
 ·subst b;simp
 ·by_cases c:f=116
  ·subst c;simp
  ·by_cases d:f=117
   ·subst d;simp
   ·simp only[b,c,d,or_self,if_false];rw[if_neg (λa=>d a.symm),if_neg (λa=>c a.symm),if_neg (λa=>b a.symm)]
def Iu(f:Nat):(an.of T9).funcs[f]? =if f=78\/f=116\/f=117 then(T9.funcs[f]?).map an.cut else T9.funcs[f]? :=SB _ f
def jW{f:Nat}(h1:(f==78)=T5)(b:(f==116)=T5)(c:(f==117)=T5):(an.of T9).funcs[f]? =T9.funcs[f]? :=by
 rw[Iu,if_neg];simp at h1 b c;rintro(a|a|a)
 ·exact h1 a
 ·exact b a
 ·exact c a
def oC(f:Nat):T9.funcs[f]? =(an.of T9).funcs[f]? \/∃fn:WC,fn.body.isNone=T5/\T9.funcs[f]? =I fn/\(an.of T9).funcs[f]? =I (an.cut fn):=by
 rw[Iu];by_cases a:f=78\/f=116\/f=117
 ·rw[if_pos a]
  right
  rcases a with rfl|rfl|rfl
  ·exact⟨_,rfl,Tryz.func78,by rw[Tryz.func78];rfl⟩
  ·exact⟨_,rfl,Tryz.func116,by rw[Tryz.func116];rfl⟩
  ·exact⟨_,rfl,Tryz.func117,by rw[Tryz.func117];rfl⟩
 ·rw[if_neg a];exact .inl rfl
def M6:Twin (an.of T9) T9:=P8 (an.tables _) λf=>by
 rcases oC f with a|⟨b,c,d,e⟩
 ·exact .inl a
 ·exact .inr ⟨_,b,e,d,rfl,rfl,c⟩
def jF{P:Ue}{p:WC->Bool}(h:P.funcs.toList.all p=Z){f:Nat}{fn:WC}(a:P.funcs[f]? =I fn):p fn=Z:=by
 obtain⟨b,rfl⟩:=Ua.1 a;exact Uy.1 h _ (by simp)
def tN:(T9.funcs.toList.all λfn=> !(fn.name == "runtime.NumGoroutine"))=Z:=by kernel_rfl
def RY:(T9.funcs.toList.all λfn=> !fn.body.isNone||(Extern.findNext fn).isNone)=Z:=by kernel_rfl
def Rx:((an.of T9).funcs.toList.all λfn=>match fn.body with|some c=>bp (an.of T9) T5 c|none=>Z)=Z:=by kernel_rfl
end YtjidbonhhpkljaaGreat.Cc
end Go.Proofs
namespace Go.Proofs.YtjidbonhhpkljaaGreat
abbrev aI:Ue:=Go.Proofs.an.of T9
end Go.Proofs.YtjidbonhhpkljaaGreat
namespace Go.Proofs
namespace an
def tI(P:Ue)(t:Ug):(an.of P).underlying t=P.underlying t:=YtjidbonhhpkljaaGreat.Cc.jE (an.tables P).symm t
def bD{f:Nat}{x:Option WC}(h:T9.funcs[f]? =x)(h1:(f==78||(f==116||f==117))=T5):(an.of T9).funcs[f]? =x:=(YtjidbonhhpkljaaGreat.Cc.jW (Bool.or_eq_false_iff.1 h1).1 (Bool.or_eq_false_iff.1 (Bool.or_eq_false_iff.1 h1).2).1 (Bool.or_eq_false_iff.1 (Bool.or_eq_false_iff.1 h1).2).2).trans h
def info(P:Ue)(t:Ug):(an.of P).info? t=P.info? t:=YtjidbonhhpkljaaGreat.Cc.kQ (an.tables P).symm t
@[simp,go_sem] theorem vT (P:Ue) (t:Ug) (w:F):Wt (an.of P) (XC t) w=Wt P (XC t) w:=by
 unfold XC program;simp only[bind,Sem.bind,Wt,info];generalize P.info? t=a;cases a<;>rfl
@[simp,go_sem] theorem RE (P:Ue) (t:Ug) (w:F):Wt (an.of P) (Xq t) w=Wt P (Xq t) w:=by
 unfold Xq program;simp only[bind,Sem.bind,Wt,tI];generalize P.underlying t=a;cases a<;>rfl
def zeroOf (P:Ue) (x:Option U) (w:F):Wt (an.of P) (match x with|some v=>pure v|none=>unsupported (.resourceLimit "a value of more than 2^22 cells")) w=Wt P (match x with|some v=>pure v|none=>unsupported (.resourceLimit "a value of more than 2^22 cells")) w:=by
 cases x with
 |some v=>exact(Sem.run_pure _ _ _).trans (Sem.run_pure _ _ _).symm
 |none=>exact Eq.refl (Result.halt _ w)
@[simp,go_sem] theorem SV (P:Ue) (t:Ug) (w:F):Wt (an.of P) (Wn t) w=Wt P (Wn t) w:=by
 unfold Wn;rw[WJ,WJ,vT];generalize Wt P (XC t) w=d;cases d with
 |ok c a=>exact zeroOf P c.zero a
 |halt b a=>exact Eq.refl (Result.halt b a)
@[simp,go_sem] theorem SU (P:Ue) (t:Ug) (w:F):Wt (an.of P) (sizeOf t) w=Wt P (sizeOf t) w:=by
 unfold sizeOf;rw[WJ,WJ,vT];cases Wt P (XC t) w with
 |ok c a=>rfl
 |halt b a=>rfl
def O1(P:Ue)(d:TypeDesc)(w:F):Wt (an.of P) (match d with| .struct _| .array _ _=>pure Z|_=>pure T5) w=Wt P (match d with| .struct _| .array _ _=>pure Z|_=>pure T5) w:=by
 cases d<;>exact(Sem.run_pure _ _ _).trans (Sem.run_pure _ _ _).symm
@[simp,go_sem] theorem SG (P:Ue) (t:Ug) (w:F):Wt (an.of P) (isAgg t) w=Wt P (isAgg t) w:=by
 unfold isAgg;rw[WJ,WJ,RE];generalize Wt P (Xq t) w=d;cases d with
 |ok c a=>exact O1 P c a
 |halt b a=>exact Eq.refl (Result.halt b a)
@[simp,go_sem] theorem SP (P:Ue) (d:Nat) (t:Ug):(an.of P).eqGuardType d t=P.eqGuardType d t:=YtjidbonhhpkljaaGreat.Cc.NX (an.tables P).symm d t
@[simp,go_sem] theorem depth (P:Ue):(an.of P).depth=P.depth:=YtjidbonhhpkljaaGreat.Cc.lu (an.tables P).symm
@[simp,go_sem] theorem IF (P:Ue) (t:Ug):(an.of P).stoodInHeld t=P.stoodInHeld t:=YtjidbonhhpkljaaGreat.Cc.tG (an.tables P).symm t
def No {P:Ue} {f:Nat} {fn:WC} (h:P.funcs[f]? =I fn) (b:(fn.name == "runtime.NumGoroutine")=T5) (a:fn.body.isNone=T5) (args:Array U) (w:F):Wt P (callFunc f args) w= .ok (.enter f args) w:=by
 unfold callFunc program;simp only[bind,pure,Sem.bind,Wt,h,b,a,UA,if_false]
def aC{f:Nat}{fn:WC}(h:(an.of T9).funcs[f]? =I fn)(e:fn.body.isNone=T5)(args:Array U)(w:F):Wt (an.of T9) (callFunc f args) w= .ok (.enter f args) w:=by
 refine No h ?_ e args w;rcases YtjidbonhhpkljaaGreat.Cc.oC f with a|⟨b,g,c,d⟩
 ·rw[<-a] at h;simpa using YtjidbonhhpkljaaGreat.Cc.jF YtjidbonhhpkljaaGreat.Cc.tN h
 ·rw[d] at h;cases h;exact(by simpa using YtjidbonhhpkljaaGreat.Cc.jF YtjidbonhhpkljaaGreat.Cc.tN c:(b.name == "runtime.NumGoroutine")=T5)
def func8:=bD Tryz.func8 rfl
def func9:=bD Tryz.func9 rfl
def func14:=bD Tryz.func14 rfl
def func19:=bD Tryz.func19 rfl
def func20:=bD Tryz.func20 rfl
def func21:=bD Tryz.func21 rfl
def func22:=bD Tryz.func22 rfl
def func23:=bD Tryz.func23 rfl
def func24:=bD Tryz.func24 rfl
def func25:=bD Tryz.func25 rfl
def func28:=bD Tryz.func28 rfl
def func29:=bD Tryz.func29 rfl
def func31:=bD Tryz.func31 rfl
def func32:=bD Tryz.func32 rfl
def func36:=bD Tryz.func36 rfl
def func38:=bD Tryz.func38 rfl
def func39:=bD Tryz.func39 rfl
def func40:=bD Tryz.func40 rfl
def func41:=bD Tryz.func41 rfl
def func42:=bD Tryz.func42 rfl
def func43:=bD Tryz.func43 rfl
def func44:=bD Tryz.func44 rfl
def func45:=bD Tryz.func45 rfl
def func48:=bD Tryz.func48 rfl
def func53:=bD Tryz.func53 rfl
def func55:=bD Tryz.func55 rfl
def func56:=bD Tryz.func56 rfl
def func57:=bD Tryz.func57 rfl
def func58:=bD Tryz.func58 rfl
def func59:=bD Tryz.func59 rfl
def func60:=bD Tryz.func60 rfl
def func61:=bD Tryz.func61 rfl
def func62:=bD Tryz.func62 rfl
def func63:=bD Tryz.func63 rfl
def func64:=bD Tryz.func64 rfl
def func65:=bD Tryz.func65 rfl
def func66:=bD Tryz.func66 rfl
def func68:=bD Tryz.func68 rfl
def func69:=bD Tryz.func69 rfl
def func70:=bD Tryz.func70 rfl
def func71:=bD Tryz.func71 rfl
def func76:=bD Tryz.func76 rfl
def func77:=bD Tryz.func77 rfl
def func80:=bD Tryz.func80 rfl
def func81:=bD Tryz.func81 rfl
def func82:=bD Tryz.func82 rfl
def func83:=bD Tryz.func83 rfl
def func84:=bD Tryz.func84 rfl
def func85:=bD Tryz.func85 rfl
def func86:=bD Tryz.func86 rfl
def func87:=bD Tryz.func87 rfl
def func88:=bD Tryz.func88 rfl
def func89:=bD Tryz.func89 rfl
def func90:=bD Tryz.func90 rfl
def func91:=bD Tryz.func91 rfl
def func92:=bD Tryz.func92 rfl
def func93:=bD Tryz.func93 rfl
def func94:=bD Tryz.func94 rfl
def func95:=bD Tryz.func95 rfl
def func96:=bD Tryz.func96 rfl
def func97:=bD Tryz.func97 rfl
def func98:=bD Tryz.func98 rfl
def func106:=bD Tryz.func106 rfl
def func107:=bD Tryz.func107 rfl
def func110:=bD Tryz.func110 rfl
def func114:=bD Tryz.func114 rfl
def func115:=bD Tryz.func115 rfl
def func118:=bD Tryz.func118 rfl
def func119:=bD Tryz.func119 rfl
def func120:=bD Tryz.func120 rfl
def func121:=bD Tryz.func121 rfl
def func122:=bD Tryz.func122 rfl
def func123:=bD Tryz.func123 rfl
def func124:=bD Tryz.func124 rfl
def func125:=bD Tryz.func125 rfl
def func126:=bD Tryz.func126 rfl
def func127:=bD Tryz.func127 rfl
def func128:=bD Tryz.func128 rfl
def func129:=bD Tryz.func129 rfl
def func130:=bD Tryz.func130 rfl
def func131:=bD Tryz.func131 rfl
def func133:=bD Tryz.func133 rfl
def func135:=bD Tryz.func135 rfl
def func139:=bD Tryz.func139 rfl
def func140:=bD Tryz.func140 rfl
def func141:=bD Tryz.func141 rfl
def func142:=bD Tryz.func142 rfl
def func143:=bD Tryz.func143 rfl
def func144:=bD Tryz.func144 rfl
def func145:=bD Tryz.func145 rfl
def func146:=bD Tryz.func146 rfl
def func147:=bD Tryz.func147 rfl
def func148:=bD Tryz.func148 rfl
def func149:=bD Tryz.func149 rfl
def func150:=bD Tryz.func150 rfl
def func151:=bD Tryz.func151 rfl
def func152:=bD Tryz.func152 rfl
def func153:=bD Tryz.func153 rfl
def func154:=bD Tryz.func154 rfl
def func155:=bD Tryz.func155 rfl
def func156:=bD Tryz.func156 rfl
def func157:=bD Tryz.func157 rfl
def func158:=bD Tryz.func158 rfl
def func159:=bD Tryz.func159 rfl
def func160:=bD Tryz.func160 rfl
def func161:=bD Tryz.func161 rfl
def func162:=bD Tryz.func162 rfl
def func163:=bD Tryz.func163 rfl
def func164:=bD Tryz.func164 rfl
def func165:=bD Tryz.func165 rfl
def func166:=bD Tryz.func166 rfl
def func167:=bD Tryz.func167 rfl
def func168:=bD Tryz.func168 rfl
def func169:=bD Tryz.func169 rfl
def func170:=bD Tryz.func170 rfl
def func171:=bD Tryz.func171 rfl
def func172:=bD Tryz.func172 rfl
def func173:=bD Tryz.func173 rfl
def func175:=bD Tryz.func175 rfl
def func176:=bD Tryz.func176 rfl
def func177:=bD Tryz.func177 rfl
def func178:=bD Tryz.func178 rfl
@[simp,go_sem] def call14:=aC func14 rfl
@[simp,go_sem] def call19:=aC func19 rfl
@[simp,go_sem] def call20:=aC func20 rfl
@[simp,go_sem] def call22:=aC func22 rfl
@[simp,go_sem] def call23:=aC func23 rfl
@[simp,go_sem] def call24:=aC func24 rfl
@[simp,go_sem] def call25:=aC func25 rfl
@[simp,go_sem] def call28:=aC func28 rfl
@[simp,go_sem] def call29:=aC func29 rfl
@[simp,go_sem] def call38:=aC func38 rfl
@[simp,go_sem] def call39:=aC func39 rfl
@[simp,go_sem] def call40:=aC func40 rfl
@[simp,go_sem] def call41:=aC func41 rfl
@[simp,go_sem] def call42:=aC func42 rfl
@[simp,go_sem] def call43:=aC func43 rfl
@[simp,go_sem] def call44:=aC func44 rfl
@[simp,go_sem] def call45:=aC func45 rfl
@[simp,go_sem] def call48:=aC func48 rfl
@[simp,go_sem] def call53:=aC func53 rfl
@[simp,go_sem] def call55:=aC func55 rfl
@[simp,go_sem] def call56:=aC func56 rfl
@[simp,go_sem] def call57:=aC func57 rfl
@[simp,go_sem] def call58:=aC func58 rfl
@[simp,go_sem] def call59:=aC func59 rfl
@[simp,go_sem] def call60:=aC func60 rfl
@[simp,go_sem] def call61:=aC func61 rfl
@[simp,go_sem] def call62:=aC func62 rfl
@[simp,go_sem] def call63:=aC func63 rfl
@[simp,go_sem] def call64:=aC func64 rfl
@[simp,go_sem] def call65:=aC func65 rfl
@[simp,go_sem] def call66:=aC func66 rfl
@[simp,go_sem] def call68:=aC func68 rfl
@[simp,go_sem] def call69:=aC func69 rfl
@[simp,go_sem] def call70:=aC func70 rfl
@[simp,go_sem] def call71:=aC func71 rfl
@[simp,go_sem] def call80:=aC func80 rfl
@[simp,go_sem] def call81:=aC func81 rfl
@[simp,go_sem] def call82:=aC func82 rfl
@[simp,go_sem] def call83:=aC func83 rfl
@[simp,go_sem] def call84:=aC func84 rfl
@[simp,go_sem] def call85:=aC func85 rfl
@[simp,go_sem] def call86:=aC func86 rfl
@[simp,go_sem] def call87:=aC func87 rfl
@[simp,go_sem] def call88:=aC func88 rfl
@[simp,go_sem] def call89:=aC func89 rfl
@[simp,go_sem] def call90:=aC func90 rfl
@[simp,go_sem] def call91:=aC func91 rfl
@[simp,go_sem] def call92:=aC func92 rfl
@[simp,go_sem] def call93:=aC func93 rfl
@[simp,go_sem] def call94:=aC func94 rfl
@[simp,go_sem] def call95:=aC func95 rfl
@[simp,go_sem] def call96:=aC func96 rfl
@[simp,go_sem] def call97:=aC func97 rfl
@[simp,go_sem] def call98:=aC func98 rfl
@[simp,go_sem] def call106:=aC func106 rfl
@[simp,go_sem] def call107:=aC func107 rfl
@[simp,go_sem] def call114:=aC func114 rfl
@[simp,go_sem] def call115:=aC func115 rfl
@[simp,go_sem] def call120:=aC func120 rfl
@[simp,go_sem] def call121:=aC func121 rfl
@[simp,go_sem] def call122:=aC func122 rfl
@[simp,go_sem] def call123:=aC func123 rfl
@[simp,go_sem] def call124:=aC func124 rfl
@[simp,go_sem] def call125:=aC func125 rfl
@[simp,go_sem] def call126:=aC func126 rfl
@[simp,go_sem] def call127:=aC func127 rfl
@[simp,go_sem] def call128:=aC func128 rfl
@[simp,go_sem] def call129:=aC func129 rfl
@[simp,go_sem] def call130:=aC func130 rfl
@[simp,go_sem] def call131:=aC func131 rfl
@[simp,go_sem] def call135:=aC func135 rfl
@[simp,go_sem] def call140:=aC func140 rfl
@[simp,go_sem] def call141:=aC func141 rfl
@[simp,go_sem] def call142:=aC func142 rfl
@[simp,go_sem] def call143:=aC func143 rfl
@[simp,go_sem] def call144:=aC func144 rfl
@[simp,go_sem] def call145:=aC func145 rfl
@[simp,go_sem] def call146:=aC func146 rfl
@[simp,go_sem] def call147:=aC func147 rfl
@[simp,go_sem] def call148:=aC func148 rfl
@[simp,go_sem] def call149:=aC func149 rfl
@[simp,go_sem] def call150:=aC func150 rfl
@[simp,go_sem] def call151:=aC func151 rfl
@[simp,go_sem] def call152:=aC func152 rfl
@[simp,go_sem] def call153:=aC func153 rfl
@[simp,go_sem] def call154:=aC func154 rfl
@[simp,go_sem] def call155:=aC func155 rfl
@[simp,go_sem] def call156:=aC func156 rfl
@[simp,go_sem] def call157:=aC func157 rfl
@[simp,go_sem] def call158:=aC func158 rfl
@[simp,go_sem] def call159:=aC func159 rfl
@[simp,go_sem] def call160:=aC func160 rfl
@[simp,go_sem] def call161:=aC func161 rfl
@[simp,go_sem] def call162:=aC func162 rfl
@[simp,go_sem] def call163:=aC func163 rfl
@[simp,go_sem] def call164:=aC func164 rfl
@[simp,go_sem] def call165:=aC func165 rfl
@[simp,go_sem] def call166:=aC func166 rfl
@[simp,go_sem] def call167:=aC func167 rfl
@[simp,go_sem] def call169:=aC func169 rfl
@[simp,go_sem] def call170:=aC func170 rfl
@[simp,go_sem] def call171:=aC func171 rfl
@[simp,go_sem] def call172:=aC func172 rfl
@[simp,go_sem] def call173:=aC func173 rfl
@[simp,go_sem] def call175:=aC func175 rfl
@[simp,go_sem] def call176:=aC func176 rfl
@[simp,go_sem] def call177:=aC func177 rfl
@[simp,go_sem] def call178:=aC func178 rfl
@[simp,go_sem] def underlying2:=(tI _ _).trans Tryz.underlying2
@[simp,go_sem] def underlying3:=(tI _ _).trans Tryz.underlying3
@[simp,go_sem] def underlying4:=(tI _ _).trans Tryz.underlying4
@[simp,go_sem] def underlying5:=(tI _ _).trans Tryz.underlying5
@[simp,go_sem] def underlying9:=(tI _ _).trans Tryz.underlying9
@[simp,go_sem] def underlying20:=(tI _ _).trans Tryz.underlying20
@[simp,go_sem] def underlying22:=(tI _ _).trans Tryz.underlying22
@[simp,go_sem] def underlying23:=(tI _ _).trans Tryz.underlying23
@[simp,go_sem] def underlying26:=(tI _ _).trans Tryz.underlying26
@[simp,go_sem] def underlying43:=(tI _ _).trans Tryz.underlying43
@[simp,go_sem] def underlying44:=(tI _ _).trans Tryz.underlying44
@[simp,go_sem] def underlying59:=(tI _ _).trans Tryz.underlying59
@[simp,go_sem] def underlying63:=(tI _ _).trans Tryz.underlying63
@[simp,go_sem] def underlying103:=(tI _ _).trans Tryz.underlying103
@[simp,go_sem] def underlying133:=(tI _ _).trans Tryz.underlying133
@[simp,go_sem] def underlying137:=(tI _ _).trans Tryz.underlying137
@[simp,go_sem] def underlying141:=(tI _ _).trans Tryz.underlying141
@[simp,go_sem] def underlying160:=(tI _ _).trans Tryz.underlying160
@[simp,go_sem] def underlying170:=(tI _ _).trans Tryz.underlying170
@[simp,go_sem] def underlying176:=(tI _ _).trans Tryz.underlying176
@[simp,go_sem] def underlying205:=(tI _ _).trans Tryz.underlying205
@[simp,go_sem] def underlying206:=(tI _ _).trans Tryz.underlying206
@[simp,go_sem] def underlying229:=(tI _ _).trans Tryz.underlying229
end an
end Go.Proofs
namespace Go.Proofs.YtjidbonhhpkljaaGreat
namespace Pk
open Go.RowKit
def Iw{k:Wx}{a b:Int}(h:a=b):Ending.returned (.int k a)= .returned (.int k b):=by rw[h]
def pw (n:Nat):Int:=((2^n:Nat):Int)
def Cl(n:Nat):0<pw n:=by
 have:0<2^n:=Nat.pow_pos (by omega);unfold pw;omega
def SA(n m:Nat)(h:n<=m):pw n<=pw m:=by
 have:=VO (show 0<2 by omega) h;unfold pw;omega
def PE(n:Nat):pw (n+1)=2*pw n:=by
 unfold pw;rw[WL];omega
def It(n:Nat)(h:n<=16):pw n<=65536:=SA n 16 h
def J2(n:Nat)(j:n<=16)(w:F):
 UB aI 135 #[.int .i64 n] w λe w'=>e= .returned (.int .i64 (pw n))/\w'=w:=by
 go_enter an.func135,Tryz.ntmps135;go_wp2
 go_loop [3,4] (λd b=>∃a:Nat,a<=n/\b= .int .i64 a/\d= .int .i64 (pw a)) (λ_ b=>n-(US b).toNat)
 case atStart=>exact⟨0,UE _,rfl,rfl⟩
 case round=>
  obtain⟨a,h,rfl,rfl⟩:=hrel;have f:=Cl a;have g:=It a (by omega);by_cases i:a<n
  ·go_wp2
   go_round
   case rel=>exact⟨a+1,by omega,by go_num,by rw[PE]⟩
   case measure=>simp[US];omega
  ·have c:a=n:=by omega
   subst c;go_wp2;go_ret;exact⟨rfl,rfl⟩
def FH (n:Int):Int:=if n<0\/100<n then 6 else 0
def pM(n:Int)(w:F):
 UB aI 141 #[.int .i64 n] w λe w'=>e= .returned (.int .i64 (FH n))/\w'=w:=by
 by_cases a:n<0
 ·go_enter an.func141,Tryz.ntmps141;go_wp2
  all_goals go_ret
  all_goals exact⟨Iw (by simp[FH,a]),rfl⟩
 ·by_cases b:100<n
  all_goals
   go_enter an.func141,Tryz.ntmps141;go_wp2
   all_goals go_ret
   all_goals exact⟨Iw (by simp[FH,a,b]),rfl⟩
end Pk
namespace Pm
def V:List Nat->Nat
 | []=>0
 |b::a=>b+256*V a
def N (w:Nat):List Nat->Nat
 | []=>0
 |x::a=>x+2^w*N w a
def Dh(a b:List Nat):V (a++b)=V a+256^a.length*V b:=by
 induction a with
 |nil=>simp[V]
 |cons e d c=>simp only[Wd,V,c,VI,WL];rw[Ye,Xx (256^d.length) 256,Nat.mul_assoc,U5]
def S3(a:List Nat)(h:∀x∈a,x<256):V a<256^a.length:=by
 induction a with
 |nil=>simp[V]
 |cons x g c=>
  have e:=h x (by simp);have f:=c (λd b=>h d (by simp[b]));simp only[V,VI,WL];omega
def Sg(a b:List Nat)(g:∀x∈a,x<256)(i:∀x∈b,x<256)(c:a.length=b.length)(h:V a=V b):a=b:=by
 induction a generalizing b with
 |nil=>cases b with
  |nil=>rfl
  |cons e s=>simp at c
 |cons x m l=>cases b with
  |nil=>simp at c
  |cons e s=>
   simp only[V] at h;have n:=g x (by simp);have o:=i e (by simp);have j:x=e:=by omega
   have k:V m=V s:=by omega
   rw[j,l s (λf d=>g f (by simp[d])) (λf d=>i f (by simp[d])) (by simpa using c) k]
def QR(a:List Nat)(n:Nat)(h:∀x∈a,x<256):V (a.take n)=V a%256^n:=by
 induction a generalizing n with
 |nil=>simp[V]
 |cons b c g=>
  cases n with
  |zero=>simp[V,Nat.mod_one]
  |succ d=>
   have j:=h b (by simp);have e:=g d (λi f=>h i (by simp[f]));simp only[List.take_succ_cons,V,e,WL];rw[Xx (256^d) 256,Nat.mod_mul,show(b+256*V c)%256=b by omega,show(b+256*V c)/256=V c by omega]
def Sf(a:List Nat)(j:Nat)(h:∀x∈a,x<256):(a[j]?.getD 0)=V a/256^j%256:=by
 induction a generalizing j with
 |nil=>simp[V]
 |cons d c g=>
  have k:=h d (by simp);cases j with
  |zero=>simp[V];omega
  |succ b=>
   have e:=g b (λi f=>h i (by simp[f]));simp only[List.getElem?_cons_succ,e,V,WL];rw[Xx (256^b) 256,<-Nat.div_div_eq_div_mul,show(d+256*V c)/256=V c by omega]
def Lk(w:Nat)(l:List Nat)(x:Nat):N w (l++[x])=N w l+2^(w*l.length)*x:=by
 induction l with
 |nil=>simp[N]
 |cons c a b=>
  simp only[Wd,N,b,VI];rw[Ye,<-Nat.mul_assoc,<-Xk,U5,show w+w*a.length=w*(a.length+1) by rw[Nat.mul_succ];omega]
def S1(w:Nat)(l:List Nat)(h:∀x∈l,x<2^w):N w l<2^(w*l.length):=by
 induction l with
 |nil=>simp[N]
 |cons f a e=>
  have i:=h f (by simp);have b:=e (λg d=>h g (by simp[d]));simp only[N,VI];rw[show w*(a.length+1)=w+w*a.length by rw[Nat.mul_succ];omega,Xk];have c:2^w*(N w a+1)<=2^w*2^(w*a.length):=Xi _ b;rw[Ye] at c;omega
def D (w v:Nat):Nat->List Nat
 |0=>[]
 |n+1=>D w v n++[v/2^(w*n)%2^w]
def pq(w v n:Nat):(D w v n).length=n:=by
 induction n with
 |zero=>rfl
 |succ b a=>simp[D,a]
def QI(w v n:Nat):∀x∈D w v n,x<2^w:=by
 induction n with
 |zero=>simp[D]
 |succ c b=>
  intro x a;simp only[D,U1,WI] at a;rcases a with a|a
  ·exact b x a
  ·rw[a];exact Nat.mod_lt _ (Nat.pow_pos (by omega))
def SN(w v n:Nat):N w (D w v n)=v%2^(w*n):=by
 induction n with
 |zero=>simp[D,N,Nat.mod_one]
 |succ a b=>
  rw[D,Lk,b,pq,show w*(a+1)=w*a+w by rw[Nat.mul_succ],Xk,Nat.mod_mul]
def Cj(n:Nat):256^n=2^(8*n):=by rw[Nat.pow_mul]
def Dc(a:Nat)(l:List Nat)(k:Nat)(b:k<l.length):N a (l.take (k+1))=N a (l.take k)+2^(a*k)*l[k]:=by
 rw[Um b,Lk,List.length_take,Nat.min_eq_left (by omega)]
end Pm
namespace Pk
open Go.RowKit Pm
def an.rF:(aI.info? 5).map (λi=>(i.zero,i.size,i.bytes))=I (I (.int .u8 0),1,1):=by kernel_rfl
def an.vC:(aI.info? 3).map (λi=>(i.zero,i.size,i.bytes))=I (I (.int .i64 0),1,8):=by kernel_rfl
def aF (b:List Nat):List U:=b.map fun(a:Nat)=>VY .u8 (a:Int)
def Fx(a:List Nat)(i:Nat)(h:i<a.length):(aF a)[i]? =I (.int .u8 ((a[i]:Nat):Int)):=by
 simp[aF,h]
def I5{w:F}{base g n cap:Nat}{a:List Nat}(h:w.ownsRow base 5 1 (.slice (I ⟨g,0,K⟩) n cap) n (aF a))(c:a.length=n):
 ∀i,i<n->aM w g (0+i) (.int .u8 ((a.map (fun(n:Nat)=>(n:Int))).getD i 0)):=by
 intro i b;rw[Nat.zero_add,h.cellAt i (by omega),Fx a i (by omega)];simp[Yw,show i<a.length by omega]
def Hr{x:Int}(a:0<=x)(h1:x<256):Yu.wrap x=x:=by
 simp[IntKind.wrap,XU,Yg];omega
def below_drewN{B:Nat}{a w:F}(h:XS B a w)(n:Nat):XS B a (w.drewN n):=h.trans ⟨rfl,rfl,rfl,T6 _,λ_ _=>rfl⟩
def rI{w:F}{base:Nat}{e:Ug}{a:Nat}{v:U}{n:Nat}{b:List U}(h:w.ownsRow base e a v n b)(k:Nat):(w.drewN k).ownsRow base e a v n b:=by
 induction k with
 |zero=>exact h
 |succ k c=>exact c.drew
def bL{w:F}{base B:Nat}{e:Ug}{b:Nat}{v:U}{n:Nat}{c:List U}(h:w.ownsRow base e b v n c)(k:B<=base):w.ownsRow B e b v n c:=by
 refine⟨h.1,?_⟩;rcases h.2 with a|⟨g,d,f,a,i,j⟩
 ·exact .inl a
 ·exact .inr ⟨g,d,f,a,Ux k i,j⟩
def aK{w w':F}{base:Nat}{e:Ug}{d:Nat}{v:U}{n:Nat}{f:List U}(h:w.ownsRow base e d v n f)(l:aP w w'):w'.ownsRow base e d v n f:=by
 refine⟨h.1,?_⟩;rcases h.2 with a|⟨b,g,i,a,j,c,k⟩
 ·exact .inl a
 ·exact .inr ⟨b,g,i,a,j,by rw[l.block b (Ud c)];exact c,k⟩
def aT{P:Ue}(w:F){ops:Array Oper}{rest:List Oper}{o:Oper}{a:Act}{Q:Exit->Act->F->Prop}
 (D:o.guard=K) (s x:U6) (t:Ug) (G:o.op=Op.call {callee:=Callee.builtin Builtin.append,args:= #[s,x],argTypes:= #[t,t]})
 (base:Nat) (e:Ug) (i:TypeInfo) (z:U) (b bytes:Nat) (h1:P.underlying t=I (.slice e)) (A:P.info? e=I i) (M:i.zero=I z) (B:i.size=b) (N:i.bytes=bytes) (O:z.cells.size=b) (R:0<b)
 (v:U) (n:Nat) (g:List U) (H:a.eval s=v) (l:w.ownsRow base e b v n g)
 (h:UJ) (m c:Nat) (news:List U) (J:a.eval x= .slice (I h) m c) (al:0<m) (E:news.length=m*b) (hc:∀j u,news[j]? =I u->w.cell? (h.add j)=I u) (y:∀u∈news,u.oneCell'=Z)
 (b1:n+m<=Up) (b2:(n+m)*bytes<=140737488355328) (L:base<=w.heap.size)
 (C:∀d w',w'.ownsRow base e b d (n+m) (g++news)->((w.grownBy w' K/\w'.ownsRow w.heap.size e b d (n+m) (g++news))\/(d.ownBlock=v.ownBlock/\w.grownBy w' v.ownBlock))->wpList P ops Q rest (a.put o.dst d) w'):
 wpList P ops Q (o::rest) a w:=by
 rcases l.2 with⟨rfl,rfl⟩|⟨q,p,X,rfl,aa,ae,am,ab,ad,ao⟩
 ·have W:g=[]:=Vh (by simpa using l.1);subst W;exact wpList_append_grows w D s x t G e i z b bytes h1 A M B N O R K 0 0 [] H (λ_=>⟨rfl,rfl⟩) (by simp) (λS r=>by cases r) h m c news J E hc y (by omega) b1 b2
   λd w' f k=>C d w' (bL f L) (.inl ⟨k,f⟩)
 ·by_cases V:n+m<=p
  ·exact wpList_append_fits w D s x t G base e i b h1 A B q n p g H l h m c news J E hc y V λw' f k=>C _ w' f (.inr ⟨rfl,k⟩)
  ·exact wpList_append_grows w D s x t G e i z b bytes h1 A M B N O R (I ⟨q,0,K⟩) n p g H (λr=>by cases r) l.1 (λS T=>by cases T;exact l.cells (g:=q) Y) h m c news J E hc y (by omega) b1 b2
    λd w' f k=>C d w' (bL f L) (.inl ⟨k,f⟩)
def ff{a:List Int}{k:Nat}(h:k<a.length):a.getD k 0=a[k]:=by simp[Yw,h]
def bz (a:List Int):List U:=a.map (VY .i64)
def zY{w:F}{base g n:Nat}{e:Ug}{b:List U}(h:w.ownsRow base e 1 (.slice (I ⟨g,0,K⟩) n n) n b):w.heap[g]? =I (.cells b.toArray e (0,0)):=by
 rcases h.2 with⟨a,_⟩|⟨k,j,c,a,_,d,_,_,f,i⟩
 ·simp at a
 ·simp only[VA,U8,Wh,and_true,true_and] at a;obtain⟨rfl,rfl⟩:=a;rw[d];have:c.toList=b:=by rw[<-i];exact(UO (by simp[f])).symm
  rw[<-this]
def F5(a:List Int)(i:Nat)(h:i<a.length):(bz a)[i]? =I (.int .i64 a[i]):=by simp[bz,h]
def Bx(n:Int)(a:0<=n)(b:n<2^62):XM.wrap n=n:=by rw[WX];omega
def MY(b x a:Nat)(f:a<=16)(h:x<65536)(e:b<2^a):bits .or .i64 (b:Int) (Vb ((x:Int)*2^a))=((b+2^a*x:Nat):Int):=by
 have d:2^a<=2^16:=VO (by omega) f;have g:2^a*x<=2^16*65536:=Nat.mul_le_mul d (by omega);have c:Vb ((x:Int)*2^a)=((2^a*x:Nat):Int):=by
  rw[show(x:Int)*2^a=((2^a*x:Nat):Int) from by push_cast;rw[Int.mul_comm]];generalize 2^a*x=i at*;unfold Vb;omega
 rw[c,(bits_nat .i64 62 (by decide) Bx b (2^a*x) (by omega) (by omega)).2,Nat.or_comm,<-Nat.two_pow_add_eq_or_of_lt e x,Nat.add_comm]
def OY(n b k a:Nat)(h:8*n+b=k*a):8*n+(b+a)=(k+1)*a:=by rw[Nat.add_mul k 1 a,Nat.one_mul];omega
def eP(a:List Nat)(x:Nat):aF a++[.int .u8 (x:Int)]=aF (a++[x]):=by simp[aF]
def IA(b:List Nat)(x:Nat)(h:∀y∈b,y<256)(d:x<256):∀y∈b++[x],y<256:=by
 intro y c;rcases U1.1 c with a|a
 ·exact h y a
 ·simp at a;omega
def QO(b:List Nat)(a A:Nat)(h:V b+256^b.length*a=A):V (b++[a%256])+256^(b++[a%256]).length*(a/256)=A:=by
 rw[Dh,T8,List.length_singleton,WL,Nat.mul_assoc,<-h];have:V [a%256]=a%256:=by simp[V]
 rw[this,U5,<-Ye];congr 2;omega
def FU(b a:Nat)(c:8<=a)(h:b<2^a):b/256<2^(a-8):=by
 rw[Nat.div_lt_iff_lt_mul (by omega),show(256:Nat)=2^8 by rfl,<-Xk,show a-8+8=a by omega];exact h
def Ft(c x a b:Nat)(h:c<2^a)(d:x<2^b):c+2^a*x<2^(a+b):=by
 rw[Xk];have:2^a*(x+1)<=2^a*2^b:=Xi _ d;rw[Ye] at this;omega
def QM(a:List Nat)(c x d b k:Nat)(l:List Nat)(e:k<l.length)(g:l[k]=x)(f:8*a.length+d=k*b)(h:V a+256^a.length*c=N b (l.take k)):
 V a+256^a.length*(c+2^d*x)=N b (l.take (k+1)):=by
 rw[Dc b l k e,g,<-h,Ye,<-Nat.mul_assoc,Cj,<-Xk,f,Xx k b,U5]
end Pk
end Go.Proofs.YtjidbonhhpkljaaGreat
namespace Go.Proofs.YtjidbonhhpkljaaGreat.Pm
def Lo(l:List Nat):V l=N 8 l:=by
 induction l with
 |nil=>rfl
 |cons c b a=>simp only[V,N,a]
def cI (a:Nat)(l:List Nat):List Nat:=D 8 (N a l) ((l.length*a+7)/8)
def td(b:Nat)(l:List Nat):∀x∈cI b l,x<256:=λx a=>QI 8 _ _ x a
def eY(a:Nat)(l:List Nat):(cI a l).length=(l.length*a+7)/8:=pq _ _ _
def tf(b:Nat)(l a:List Nat)(h1:a.length=(l.length*b+7)/8)(c:∀x∈a,x<256)(d:V a=N b l):a=cI b l:=by
 refine Sg a _ c (td b l) (by rw[eY,h1]) ?_;rw[Lo (cI b l),cI,SN,<-d,<-h1,<-Cj,Nat.mod_eq_of_lt (S3 a c)]
end Go.Proofs.YtjidbonhhpkljaaGreat.Pm
namespace Go.Proofs.YtjidbonhhpkljaaGreat.Pk
open Go.RowKit Go.Proofs.YtjidbonhhpkljaaGreat.Pm
def strOf(b:List Nat):ByteArray:=strOfNums (b.map (fun(a:Nat)=>(a:Int)))
def kJ(a:List Nat):(strOf a).size=a.length:=by
 unfold strOf strOfNums;simp[ByteArray.size]
def Qx (b:Nat)(c:List Int):Bool:=c.all λa=>decide (0<=a)&&decide (a<pw b)
def Jv{a:Nat}{b:List Int}(h:Qx a b=Z):∀z∈b,0<=z/\z<pw a:=by
 intro z c;have:=Uy.1 h z c;simpa using this
def toNat_lt{a:Nat}{b:List Int}(h:Qx a b=Z):∀x∈b.map Int.toNat,x<2^a:=by
 intro x c;obtain⟨e,d,rfl⟩:=U7.1 c;have:=Jv h e d;unfold pw at this;omega
def qh{w:F}{base n:Nat}{v:U}{a:List Nat}(h:w.ownsRow base 5 1 v n (aF a))(c:a.length=n):
 (convert 133 9 v).run aI w= .ok (.string (strOf a)) w:=by
 rcases h.2 with⟨b,i⟩|⟨e,d,g,b,_⟩
 ·have f:a=[]:=Vh (by omega);subst f;subst b;exact run_convert_bytes_nil w 133 5 an.underlying133 an.underlying5 0 0 9 an.underlying9
 ·subst b;exact run_convert_bytes_arg w 133 5 an.underlying133 an.underlying5 e 0 n d _ (by simp[c]) (I5 h c) 9 an.underlying9
end Go.Proofs.YtjidbonhhpkljaaGreat.Pk
namespace Go.Proofs.YtjidbonhhpkljaaGreat.Pm
end Go.Proofs.YtjidbonhhpkljaaGreat.Pm
namespace Go.Proofs.YtjidbonhhpkljaaGreat.Pk
open Go.RowKit Go.Proofs.YtjidbonhhpkljaaGreat.Pm
def bytesOf(s:ByteArray):List Nat:=s.data.toList.map UInt8.toNat
def jz(s:ByteArray):∀x∈bytesOf s,x<256:=by
 intro x a;obtain⟨b,_,rfl⟩:=U7.1 a;exact b.toNat_lt
def aj(s:ByteArray):(bytesOf s).length=s.size:=by simp[bytesOf]
def vu(s:ByteArray)(j:Nat)(h:j<s.size):(bytesOf s)[j]'(by rw[aj];exact h)=s[j].toNat:=by
 simp only[bytesOf,List.getElem_map];rfl
def jT (l:List Nat):List Int:=l.map (fun(a:Nat)=>(a:Int))
def eR(a:List Int)(x:Int):bz a++[.int .i64 x]=bz (a++[x]):=by simp[bz]
end Go.Proofs.YtjidbonhhpkljaaGreat.Pk
namespace Go.Proofs.YtjidbonhhpkljaaGreat
namespace Pk
open Go.RowKit Pm
def nF(a:List Nat)(h:∀x∈a,x<256):bytesOf (strOf a)=a:=by
 unfold bytesOf strOf strOfNums;simp only[List.map_map];have:∀x∈a,(UInt8.toNat ∘ (fun(b:Int)=>UInt8.ofNat b.toNat) ∘ fun(b:Nat)=>(b:Int)) x=x:=by
  intro x c;have:=h x c;simp;omega
 rw[List.map_congr_left this];simp
def m8{s t:ByteArray}(h:bytesOf s=bytesOf t):s=t:=by
 have a:s.data.toList=t.data.toList:=by
  unfold bytesOf at h;exact List.map_inj_right (λc d b=>UInt8.toNat_inj.1 b) |>.1 h
 cases s;cases t;simp at a;simp[a]
def toList_inj{s t:ByteArray}(h:s.toList=t.toList):s=t:=by
 have b:∀a:ByteArray,a.toList=a.data.toList:=λa=>XJ a;rw[b,b] at h;cases s;cases t;simp at h;simp[h]
def DO(s:ByteArray)(p:Nat)(h:p<s.size):s.extract p (p+1)=⟨#[s[p]]⟩:=by
 apply m8;unfold bytesOf;congr 1;rw[ByteArray.data_extract];simp only[Array.toList_extract];have a:p<s.data.toList.length:=h;rw[show List.extract s.data.toList p (p+1)=(s.data.toList.drop p).take 1 from by simp[List.extract],Wo a];rfl
def b9 (s:ByteArray)(p:Nat):Xv:=.cells #[.string s,.int .i64 (p:Int)] 182 (0,0)
def eC (p:Nat):List Vr:=[{v:=.iface 205 (.agg #[.int .i64 (p:Int)]),recovered:=T5}]
def kI{w:F}{r p:Nat}{s:ByteArray}(h:w.heap[r]? =I (b9 s p)):
 aM w r 0 (.string s)/\aM w r 1 (.int .i64 (p:Int))/\w.frozen? ⟨r,0,K⟩=T5/\w.frozen? ⟨r,1,K⟩=T5:=by
 unfold b9 at h;refine⟨?_,?_,?_,?_⟩
 ·simp[Ur,h]
 ·simp[Ur,h]
 ·simp[UQ,h]
 ·simp[UQ,h]
def DK(w:F)(a:UJ)(v:U)(m n:Nat):((w.drewN m).setCell a v).drewN n=(w.setCell a v).drewN (m+n):=by
 rw[show(w.drewN m).setCell a v=(w.setCell a v).drewN m from by unfold Ya;rfl,Xh]
def b7(r p:Nat)(s:ByteArray)(w:F)(h:w.heap[r]? =I (b9 s p)):
 UB aI 97 #[.pointer (I ⟨r,0,K⟩)] w λe w'=>e= .panicked (eC p)/\w'=w:=by
 obtain⟨a,b,c,d⟩:=kI h;go_enter an.func97,Tryz.ntmps97;go_wp2;exact⟨rfl,rfl,rfl⟩
def NT(r p:Nat)(s:ByteArray)(w:F)(b:s.size<=Up)(j:¬p<s.size)(k:p<=s.size)(h:w.heap[r]? =I (b9 s p)):
 UB aI 128 #[.pointer (I ⟨r,0,K⟩),.int .i64 1] w λe w'=>e= .panicked (eC p)/\∃n,w'=w.drewN n:=by
 obtain⟨c,d,f,g⟩:=kI h;unfold Up at b;have a:=af h;have i:decide ((s.size:Int)-(p:Int)<1)=Z:=by simp;omega
 go_enter an.func128,Tryz.ntmps128
 go_wp2_with fail
 go_quiet (fail)
 go_wp2_with (go_at_call 97;refine(b7 r p s _ (by exact a.o)).mono ?_;rintro e w' ⟨rfl,rfl⟩)
 exact⟨rfl,rfl,nq,rfl⟩
def P4(r p:Nat)(s:ByteArray)(w:F)(a:s.size<=Up)(b:p<s.size)(h:w.heap[r]? =I (b9 s p)):
 UB aI 128 #[.pointer (I ⟨r,0,K⟩),.int .i64 1] w λe w'=>e= .returned (.string ⟨#[s[p]]⟩)/\∃n,w'=(w.setCell ⟨r,1,K⟩ (.int .i64 ((p+1:Nat):Int))).drewN n:=by
 obtain⟨c,d,f,g⟩:=kI h;unfold Up at a;have i:decide ((s.size:Int)-(p:Int)<1)=T5:=by simp;omega
 have j:(0:Int)<=(p:Int)+1:=by omega
 have k:(p:Int)+1<=(s.size:Int):=by omega
 have l:(p:Int)<=(p:Int)+1:=by omega
 have o:((p:Int)+1).toNat=p+1:=by omega
 have q:=DO s p b;go_enter an.func128,Tryz.ntmps128
 go_wp2_with fail
 go_quiet (fail)
 generalize nq=m at*
 go_wp2_with fail
 go_quiet (fail)
 go_wp2;go_ret;exact⟨rfl,m+nq,DK _ _ _ _ _⟩
def sL(r p:Nat)(s:ByteArray)(w:F)(b:s.size<=Up)(c:¬p<s.size)(d:p<=s.size)(h:w.heap[r]? =I (b9 s p)):
 UB aI 129 #[.pointer (I ⟨r,0,K⟩)] w λe w'=>e= .panicked (eC p)/\∃n,w'=w.drewN n:=by
 have a:=af h;go_enter an.func129,Tryz.ntmps129
 go_wp2_with (go_at_call 128;refine(NT r p s _ b c d a.o).mono ?_;rintro e w' ⟨rfl,n,rfl⟩)
 exact⟨rfl,rfl,n,rfl⟩
def xe(r p:Nat)(s:ByteArray)(w:F)(b:s.size<=Up)(c:p<s.size)(h:w.heap[r]? =I (b9 s p)):
 UB aI 129 #[.pointer (I ⟨r,0,K⟩)] w λe w'=>e= .returned (.int .u8 (s[p].toNat:Int))/\∃n,w'=(w.setCell ⟨r,1,K⟩ (.int .i64 ((p+1:Nat):Int))).drewN n:=by
 have a:=af h;go_enter an.func129,Tryz.ntmps129
 go_wp2_with (go_at_call 128;refine(P4 r p s _ b c a.o).mono ?_;rintro e w' ⟨rfl,n,rfl⟩)
 go_ret;exact⟨rfl,n,rfl⟩
def BW(r p:Nat)(s:ByteArray)(w:F)(b:s.size<=Up)(j:p<s.size)(h:w.heap[r]? =I (b9 s p)):
 UB aI 93 #[.pointer (I ⟨r,0,K⟩)] w λe w'=>e= .panicked (eC p)/\∃n,w'=w.drewN n:=by
 obtain⟨c,d,f,g⟩:=kI h;unfold Up at b;have a:=af h;have i:decide ((p:Int)<(s.size:Int))=Z:=by simp;omega
 go_enter an.func93,Tryz.ntmps93
 go_wp2_with fail
 go_quiet (fail)
 go_wp2_with (go_at_call 97;refine(b7 r p s _ (by exact a.o)).mono ?_;rintro e w' ⟨rfl,rfl⟩)
 exact⟨rfl,rfl,nq,rfl⟩
def FX(r p:Nat)(s:ByteArray)(w:F)(a:s.size<=Up)(i:¬p<s.size)(h:w.heap[r]? =I (b9 s p)):
 UB aI 93 #[.pointer (I ⟨r,0,K⟩)] w λe w'=>e= .returned (.tuple #[])/\∃n,w'=w.drewN n:=by
 obtain⟨b,c,d,f⟩:=kI h;unfold Up at a;have g:decide ((p:Int)<(s.size:Int))=T5:=by simp;omega
 go_enter an.func93,Tryz.ntmps93
 go_wp2_with fail
 go_quiet (fail)
 go_wp2
 go_end0
 exact⟨rfl,nq,rfl⟩
def nL(s:ByteArray)(w:F):
 UB aI 65 #[.string s] w λe w'=>e= .returned (.pointer (I ⟨w.heap.size,0,K⟩))/\w'=w.alloc (b9 s 0):=by
 go_enter an.func65,Tryz.ntmps65;go_wp2;go_ret;exact⟨rfl,rfl⟩
def lU{w:F}{r p q:Nat}{s:ByteArray}(h:w.heap[r]? =I (b9 s p))(n:Nat):((w.setCell ⟨r,1,K⟩ (.int .i64 (q:Int))).drewN n).heap[r]? =I (b9 s q):=by
 show(w.setCell ⟨r,1,K⟩ (.int .i64 (q:Int))).heap[r]? =_;unfold b9 at*;rw[heap_setCell_same w r 1 _ _ _ h];rfl
def Kp (r:Nat)(w w':F):Prop:=w.grownBy w' (I r)
def Kp.refl(r:Nat)(w:F):Kp r w w:=YQ w _
def Kp.size{r:Nat}{w w':F}(h:Kp r w w'):w.heap.size<=w'.heap.size:=Xo h
def Kp.trans{r:Nat}{w d e:F}(h:Kp r w d)(k:Kp r d e):Kp r w e:=
 ⟨k.os.trans h.os,k.tape.trans h.tape,k.output.trans h.output,Ux (Xo h) (Xo k),λc a b=>(Wv k c (Uc a (Xo h)) b).trans (Wv h c a b)⟩
def Kp.drewN{r:Nat}{w a:F}(h:Kp r w a)(n:Nat):Kp r w (a.drewN n):=Kp.trans h ⟨rfl,rfl,rfl,T6 _,λ_ _ _=>rfl⟩
def Kp.alloc{r:Nat}{w a:F}(h:Kp r w a)(o:Xv):Kp r w (a.alloc o):=Kp.trans h (World.grownBy_alloc a o _)
def Kp.grown{r:Nat}{w d e:F}{c:Option Nat}(h:Kp r w d)(k:d.grownBy e c)(j:∀g,c=I g->w.heap.size<=g):Kp r w e:=
 ⟨k.os.trans h.os,k.tape.trans h.tape,k.output.trans h.output,Ux (Xo h) k.size,λa b i=>(k.block a (Uc b (Xo h)) (λf=>by have:=j a f.symm;omega)).trans (Wv h a b i)⟩
def Kp.set{r:Nat}{w a:F}(h:Kp r w a)(o:Nat)(v:U)(n:Nat):Kp r w ((a.setCell ⟨r,o,K⟩ v).drewN n):=
 Kp.trans h ⟨rfl,rfl,rfl,by simp,λd e c=>by
  show(a.setCell ⟨r,o,K⟩ v).heap[d]? =_;exact heap_setCell_other _ _ _ _ (λb=>c (by cases b;rfl))⟩
def Kp.below{r:Nat}{w a:F}(h:Kp r w a)(e:r<=w.heap.size):XS r w a:=⟨h.os,h.tape,h.output,Xo h,λc d=>Wv h c (by omega) (λb=>by cases b;omega)⟩
def Kp.cq{r:Nat}{w a:F}(h:aP w a):Kp r w a:=⟨h.os,h.tape,h.output,h.size,λc b _=>h.block c b⟩
def Kp.own{r:Nat}{w b:F}{base e a n:Nat}{v:U}{c:List U}(k:Kp r w b)(h:w.ownsRow base e a v n c)(g:r<base):b.ownsRow base e a v n c:=
 h.kept k (by
  cases d:v.ownBlock with
  |none=>exact .inl Y
  |some f=>exact .inr (λe=>by cases e;have:=(h.lt r d).1;omega))
def Kp.block{r:Nat}{w a:F}(k:Kp r w a){i:Nat}{o:Xv}(h:w.heap[i]? =I o)(c:i≠r):a.heap[i]? =I o:=by
 rw[Wv k i (Ud h) (λb=>c (by cases b;rfl))];exact h
end Pk
namespace Ec
open Pk Pm
def js:Nat->Nat->List Nat
 |0,a=>[]
 |f+1,a=>if a<128 then[a] else(a%128+128)::js f (a/128)
def aL (n:Nat):List Nat:=js 10 n
def fK(f n:Nat)(h:n<128):js (f+1) n=[n]:=by simp[js,h]
def iQ(f n:Nat)(h:¬n<128):js (f+1) n=(n%128+128)::js f (n/128):=by simp[js,h]
def N5(f n:Nat):∀x∈js f n,x<256:=by
 induction f generalizing n with
 |zero=>simp[js]
 |succ f d=>
  intro x a;by_cases b:n<128
  ·rw[fK f n b] at a;simp at a;omega
  ·rw[iQ f n b] at a;rcases VM.1 a with c|c
   ·omega
   ·exact d _ x c
def cj(f n:Nat):(js f n).length<=f:=by
 induction f generalizing n with
 |zero=>simp[js]
 |succ f b=>
  by_cases a:n<128
  ·rw[fK f n a];simp
  ·rw[iQ f n a];have:=b (n/128);simp;omega
def Rt(f:Nat)(n:Nat)(h:n<128^(f+1)):n/128<128^f:=by
 rw[WL] at h;exact Nat.div_lt_of_lt_mul (by rw[Xx];exact h)
def JO(n:Nat)(h:n<18446744073709551616):n<128^10:=by
 have:(128:Nat)^10=1180591620717411303424:=by decide
 omega
def zz (n:Int):Nat:=if n<0 then(-2*n-1).toNat else(2*n).toNat
def Bz(n:Int)(a: -9223372036854775808<=n)(h1:n<=9223372036854775807):zz n<18446744073709551616:=by
 unfold zz;split<;>omega
def Sy:∀x,x<256->x|||128=x%128+128:=by decide +kernel
end Ec
end Go.Proofs.YtjidbonhhpkljaaGreat
namespace Go.Proofs.YtjidbonhhpkljaaGreat.Ec
open Go.RowKit Go.Proofs.YtjidbonhhpkljaaGreat.Pk
structure aD where
 null:Bool
 n:Int
 s:ByteArray
def aD.agg(v:aD):U:=.agg #[.bool v.null,.int .i64 v.n,.string v.s]
def aG (l:List aD):List U:=l.flatMap λv=>[.bool v.null,.int .i64 v.n,.string v.s]
structure sI(w:F)(ao:Option UJ)(b off:Nat)(l:List aD):Prop where
 addr:0<l.length->ao=I ⟨b,off,K⟩
 lt:0<l.length->b<w.heap.size
 c0:∀j (h:j<l.length),aM w b (off+j*3) (.bool l[j].null)
 c1:∀j (h:j<l.length),aM w b (off+j*3+1) (.int .i64 l[j].n)
 c2:∀j (h:j<l.length),aM w b (off+j*3+2) (.string l[j].s)
def sI.below{w w':F}{e:Option UJ}{b off:Nat}{l:List aD}(h:sI w e b off l)(d:aP w w'):sI w' e b off l:=
 ⟨h.addr,λf=>Uc (h.lt f) d.size,
  λa c=>(d.cell (p:=⟨b,off+a*3,K⟩) (h.lt (by omega))).trans (h.c0 a c),
  λa c=>(d.cell (p:=⟨b,off+a*3+1,K⟩) (h.lt (by omega))).trans (h.c1 a c),
  λa c=>(d.cell (p:=⟨b,off+a*3+2,K⟩) (h.lt (by omega))).trans (h.c2 a c)⟩
def Fh (x y:aD):Bool:=(x.null==y.null)&&(x.n==y.n)&&(x.s.toList==y.s.toList)
def nA{x y:aD}:Fh x y=Z↔x=y:=by
 unfold Fh;constructor
 ·intro a;simp only[Uv,beq_iff_eq] at a;obtain⟨⟨b,c⟩,d⟩:=a;cases x;cases y;simp only at b c d;rw[b,c,toList_inj d]
 ·rintro rfl;simp
def EB(w:F)(x y:aD):(binOp .neq 59 (.agg #[.bool x.null,.int .i64 x.n,.string x.s]) (.agg #[.bool y.null,.int .i64 y.n,.string y.s])).run aI w= .ok (.bool (!Fh x y)) w:=by
 go_simp;unfold Fh;by_cases a:x.null=y.null<;>by_cases b:x.n=y.n<;>by_cases c:x.s.toList=y.s.toList<;>simp[a,b,c]
def zh(c d:List aD)(v bo:Option UJ)(b off cap b2 q H:Nat)(w:F)(I:c.length<=Up)(J:d.length<=Up)
 (h1:sI w v b off c) (j:sI w bo b2 q d):
 UB aI 29 #[.slice v c.length cap,.slice bo d.length H] w λe w'=>∃b,e= .returned (.bool b)/\(b=Z↔c=d)/\∃n,w'=w.drewN n:=by
 unfold Up at I J;by_cases o:c.length=d.length
 ·have y:((c.length:Int) !=(d.length:Int))=T5:=by simp[o]
  have u:=af o;clear o;go_enter an.func29,Tryz.ntmps29
  go_wp2_with fail
  clear y
  go_loopw [5] (λt wr=>∃a:Nat,a<=c.length/\t= .int .i64 a/\c.take a=d.take a/\∃n,wr=w.drewN n) (λt _=>c.length-(US t).toNat)
  case atStart=>exact⟨0,UE _,rfl,rfl,0,rfl⟩
  case round=>
   obtain⟨a,K,rfl,A,n,f⟩:=hrel;have r:=af A;clear A;by_cases l:a<c.length
   ·have p:a<d.length:=by rw[<-u.o];exact l
    obtain rfl:=h1.addr (by omega);obtain rfl:=j.addr (by omega);have L:aM wr b (off+a*3) (.bool c[a].null):=by rw[f];exact h1.c0 a l
    have M:aM wr b (off+a*3+1) (.int .i64 c[a].n):=by rw[f];exact h1.c1 a l
    have N:aM wr b (off+a*3+2) (.string c[a].s):=by rw[f];exact h1.c2 a l
    have O:aM wr b2 (q+a*3) (.bool d[a].null):=by rw[f];exact j.c0 a p
    have P:aM wr b2 (q+a*3+1) (.int .i64 d[a].n):=by rw[f];exact j.c1 a p
    have Q:aM wr b2 (q+a*3+2) (.string d[a].s):=by rw[f];exact j.c2 a p
    have m:=af f;have i:X (c[a]≠d[a]->c≠d):=λg e=>g (by subst e;rfl);have s:X (c[a]=d[a]->c.take (a+1)=d.take (a+1)):=λg=>by rw[Um l,Um p,r.o,g]
    have z:=λw=>EB w c[a] d[a];clear f h1 j r;generalize c[a]=B at*;generalize d[a]=C at*;by_cases h:B=C
    ·have k:=nA.2 h;have G:=af (s.o h);rw[k] at z;clear s i h k
     go_wp2_with fail
     go_quiet (fail)
     go_wp2
     go_roundw
     case rel=>exact⟨a+1,by omega,by go_num,G.o,n+nq,by rw[m.o];exact Xh _ _ _⟩
     case measure=>simp[US];omega
    ·have k:Fh B C=T5:=by rw[Bool.eq_false_iff];intro g;exact h (nA.1 g)
     have E:=af (i.o h);rw[k] at z;clear s i h k
     go_wp2_with fail
     go_quiet (fail)
     go_wp2;go_ret;exact⟨T5,rfl,by simp;exact E.o,n+nq,by rw[m.o];exact Xh _ _ _⟩
   ·have x:c=d:=by
     have:=r.o;rwa [UO (by omega),UO (by rw[<-u.o];omega)] at this
    have D:=af x;have m:=af f;clear x f;go_wp2;go_ret;exact⟨Z,rfl,by simp;exact D.o,n,m.o⟩
 ·have y:((c.length:Int) !=(d.length:Int))=Z:=by simp;omega
  have i:X (c≠d):=λg=>o (by rw[g]);go_enter an.func29,Tryz.ntmps29;go_wp2;go_ret;exact⟨T5,rfl,by simp;exact i.o,0,rfl⟩
end Go.Proofs.YtjidbonhhpkljaaGreat.Ec
namespace Go.Proofs.YtjidbonhhpkljaaGreat
abbrev gY(x:Ec.aD):Array U:= #[.bool x.null,.int .i64 x.n,.string x.s]
end Go.Proofs.YtjidbonhhpkljaaGreat
namespace Go.Proofs.YtjidbonhhpkljaaGreat
namespace Ec
open Go.RowKit Pk Pm
structure aR(w w':F)(v v':U):Prop where
 fN:w.grownBy w' v.ownBlock
 at_:∀g,v'.ownBlock=I g->v.ownBlock=I g\/w.heap.size<=g
def aR.refl(w:F)(v:U):aR w w v v:=⟨YQ w _,λ_ a=>.inl a⟩
def aR.trans{w g h:F}{v v1 v2:U}(h1:aR w g v v1)(b:aR g h v1 v2):aR w h v v2:=by
 refine⟨⟨b.fN.os.trans h1.fN.os,b.fN.tape.trans h1.fN.tape,b.fN.output.trans h1.fN.output,Ux h1.fN.size b.fN.size,?_⟩,?_⟩
 ·intro c e f;rw[b.fN.block c (Uc e h1.fN.size) (λj=>?_),h1.fN.block c e f];rcases h1.at_ c j.symm with a|a
  ·exact f a.symm
  ·omega
 ·intro d i;rcases b.at_ d i with a|a
  ·exact h1.at_ d a
  ·exact .inr (Ux h1.fN.size a)
def aR.alloc{w a:F}{v v1:U}(h:aR w a v v1)(o:Xv):aR w (a.alloc o) v v1:=
 h.trans ⟨World.grownBy_alloc a o _,λ_ h=>.inl h⟩
def aR.drewN{w a:F}{v v1:U}(h:aR w a v v1)(n:Nat):aR w (a.drewN n) v v1:=
 h.trans ⟨⟨rfl,rfl,rfl,T6 _,λ_ _ _=>rfl⟩,λ_ h=>.inl h⟩
def aR.below{w w':F}{v c:U}{base:Nat}(h:aR w w' v c)(b:∀g,v.ownBlock=I g->base<=g)(a:base<=w.heap.size):XS base w w':=
 (Uo base w).grown h.fN a b
def aR.append{w b:F}{v v1:U}{e k n:Nat}{l:List U}{o:Xv}
 (h:((w.alloc o).grownBy b K/\b.ownsRow (w.alloc o).heap.size e k v1 n l)\/(v1.ownBlock=v.ownBlock/\(w.alloc o).grownBy b v.ownBlock)):aR w b v v1:=by
 have g:=(aR.refl w v).alloc o;refine g.trans ?_;rcases h with⟨a,c⟩|⟨a,c⟩
 ·refine⟨⟨a.os,a.tape,a.output,a.size,λj i _=>a.block j i (by simp)⟩,λf d=>.inr (c.lt f d).1⟩
 ·exact⟨c,λf d=>.inl (by rw[<-a];exact d)⟩
def LP{w:F}{g:Nat}{x:Nat}(hc:aM w g 0 (.int .u8 (x:Int))):
 (convert 133 9 (.slice (I ⟨g,0,K⟩) 1 1)).run aI w= .ok (.string (strOf [x])) w:=
 run_convert_bytes_arg w 133 5 an.underlying133 an.underlying5 g 0 1 1 [(x:Int)] Y (λa b=>by
  have:a=0:=by omega
  subst this;exact hc) 9 an.underlying9
def gR(w:F)(a:U)(t:Ug):∀(j:Nat) (u:U),[a][j]? =I u->(w.alloc (.cells #[a] t)).cell? ((⟨w.heap.size,0,K⟩:UJ).add j)=I u:=by
 intro j u b
 match j,b with
 |0,b=>simp at b;subst b;simp[Yr]
def jl(x:Int):∀u∈[VY .u8 x],u.oneCell'=Z:=by
 intro u a;simp at a;subst a;rfl
def Dz(w:F)(x:Nat):(convert 133 9 (.slice (I ⟨w.heap.size,0,K⟩) 1 1)).run aI (w.alloc (.cells #[.int .u8 (x:Int)] 5))= .ok (.string (strOf [x])) (w.alloc (.cells #[.int .u8 (x:Int)] 5)):=
 LP (by simp)
def Qb(f n:Nat)(w:F)(h:n<128):UB aI 133 #[.int .u64 n] w λe w'=>e= .returned (.string (strOf (js (f+1) n)))/\aP w w':=by
 rw[fK f n h];have a:=Dz w n;go_enter an.func133,Tryz.ntmps133;go_wp2;go_ret;exact⟨rfl,(Uo _ _).alloc (T6 _) _⟩
def Sz(n:Nat):bits .or .u8 ((n:Int)%256) 128=((n%128+128:Nat):Int):=by
 have a:=(bits_nat .u8 8 (by decide) wraps_u8 (n%256) 128 (by omega) (by omega)).2;rw[show((n%256:Nat):Int)=(n:Int)%256 from by omega,Sy (n%256) (by omega)] at a;rw[show(128:Int)=((128:Nat):Int) from rfl,a];omega
def nT(v:U)(pre:List Nat)(n base:Nat)(w:F)(C:n<18446744073709551616)(V:pre.length<=4000000)(R:base<=w.heap.size)
 (d:w.ownsRow base 5 1 v pre.length (aF pre)):
 UB aI 121 #[v,.int .u64 n] w λe w'=>∃l,e= .returned l/\w'.ownsRow base 5 1 l (pre++aL n).length (aF (pre++aL n))/\aR w w' v l:=by
 obtain⟨I,A,E,G,H⟩:=Ve an.rF;go_enter an.func121,Tryz.ntmps121
 go_wp2_with fail
 go_loopw [0,1] (λs k wr=>∃(f m:Nat) (a:List Nat),f<=9/\k= .int .u64 m/\m<128^(f+1)/\m<18446744073709551616/\a.length+f=9/\a++js (f+1) m=aL n/\wr.ownsRow base 5 1 s (pre++a).length (aF (pre++a))/\aR w wr v s/\w.heap.size<=wr.heap.size) (λ_ k _=>(US k).toNat)
 case atStart=>exact⟨9,n,[],by omega,rfl,JO n C,C,rfl,rfl,by simpa using d,aR.refl _ _,T6 _⟩
 case round=>
  obtain⟨f,m,a,S,rfl,B,W,u,x,d,y,aa⟩:=hrel;have q:=af B;have o:=af x;have L:=af u;have Z:(pre++a).length<=4000009:=by simp;omega
  clear B x u;have p:=af y;clear y;have M:X (∃c,c=pre++a):=⟨_,rfl⟩;generalize D:pre++a=c at*;have r:=af D;clear D M;by_cases t:m<128
  ·have ab:Yu.wrap (m:Int)=(m:Int):=Hr (by omega) (by omega)
   go_wp2_with (at_builtin;refine aT _ Y _ _ 133 Y base 5 I (.int .u8 0) 1 1 an.underlying133 A E G H Y (by decide) _ c.length _ Y (d.alloc _) ⟨wr.heap.size,0,K⟩ 1 1 [.int .u8 (m:Int)] Y (by decide) Y (gR _ _ _) (jl _) (by unfold Up;omega) (by omega) (by simp;omega) ?_;intro Q J b i)
   go_ret;refine⟨_,rfl,?_,p.o.trans (aR.append i)⟩;rw[eP] at b;have e:pre++aL n=c++[m]:=by rw[<-o.o,fK f m t,<-r.o,UC]
   rw[e];simpa using b
  ·have O:=Sz m;obtain⟨g,j⟩:∃g,g=m%128+128:=⟨_,rfl⟩;rw[<-j] at O;have T:0<f:=by
    rcases Nat.eq_zero_or_pos f with h|h
    ·subst h;have:=q.o;simp at this;omega
    ·exact h
   have N:=af j;clear j
   go_wp2_with (at_builtin;refine aT _ Y _ _ 133 Y base 5 I (.int .u8 0) 1 1 an.underlying133 A E G H Y (by decide) _ c.length _ Y (d.alloc _) ⟨wr.heap.size,0,K⟩ 1 1 [.int .u8 (g:Int)] Y (by decide) Y (gR _ _ _) (jl _) (by unfold Up;omega) (by omega) (by simp;omega) ?_;intro Q J b i)
   have z:=p.o.trans (aR.append i);have P:w.heap.size<=J.heap.size:=z.fN.size;rw[eP] at b;refine⟨⟨f-1,m/128,a++[g],by omega,by go_num,?_,by omega,by have:=L.o;simp;omega,?_,?_,z,P⟩,by simp[US];omega⟩
   ·have:=Rt f m q.o;rwa [show f-1+1=f by omega]
   ·rw[<-o.o,iQ f m t,show f-1+1=f by omega,N.o,UC];rfl
   ·rw[<-UC,r.o];simpa using b
def wrap_u64(n:Int):Wl.wrap n=n%18446744073709551616:=by simp[IntKind.wrap,Yg,XU]
def xor_zero(x:Nat)(a:x<18446744073709551616):bits .xor .u64 (x:Int) 0=(x:Int):=by
 show Wl.wrap (((Xb 64 (x:Int))^^^(Xb 64 0)).toNat:Int)=_;rw[BitVec.ofInt_natCast,show Xb 64 0=0#64 from rfl,BitVec.xor_zero,BitVec.toNat_ofNat,wrap_u64];omega
def Oe(x:Nat)(a:x<18446744073709551616):bits .xor .u64 (x:Int) 18446744073709551615=((18446744073709551615-x:Nat):Int):=by
 show Wl.wrap (((Xb 64 (x:Int))^^^(Xb 64 18446744073709551615)).toNat:Int)=_;rw[BitVec.ofInt_natCast,show Xb 64 18446744073709551615=BitVec.allOnes 64 from by decide +kernel,BitVec.xor_allOnes,BitVec.toNat_not,BitVec.toNat_ofNat,wrap_u64];omega
def Oj(n:Int)(e: -9223372036854775808<=n)(h1:n<=9223372036854775807):
 bits .xor .u64 (Wl.wrap (Vb (n*2))) (Wl.wrap (n/9223372036854775808))=(zz n:Int):=by
 by_cases d:n<0
 ·have c:Wl.wrap (n/9223372036854775808)=18446744073709551615:=by rw[wrap_u64];omega
  obtain⟨b,a⟩:∃b:Nat,Wl.wrap (Vb (n*2))=(b:Int):=⟨(Wl.wrap (Vb (n*2))).toNat,by rw[wrap_u64];omega⟩;rw[a,c];rw[wrap_u64] at a;unfold Vb at a;rw[Oe b (by omega)];unfold zz;rw[if_pos d];omega
 ·have c:Wl.wrap (n/9223372036854775808)=0:=by rw[wrap_u64];omega
  obtain⟨b,a⟩:∃b:Nat,Wl.wrap (Vb (n*2))=(b:Int):=⟨(Wl.wrap (Vb (n*2))).toNat,by rw[wrap_u64];omega⟩;rw[a,c];rw[wrap_u64] at a;unfold Vb at a;rw[xor_zero b (by omega)];unfold zz;rw[if_neg d];omega
def fW (k:Int):Bool:=decide (1<=k)&&decide (k<=3)
def bI (k e:Int):Bool:=((e==0||e==2)&&fW k)||(e==1&&k==1)||(e==3&&k==2)
def oy(k:Int)(w:F):UB aI 120 #[.int .i64 k] w λe w'=>e= .returned (.bool (fW k))/\w'=w:=by
 by_cases a:1<=k<;>by_cases b:k<=3
 all_goals
  go_enter an.func120,Tryz.ntmps120;go_wp2
  all_goals go_ret
  all_goals exact⟨by simp[fW,a,b],rfl⟩
def BL(e:Int):e=0\/e=1\/e=2\/e=3\/((e==0)=T5/\(e==1)=T5/\(e==2)=T5/\(e==3)=T5):=by
 by_cases a:e=0
 ·exact .inl a
 by_cases b:e=1
 ·exact .inr (.inl b)
 by_cases c:e=2
 ·exact .inr (.inr (.inl c))
 by_cases d:e=3
 ·exact .inr (.inr (.inr (.inl d)))
 exact .inr (.inr (.inr (.inr ⟨by simpa using a,by simpa using b,by simpa using c,by simpa using d⟩)))
def o6(k e:Int)(w:F):UB aI 83 #[.int .i64 k,.int .i64 e] w λr w'=>r= .returned (.bool (bI k e))/\w'=w:=by
 have g:∀a:Bool,(a||false)=a:=by simp
 rcases BL e with rfl|rfl|rfl|rfl|⟨b,c,d,f⟩
 ·rw[show bI k 0=fW k from by simp[bI]];go_enter an.func83,Tryz.ntmps83
  go_wp2_with (go_at_call 120;refine(oy k _).mono ?_;rintro e w' ⟨rfl,rfl⟩)
  go_ret;exact⟨rfl,rfl⟩
 ·rw[show bI k 1=(k==1) from by simp[bI]];go_enter an.func83,Tryz.ntmps83;go_wp2
  all_goals go_ret
  all_goals exact⟨rfl,rfl⟩
 ·rw[show bI k 2=fW k from by simp[bI]];go_enter an.func83,Tryz.ntmps83
  go_wp2_with (go_at_call 120;refine(oy k _).mono ?_;rintro e w' ⟨rfl,rfl⟩)
  go_ret;exact⟨rfl,rfl⟩
 ·rw[show bI k 3=(k==2) from by simp[bI]];go_enter an.func83,Tryz.ntmps83;go_wp2
  all_goals go_ret
  all_goals exact⟨rfl,rfl⟩
 ·rw[show bI k e=T5 from by simp[bI,b,c,d,f]];go_enter an.func83,Tryz.ntmps83;go_wp2
  all_goals go_ret
  all_goals exact⟨rfl,rfl⟩
def MS{k e:Int}(a:(k==1)=T5)(b:(k==2)=T5)(f:(k==3)=T5):bI k e=T5:=by
 have d:fW k=T5:=by
  simp at a b f;unfold fW;by_cases c:1<=k
  ·have:¬k<=3:=by omega
   simp[this]
  ·simp[c]
 simp[bI,d,a,b]
def Pt{k e:Int}(a:(e==0)=T5)(h1:(e==1)=T5)(b:(e==2)=T5)(c:(e==3)=T5):bI k e=T5:=by simp[bI,a,h1,b,c]
def jB (n k e:Int):Int:=if n<0\/100<n then 6 else if bI k e then 0 else 2
def o4(n k e:Int)(w:F):UB aI 123 #[.int .i64 n,.int .i64 k,.int .i64 e] w λr w'=>r= .returned (.int .i64 (jB n k e))/\w'=w:=by
 by_cases b:n<0\/100<n
 ·have a:=pM n w;rw[show FH n=6 from by simp[FH,b]] at a;rw[show jB n k e=6 from by simp[jB,b]];go_enter an.func123,Tryz.ntmps123
  go_wp2_with (go_at_call 141;refine a.mono ?_;rintro e w' ⟨rfl,rfl⟩)
  all_goals go_ret
  all_goals exact⟨rfl,rfl⟩
 ·have a:=pM n w;rw[show FH n=0 from by simp[FH,b]] at a;have c:=o6 k e;by_cases d:bI k e=Z
  ·rw[show jB n k e=0 from by simp[jB,b,d]];rw[d] at c;go_enter an.func123,Tryz.ntmps123
   go_wp2_with (first|(go_at_call 141;refine a.mono ?_;rintro e w' ⟨rfl,rfl⟩)|(go_at_call 83;refine(c _).mono ?_;rintro e w' ⟨rfl,rfl⟩))
   all_goals go_ret
   all_goals exact⟨rfl,rfl⟩
  ·have f:bI k e=T5:=by simpa using d
   rw[show jB n k e=2 from by simp[jB,b,f]];rw[f] at c;go_enter an.func123,Tryz.ntmps123
   go_wp2_with (first|(go_at_call 141;refine a.mono ?_;rintro e w' ⟨rfl,rfl⟩)|(go_at_call 83;refine(c _).mono ?_;rintro e w' ⟨rfl,rfl⟩))
   all_goals go_ret
   all_goals exact⟨rfl,rfl⟩
def cO(v:U)(pre:List Nat)(n base:Nat)(w:F)(i:n<2147483648)(g:pre.length<=4000000)(f:base<=w.heap.size)
 (h:w.ownsRow base 5 1 v pre.length (aF pre)):
 UB aI 84 #[v,.int .i64 n] w λe w'=>∃a,e= .returned a/\w'.ownsRow base 5 1 a (pre++aL n).length (aF (pre++aL n))/\aR w w' v a:=by
 have b:X (UB aI 121 #[v,.int .u64 n] w λe w'=>∃a,e= .returned a/\w'.ownsRow base 5 1 a (pre++aL n).length (aF (pre++aL n))/\aR w w' v a):=
  nT v pre n base w (by omega) g f h
 go_enter an.func84,Tryz.ntmps84
 go_wp2_with fail
 refine b.o.mono ?_;rintro e w' ⟨a,rfl,c,d⟩;go_wp2;go_ret;exact⟨_,rfl,c,d⟩
def DH(n:Int)(a: -9223372036854775808<=n)(h1:n<=9223372036854775807)(w:F):
 UB aI 140 #[.int .i64 n] w λe w'=>e= .returned (.int .u64 (zz n))/\w'=w:=by
 have b:=Oj n a h1;go_enter an.func140,Tryz.ntmps140;go_wp2;go_ret;exact⟨rfl,rfl⟩
def fP (v:aD)(k:Int):Bool:=
 if v.null then(v.n==0)&&(v.s.toList==[]) else if k==1 then v.s.toList==[] else if k==2 then(v.n==0||v.n==1)&&(v.s.toList==[]) else(v.n==0)&&decide ((v.s.size:Int)<=32)
def j4{a b:Bool}(h:a=b):Ending.returned (.bool a)= .returned (.bool b):=by rw[h]
def qG(v:aD)(k:Int)(w:F)(a:k=1\/k=2\/k=3):
 UB aI 82 #[.agg (gY v),.int .i64 k] w λe w'=>e= .returned (.bool (fP v k))/\aP w w':=by
 have b:=oy k;rw[show fW k=Z from by rcases a with rfl|rfl|rfl<;>rfl] at b;cases c:v.null
 ·rcases a with rfl|rfl|rfl
  all_goals
   go_enter an.func82,Tryz.ntmps82;go_wp2
   all_goals go_ret
   all_goals refine⟨j4 ?_,(Uo _ _).alloc (T6 _) _⟩
   all_goals rw[XF]
   all_goals simp[fP, *]
   all_goals try omega
 ·rcases a with rfl|rfl|rfl
  all_goals
   go_enter an.func82,Tryz.ntmps82
   go_wp2_with (go_at_call 120;refine(b _).mono ?_;rintro e w' ⟨rfl,rfl⟩)
   all_goals go_ret
   all_goals refine⟨j4 ?_,(Uo _ _).alloc (T6 _) _⟩
   all_goals rw[XF]
   all_goals simp[fP, *]
   all_goals try omega
def dF (x:Int):List Int->Nat
 | []=>0
 |y::a=>if y=x then dF x a+1 else 0
def byteOf(x:Int):Nat:=(x%256).toNat
def iC:Nat->List Int->List Nat
 |0,_=>[]
 |f+1,b=>match b with
  | []=>[]
  |x::a=>aL (dF x (x::a))++([byteOf x]++iC f ((x::a).drop (dF x (x::a))))
def cw (l:List Int):List Nat:=iC l.length l
def Bg(x:Int)(l:List Int):dF x l<=l.length:=by
 induction l with
 |nil=>simp[dF]
 |cons c b a=>simp only[dF];split<;>simp<;>omega
def Kk(x:Int)(l:List Int)(n:Nat)(h:n<dF x l):∃e:n<l.length,l[n]=x:=by
 induction l generalizing n with
 |nil=>simp[dF] at h
 |cons g f d=>
  simp only[dF] at h
  split at h
  ·rename_i c;cases n with
   |zero=>exact⟨by simp,by simpa using c⟩
   |succ m=>
    obtain⟨a,b⟩:=d m (by omega);exact⟨by simp;exact a,by simpa using b⟩
  ·omega
def ze(x:Int)(l:List Int)(h:dF x l<l.length):l[dF x l]≠x:=by
 induction l with
 |nil=>simp at h
 |cons c d b=>
  simp only[dF] at h ⊢;by_cases a:c=x
  ·simp only[a,if_true] at h ⊢;have:=b (by simpa using h);simpa using this
  ·simp only[a,if_false] at h ⊢;simpa using a
def lN (a:List Int)(i:Nat):Nat:=dF (a.getD i 0) (a.drop i)
def Kj(a:List Int)(i:Nat)(h:i<a.length):0<lN a i:=by
 unfold lN;rw[Wo h,ff h];simp[dF]
def Nn(a:List Int)(i:Nat)(h:i<a.length):i+lN a i<=a.length:=by
 have:=Bg (a.getD i 0) (a.drop i);unfold lN;rw[WZ] at this;omega
def Nm(a:List Int)(i n:Nat)(h:n<lN a i):∃e:i+n<a.length,a[i+n]=a.getD i 0:=by
 obtain⟨b,c⟩:=Kk _ _ n h;have d:i+n<a.length:=by simp at b;omega
 exact⟨d,by simpa using c⟩
def Ki(a:List Int)(i:Nat)(h:i+lN a i<a.length):a[i+lN a i]≠a.getD i 0:=by
 have:=ze (a.getD i 0) (a.drop i) (by unfold lN at h;rw[WZ];omega);simpa [lN] using this
def GD(f:Nat)(a:List Int)(i:Nat)(h:i<a.length):iC (f+1) (a.drop i)=aL (lN a i)++([byteOf (a.getD i 0)]++iC f (a.drop (i+lN a i))):=by
 unfold lN;rw[Wo h,ff h];simp only[iC];rw[<-Wo h,List.drop_drop]
def Kq(f:Nat)(a:List Int)(i:Nat)(h:¬i<a.length):iC f (a.drop i)=[]:=by
 rw[List.drop_of_length_le (by omega)];cases f<;>rfl
def nX(x:Int):byteOf x<256:=by unfold byteOf;omega
def mz(x:Int):x%256=(byteOf x:Int):=by unfold byteOf;omega
def oK(f:Nat)(l:List Int):(iC f l).length<=11*f:=by
 induction f generalizing l with
 |zero=>simp[iC]
 |succ f c=>
  cases l with
  |nil=>simp[iC]
  |cons a b=>
   simp only[iC];have d:=cj 10 (dF a (a::b));have e:=c ((a::b).drop (dF a (a::b)));simp only[T8,List.length_singleton];unfold aL;omega
def pI(v:U)(pre:List Nat)(a:List Int)(a3:Option UJ)(b off cap base:Nat)(w:F)(b4:a.length<=100)(cl:pre.length<=100000)(a5:base<=w.heap.size)
 (b1:0<a.length->a3=I ⟨b,off,K⟩) (cc:0<a.length->b<w.heap.size) (ar:0<a.length->v.ownBlock≠I b) (hc:∀j,j<a.length->aM w b (off+j) (.int .i64 (a.getD j 0)))
 (t:w.ownsRow base 5 1 v pre.length (aF pre)):
 UB aI 142 #[v,.slice a3 a.length cap] w λe w'=>∃p,e= .returned p/\w'.ownsRow base 5 1 p (pre++cw a).length (aF (pre++cw a))/\aR w w' v p:=by
 obtain⟨bo,a9,bj,bl,bm⟩:=Ve an.rF;go_enter an.func142,Tryz.ntmps142
 go_wp2_with fail
 go_loopw [0,5] (λa4 aw wr=>∃(c f:Nat) (i:List Nat),c<=a.length/\aw= .int .i64 c/\a.length<=c+f/\f<=100/\i.length+11*f<=1100/\i++iC f (a.drop c)=cw a/\wr.ownsRow base 5 1 a4 (pre++i).length (aF (pre++i))/\aR w wr v a4) (λ_ aw _=>a.length-(US aw).toNat)
 case atStart=>exact⟨0,a.length,[],UE _,rfl,by omega,b4,by simp;omega,rfl,by simpa using t,aR.refl _ _⟩
 case round=>
  clear t;obtain⟨c,f,i,ci,rfl,ck,ch,cd,a6,t,am⟩:=hrel
  rename F=>az
  have R:=af a6;have N:=af am;have cx:w.heap.size<=az.heap.size:=am.fN.size;clear a6 am;have cs:(pre++i).length<=200000:=by simp;omega
  generalize bc:pre++i=n at*;have W:=af bc;clear bc;by_cases y:c<a.length
  ·obtain rfl:=b1 (by omega);have al:∀j,j<a.length->aM az b (off+j) (.int .i64 (a.getD j 0)):=λj bB=>N.o.fN.cell (hc j bB) (λu=>ar (by omega) u.symm);have a0:=af al;have a1:=af (GD (f-1) a c y);have cv:=Kj a c y;have cu:=Nn a c y;have bs:X (∀k,k<lN a c->∃P:c+k<a.length,a[c+k]=a.getD c 0):=λk P=>Nm a c k P;have bt:X (∀u:c+lN a c<a.length,a[c+lN a c]≠a.getD c 0):=λu=>Ki a c u;have O:=al c y;clear al;generalize lN a c=d at*;generalize be:a.getD c 0=h at*;have a2:=af be;clear be
   go_wp2_with fail
   go_loopw [6] (λj cb=>∃m:Nat,c+1<=m/\m<=c+d/\j= .int .i64 (m:Int)/\∃k,cb=az.drewN k) (λj _=>a.length+1-(US j).toNat)
   case atStart=>exact⟨c+1,by omega,by omega,by go_num,0,rfl⟩
   case round=>
    obtain⟨m,cn,co,rfl,k,l⟩:=hrel;have bv:=af l;have a7:aM wr b (off+c) (.int .i64 h):=by rw[l];exact O
    by_cases bb:m<c+d
    ·obtain⟨P,bd⟩:=bs.o (m-c) (by omega);have s:m<a.length:=by omega
     have G:aM wr b (off+m) (.int .i64 h):=by
      rw[l];have:=a0.o m s;rw[ff s] at this;rw[show a[m]=h from by rw[<-bd];congr 1;omega] at this;exact this
     have a8:decide ((m:Int)<(a.length:Int))=Z:=by simpa using s
     clear O l t P bd
     go_wp2_with fail
     go_quiet (fail)
     go_wp2
     go_roundw
     case rel=>exact⟨m+1,by omega,by omega,by go_num,k+nq,by rw[bv.o];exact Xh _ _ _⟩
     case measure=>simp[US];omega
    ·have A:X (m=c+d):=by show m=c+d;omega
     have cp:c<=m:=by omega
     have bu:X (Vb ((m:Int)-(c:Int))=(d:Int)):=by have:=A.o;show _=_;unfold Vb;omega
     by_cases s:m<a.length
     ·have G:∃x,aM wr b (off+m) (.int .i64 x)/\x≠h:=by
       refine⟨a.getD m 0,by rw[l];exact a0.o m s,?_⟩;have e:=A.o;clear bu;subst e;rw[ff s];exact bt.o s
      obtain⟨x,G,bi⟩:=G;have a8:decide ((m:Int)<(a.length:Int))=Z:=by simpa using s
      have cf:(x==h)=T5:=by simpa using bi
      have V:X (∀g,(wr.drewN g).ownsRow base 5 1 u0 n.length (aF n)):=λg=>by rw[l];exact aK t (below_drewN (below_drewN (Uo _ _) k) g)
      have B:X (∀g,aR w (wr.drewN g) v u0):=λg=>by rw[l];exact(N.o.drewN k).drewN g
      clear O l t bb bi
      go_wp2_with fail
      go_quiet (fail)
      try clear G
      have av:Yu.wrap h=h%256:=by simp[IntKind.wrap,Yg,XU]
      rw[mz] at av;have bA:=nX h;have S:X (∃x,x=byteOf h):=⟨_,rfl⟩;generalize L:byteOf h=q at*;have bx:=af L;clear S L;have b3:=cj 10 d;have aa:X (∃g,g=n++aL d):=⟨_,rfl⟩;generalize z:n++aL d=o at*;have b0:o.length<=200010:=by rw[<-z,T8];unfold aL;omega
      have C:=af z;clear z aa;have Q:X (UB aI 84 #[u0,.int .i64 ((m:Int)-(c:Int))] (wr.drewN nq) λe w'=>∃p,e= .returned p/\w'.ownsRow base 5 1 p o.length (aF o)/\aR (wr.drewN nq) w' u0 p):=by
       have D:=cO u0 n d base (wr.drewN nq) (by omega) (by omega) (Ux a5 (B.o nq).fN.size) (V.o nq);rw[C.o] at D;rw[show(m:Int)-(c:Int)=(d:Int) from by have:=A.o;omega];exact D
      go_wp2_with first
       |(go_at_call 84;refine Q.o.mono ?_;rintro e M ⟨b5,rfl,au,H⟩;have r:=(B.o nq).trans H;have ae:=r.fN.cell (hc c y) (λu=>ar (by omega) u.symm);have T:=af r;have b2:w.heap.size<=M.heap.size:=r.fN.size;rw[a2.o] at ae;clear r H a7)
       |(at_builtin;refine aT _ Y _ _ 133 Y base 5 bo (.int .u8 0) 1 1 an.underlying133 a9 bj bl bm Y (by decide) _ o.length _ Y (au.alloc _) ⟨M.heap.size,0,K⟩ 1 1 [.int .u8 (q:Int)] Y (by decide) Y (gR _ _ _) (jl _) (by unfold Up;omega) (by omega) (by simp;omega) ?_;intro b6 ca J ao)
      have ap:=T.o.trans (aR.append ao);rw[eP] at J;have ab:pre++(i++(aL d++[q]))=o++[q]:=by rw[<-C.o,<-W.o];simp[UC]
      have ad:(i++(aL d++[q]))++iC (f-1) (a.drop m)=cw a:=by
       have E:=a1.o;rw[show f-1+1=f by omega] at E;rw[<-R.o,E,A.o];simp[UC]
      refine⟨⟨m,f-1,i++(aL d++[q]),by omega,rfl,by omega,by omega,?_,ad,?_,ap⟩,by simp[US];omega⟩
      ·rw[T8,T8];unfold aL;simp;omega
      ·rw[ab];simpa using J
     ·have a8:decide ((m:Int)<(a.length:Int))=T5:=by simpa using s
      have V:X (∀g,(wr.drewN g).ownsRow base 5 1 u0 n.length (aF n)):=λg=>by rw[l];exact aK t (below_drewN (below_drewN (Uo _ _) k) g)
      have B:X (∀g,aR w (wr.drewN g) v u0):=λg=>by rw[l];exact(N.o.drewN k).drewN g
      clear O l t bb
      go_wp2_with fail
      go_quiet (fail)
      try clear G
      have av:Yu.wrap h=h%256:=by simp[IntKind.wrap,Yg,XU]
      rw[mz] at av;have bA:=nX h;have S:X (∃x,x=byteOf h):=⟨_,rfl⟩;generalize L:byteOf h=q at*;have bx:=af L;clear S L;have b3:=cj 10 d;have aa:X (∃g,g=n++aL d):=⟨_,rfl⟩;generalize z:n++aL d=o at*;have b0:o.length<=200010:=by rw[<-z,T8];unfold aL;omega
      have C:=af z;clear z aa;have Q:X (UB aI 84 #[u0,.int .i64 ((m:Int)-(c:Int))] (wr.drewN nq) λe w'=>∃p,e= .returned p/\w'.ownsRow base 5 1 p o.length (aF o)/\aR (wr.drewN nq) w' u0 p):=by
       have D:=cO u0 n d base (wr.drewN nq) (by omega) (by omega) (Ux a5 (B.o nq).fN.size) (V.o nq);rw[C.o] at D;rw[show(m:Int)-(c:Int)=(d:Int) from by have:=A.o;omega];exact D
      go_wp2_with first
       |(go_at_call 84;refine Q.o.mono ?_;rintro e M ⟨b5,rfl,au,H⟩;have r:=(B.o nq).trans H;have ae:=r.fN.cell (hc c y) (λu=>ar (by omega) u.symm);have T:=af r;have b2:w.heap.size<=M.heap.size:=r.fN.size;rw[a2.o] at ae;clear r H a7)
       |(at_builtin;refine aT _ Y _ _ 133 Y base 5 bo (.int .u8 0) 1 1 an.underlying133 a9 bj bl bm Y (by decide) _ o.length _ Y (au.alloc _) ⟨M.heap.size,0,K⟩ 1 1 [.int .u8 (q:Int)] Y (by decide) Y (gR _ _ _) (jl _) (by unfold Up;omega) (by omega) (by simp;omega) ?_;intro b6 ca J ao)
      have ap:=T.o.trans (aR.append ao);rw[eP] at J;have ab:pre++(i++(aL d++[q]))=o++[q]:=by rw[<-C.o,<-W.o];simp[UC]
      have ad:(i++(aL d++[q]))++iC (f-1) (a.drop m)=cw a:=by
       have E:=a1.o;rw[show f-1+1=f by omega] at E;rw[<-R.o,E,A.o];simp[UC]
      refine⟨⟨m,f-1,i++(aL d++[q]),by omega,rfl,by omega,by omega,?_,ad,?_,ap⟩,by simp[US];omega⟩
      ·rw[T8,T8];unfold aL;simp;omega
      ·rw[ab];simpa using J
  ·have ba:=Kq f a c y;have br:X (pre++cw a=n):=by show _=_;rw[<-R.o,ba,List.append_nil];exact W.o
   clear ba;go_wp2;go_ret;exact⟨_,rfl,by rw[br.o];exact t,N.o⟩
end Ec
end Go.Proofs.YtjidbonhhpkljaaGreat
