/- What the proof stands on, in short names. -/
import Derived.Below
import Derived.Conc.Beside
import Derived.Laws.Sem
import Derived.StepT
import GoSem.Dispatch
import Derived.Conc.Listed
import Derived.Calls
import Derived.Test.YtjidbonhhpkljaaGreatProg
import Derived.KernelRfl
import Derived.WalkKit
import Derived.Test.YtjidbonhhpkljaaGreatRows
import Derived.ProofKit
import Derived.Deep.QuietTactic
import Derived.BigQuiet
import Derived.Laws.BytesArg
import Derived.Deep.RegionWith
import Derived.ArgAppend
import Derived.Laws.CopyOwn
import Derived.Laws.BitsLemmas
import Derived.WalkLawsBesides
import Derived.Recover
import Derived.Laws.StructEq
set_option linter.all false
open Array renaming getElem?_eq_getElem->UW,getElem?_eq_none->Vm,getElem?_eq_some_iff->Uc,getElem?_modify->VW,getElem?_push->VD,getElem?_setIfInBounds->UQ,range->Yq
open BitVec renaming ofInt->Xd
open Bool renaming and_eq_true->Ux,eq_iff_iff->XH,false->T8,false_eq_true->UC,true->Z
open False renaming elim->Yr
open Go renaming Addr->UK,BinOp->Yy,Code->WX,Deferred->Wl,Event->Vn,Frame->Uu,Func->WD,FuncId->V2,GStep->Yu,IntKind->Wy,Item->WO,MapEntry->VQ,Obj->Xx,Operand->U7,PanicEntry->Vs,Program->Ug,Result->XX,Sem->Wv,TypeId->Ui,Value->U,World->F,behindNumber->WB,doReturn->Xb,exitTo->Yi,info_parts->Vg,lt_of_block->Uf,maxLen->Ur,resolve->X7,results->UY,stepG->UN,tryRecover->Xr,typeInfo->XE,undef->Vl,underlying->Xs,unwind->Yj,zeroValue->Wo
open Go.Addr renaming add->Ys
open Go.Addr.mk renaming injEq->Wi
open Go.Builtin renaming append_->XY,firstCells->Xn,holdsCells->Xo,lenOf->Ym,mayShare->Yc,unsafeAdd_->Xp
open Go.ByteArray renaming toList_eq->XL
open Go.Conc renaming G->Uh
open Go.Deferred renaming ofValue->XP
open Go.Extern renaming find->YC
open Go.Frame renaming enter->UZ,finish->VX,round->WZ
open Go.GStep renaming after->WS
open Go.Instr renaming buildSlice->XQ,checkKey->XU,endRound->Yd,fill->X8,findKey->Yn,makeSlice->XZ,sameBits->XB,sureAddr->Xg
open Go.IntKind renaming bits->Yh,i64->XO,signed->XV,u64->Wm,u8->Yv,wrap_i64->Xa
open Go.Op.Complex renaming add->YV,arith->YT,cmp->YW,conv->YU,corrected->YZ,mul->YX,product->YQ,quo->Y8,quotient->YO,sub->YY
open Go.Proofs.Tryz renaming prog->T5
open Go.Region renaming schedule->X3,wanted->UG
open Go.Result.halt renaming injEq->Y5
open Go.RowKit renaming Below->WN,intOf->UT,wrap64->Vd
open Go.RowKit.Below renaming refl->Uq
open Go.RuntimeError renaming error->Y2
open Go.Sem renaming run->Wu,runT->U5,run_bind->WK
open Go.Unsupported renaming resourceLimit->YI,unsafePointer->YA
open Go.Value renaming int->VZ,slice->Vc
open Go.Value.slice renaming injEq->VB
open Go.World renaming cell?->Ut,drewN_drewN->Xj,farLoad->Ya,farStore->XC,freeze->VR,frozen?->UR,noCell->WW,setCell->Yb
open Go.World.grownBy renaming block->Ww,refl->YR,size->Xq
open Go.stepG renaming apply->VO,exec->UJ
open List renaming all_eq_true->UA,append_assoc->UD,cons_append->We,drop_eq_getElem_cons->Wp,eq_nil_of_length_eq_zero->Vi,getD->Yx,length_append->Ub,length_cons->VJ,length_drop->Xc,mem_append->U2,mem_cons->VN,mem_cons_self->Xu,mem_map->U8,mem_singleton->WJ,take_of_length_le->UP,take_succ_eq_append_getElem->Up
open MonadExceptOf renaming throw->YG
open Nat renaming add_assoc->U6,le_refl->T9,le_trans->Uz,lt_of_lt_of_le->Ue,lt_or_ge->Vz,mul_add->Yf,mul_comm->Xz,mul_le_mul_left->Xk,pow_add->Xm,pow_le_pow_right->VP,pow_succ->WM,zero_le->UF
open Option renaming map_eq_some_iff->Wr,map_some->V4,none->K,some->I
open Option.some renaming inj->Yl,injEq->U9
open Std.Legacy.Range renaming forIn_eq_forIn_range'->Vy
set_option maxRecDepth 100000
set_option maxHeartbeats 8000000
namespace Go.Proofs.YtjidbonhhpkljaaGreat
def X (p:Prop):Prop:=p
def X.o{p:Prop}(h:X p):p:=h
def af{p:Prop}(h:p):X p:=h
def Y{α:Sort _}{a:α}:a=a:=rfl
abbrev aR:U:=.slice K 0 0
abbrev bU(w:F)(b o:Nat)(v:U):Prop:=w.cell? ⟨b,o,K⟩=I v
abbrev bS(g:Nat):U:=.pointer (I ⟨g,0,K⟩)
abbrev aP(w w':F):Prop:=WN w.heap.size w w'
end Go.Proofs.YtjidbonhhpkljaaGreat
namespace Go.Proofs.YtjidbonhhpkljaaGreat
namespace Cc
open Go
abbrev Tp:=Nat->Question->Nat
def sh (a:Tp)(d:Nat)(w:F):F:={w with tape:=a,drawn:=d}
def rW {α:Type}:XX α->F
 | .ok _ w=>w
 | .halt _ w=>w
def Al (e:Tp)(d:Nat)(f:Tp)(c:Nat)(n:Nat):Prop:=∀a b,a<n->f (c+a) b=e (d+a) b
def Al.sub{b c:Tp}{d a n m:Nat}(h:Al b d c a n)(i:m<=n):Al b d c a m:=λe f g=>h e f (by omega)
def Al.refl(a:Tp)(d n:Nat):Al a d a d n:=λ_ _ _=>rfl
def pp:Halt->Bool
 | .panic _=>Z
 | .stuck _=>Z
 | .unsupported (.initOrder _)=>T8
 | .unsupported _=>Z
 |_=>T8
def pz:Xx:=.coro K
def jk:Xx->Bool
 | .loop _| .deferred _| .pending _ _| .coro _=>Z
 |_=>T8
def Gx {α:Type}(k:Xx->Wv α):Prop:=(∃s,k pz= .halt (.stuck s))\/((∀c,k (.loop c)=k pz)/\(∀b,k (.deferred b)=k pz)/\(∀a d,k (.pending a d)=k pz)/\∀e,k (.coro e)=k pz)
def Gx.bind{α e:Type}{k:Xx->Wv α}(h:Gx k)(f:α->Wv e):Gx λo=>(k o).bind f:=by
 rcases h with⟨s,h⟩|⟨a,b,c,d⟩
 ·exact .inl ⟨s,by dsimp only;rw[h];rfl⟩
 ·exact .inr ⟨λj=>by dsimp only;rw[a],λi=>by dsimp only;rw[b],λg l=>by dsimp only;rw[c],λm=>by dsimp only;rw[d]⟩
def Gx.Ta{α:Type}{k:Xx->Wv α}(h:Gx k){x:Xx}(e:jk x=Z):(∃s,k pz= .halt (.stuck s))\/k x=k pz:=by
 rcases h with h|⟨a,b,c,d⟩
 ·exact .inl h
 ·cases x<;>first|(simp[jk] at e;done)|exact .inr (a _)|exact .inr (b _)|exact .inr (c _ _)|exact .inr (d _)
section
variable (P P':Ug)(O:Xx->Prop)
def Still{α:Type}(Q:α->Prop):Wv α->Prop
 | .pure d=>Q d
 | .load _ _ a=>∀v,Still Q (a v)
 | .store _ _ _ a=>Still Q a
 | .new b a=>O b/\∀c,Still Q (a c)
 | .shape _ a=>∀s,Still Q (a s)
 | .freeze _ _ a=>Still Q a
 | .frozen _ a=>∀e,Still Q (a e)
 | .getObj _ a=>(∀b,O b->Still Q (a b))/\Gx a
 | .setObj _ b a=>O b/\Still Q a
 | .choose _ a=>∀i,Still Q (a i)
 | .sys g a=>g= .env/\∀c,Still Q (a c)
 | .program a=>a P=a P'/\Still Q (a P)
 | .mark m a=>(Conc.Neutral m\/∃f,m= .extern f)/\Still Q a
 | .halt h=>pp h=Z
def Still.bind{α j:Type}{Q:α->Prop}{R:j->Prop}{f:α->Wv j}(k:∀a,Q a->Still P P' O R (f a)):∀{s:Wv α},Still P P' O Q s->Still P P' O R (s.bind f):=by
 intro s
 induction s with
 |pure a=>intro b;exact k a b
 |load m a d c=>intro b v;exact c v (b v)
 |store m a v d c=>intro b;exact c b
 |new g d c=>intro b;exact⟨b.1,λe=>c e (b.2 e)⟩
 |shape e d c=>intro b s;exact c s (b s)
 |freeze a h d c=>intro b;exact c b
 |frozen a d c=>intro b i;exact c i (b i)
 |getObj e d c=>intro b;exact⟨λg l=>c g (b.1 g l),b.2.bind f⟩
 |setObj e g d c=>intro b;exact⟨b.1,c b.2⟩
 |choose o d c=>intro b h;exact c h (b h)
 |sys n d c=>intro b;exact⟨b.1,λe=>c e (b.2 e)⟩
 |program d c=>intro b;exact⟨congrArg (·.bind f) b.1,c P b.2⟩
 |mark m d c=>intro b;exact⟨b.1,c b.2⟩
 |halt b=>intro b;exact b
def Still.mono{α:Type}{Q R:α->Prop}(j:∀a,Q a->R a):∀{s:Wv α},Still P P' O Q s->Still P P' O R s:=by
 intro s
 induction s with
 |pure a=>intro b;exact j a b
 |load m a d c=>intro b v;exact c v (b v)
 |store m a v d c=>intro b;exact c b
 |new f d c=>intro b;exact⟨b.1,λe=>c e (b.2 e)⟩
 |shape e d c=>intro b s;exact c s (b s)
 |freeze a g d c=>intro b;exact c b
 |frozen a d c=>intro b h;exact c h (b h)
 |getObj e d c=>intro b;exact⟨λf i=>c f (b.1 f i),b.2⟩
 |setObj e f d c=>intro b;exact⟨b.1,c b.2⟩
 |choose l d c=>intro b g;exact c g (b g)
 |sys k d c=>intro b;exact⟨b.1,λe=>c e (b.2 e)⟩
 |program d c=>intro b;exact⟨b.1,c P b.2⟩
 |mark m d c=>intro b;exact⟨b.1,c b.2⟩
 |halt b=>intro b;exact b
end
def Hp (O:Xx->Prop)(w:F):Prop:=∀(b:Nat) (a:Xx),w.heap[b]? =I a->O a\/a=pz
structure Plain(O:Xx->Prop):Prop where
 cells:∀c t f,O (.cells c t f)
 pending:∀c t,¬O (.pending c t)
 Rj:¬O pz
 loop:∃r,O (.loop r)
structure Un(w u:F):Prop where
 size:u.heap.size=w.heap.size
 at_:∀(b:Nat) (o:Xx),w.heap[b]? =I o->u.heap[b]? =I o\/(o=pz/\∃x,u.heap[b]? =I x/\jk x=Z)
 os:u.os=w.os
 output:u.output=w.output
structure rY(w u w' u':F):Prop where
 un:Un w' u'
 keep:∀b:Nat,w'.heap[b]? =I pz->w.heap[b]? =I pz/\u'.heap[b]? =u.heap[b]?
def Un.refl(w:F):Un w w:=⟨rfl,λb c a=>.inl a,rfl,rfl⟩
def Un.two{w u:F}(h:Un w u):rY w u w u:=⟨h,λb a=>⟨a,rfl⟩⟩
def rY.trans{w u w1 u1 c u2:F}(h:rY w u w1 u1)(b:rY w1 u1 c u2):rY w u c u2:=⟨b.un,λa i=>by
 obtain⟨d,e⟩:=b.keep a i;obtain⟨f,g⟩:=h.keep a d;exact⟨f,e.trans g⟩⟩
def Un.none{w u:F}(h:Un w u){b:Nat}(a:w.heap[b]? =K):u.heap[b]? =K:=by
 rw[Array.getElem?_eq_none_iff] at a ⊢;rw[h.size];exact a
def Un.o{w u:F}(h:Un w u){b:Nat}{o:Xx}(a:w.heap[b]? =I o)(c:o≠pz):u.heap[b]? =I o:=(h.at_ b o a).elim id λh=>absurd h.1 c
def Un.row{w u:F}(h:Un w u){b:Nat}{c:Array U}{t:Ui}{f:Nat×Nat}:w.heap[b]? =I (.cells c t f)↔u.heap[b]? =I (.cells c t f):=by
 constructor
 ·exact λa=>h.o a (by simp[pz])
 ·intro a;cases e:w.heap[b]? with
  |none=>rw[h.none e] at a;cases a
  |some i=>
   rcases h.at_ b i e with d|⟨_,j,d,g⟩
   ·rw[d] at a;exact a
   ·rw[d] at a;cases a;simp[jk] at g
def Un.cases{w u:F}(h:Un w u)(b:Nat):u.heap[b]? =w.heap[b]? \/(w.heap[b]? =I pz/\∃x,u.heap[b]? =I x/\jk x=Z):=by
 cases c:w.heap[b]? with
 |none=>exact .inl (h.none c)
 |some e=>
  rcases h.at_ b e c with a|⟨rfl,x,a,d⟩
  ·exact .inl a
  ·exact .inr ⟨rfl,x,a,d⟩
def Un.cell{w u:F}(h:Un w u)(a:UK):u.cell? a=w.cell? a:=by
 unfold Ut;rcases h.cases a.block with b|⟨b,e,c,d⟩
 ·rw[b]
 ·rw[b,c];cases e<;>first|rfl|(simp[jk] at d;done)
def Un.shape{w u:F}(h:Un w u)(r:Nat):u.shape? r=w.shape? r:=by
 unfold World.shape?;rcases h.cases r with a|⟨a,d,b,c⟩
 ·rw[a]
 ·rw[a,b];cases d<;>first|rfl|(simp[jk] at c;done)
def Un.frozen{w u:F}(h:Un w u)(a:UK):u.frozen? a=w.frozen? a:=by
 unfold UR;rcases h.cases a.block with b|⟨b,e,c,d⟩
 ·rw[b]
 ·rw[b,c];cases e<;>first|rfl|(simp[jk] at d;done)
def Un.modify{w u:F}(h:Un w u)(r:Nat)(f:Xx->Xx)(hc:∀c t z,∃n x y,f (.cells c t z)= .cells n x y)(l:∀o,(∀c t z,o≠.cells c t z)->f o=o):rY w u {w with heap:=w.heap.modify r f} {u with heap:=u.heap.modify r f}:=by
 have q:∀(h:Array Xx) (e:Nat),(h.modify r f)[e]? =(h[e]?).map λo=>if r=e then f o else o:=λh e=>by
  rw[VW]
  split
  ·rename_i a;subst a;simp
  ·rename_i a;simp[a]
 have v:∀d,jk d=Z->∀c t z,d≠.cells c t z:=λd j c t z a=>by rw[a] at j;simp[jk] at j
 refine⟨⟨by simp[h.size],λe o b=>?_,h.os,h.output⟩,λe b=>?_⟩
 ·simp only[q] at b ⊢;cases i:w.heap[e]? with
  |none=>rw[i] at b;cases b
  |some g=>
   rw[i] at b;rcases h.at_ e g i with a|⟨rfl,d,a,j⟩
   ·rw[a];exact .inl b
   ·have k:(if r=e then f pz else pz)=pz:=by split<;>first|rfl|exact l pz (λc t z=>by simp[pz])
    have m:(if r=e then f d else d)=d:=by split<;>first|rfl|exact l d (v d j)
    simp only[V4,k,U9] at b;exact .inr ⟨b.symm,d,by rw[a];simp[m],j⟩
 ·simp only[q] at b ⊢;cases i:w.heap[e]? with
  |none=>rw[i] at b;cases b
  |some g=>
   rw[i] at b;have A:g=pz:=by
    by_cases p:∃c t z,g= .cells c t z
    ·obtain⟨c,t,z,rfl⟩:=p;obtain⟨n,x,y,a⟩:=hc c t z;simp only[V4,a,U9] at b
     split at b<;>simp[pz] at b
    ·have k:(if r=e then f g else g)=g:=by split<;>first|rfl|exact l g (λc t z a=>p ⟨c,t,z,a⟩)
     simpa [k] using b
   subst A;refine⟨rfl,?_⟩;rcases h.at_ e pz i with a|⟨_,d,a,j⟩
   ·rw[a];have k:(if r=e then f pz else pz)=pz:=by split<;>first|rfl|exact l pz (λc t z=>by simp[pz])
    simp[k]
   ·rw[a];have m:(if r=e then f d else d)=d:=by split<;>first|rfl|exact l d (v d j)
    simp[m]
def Un.push{w u:F}(h:Un w u){o:Xx}(d:o≠pz):rY w u {w with heap:=w.heap.push o} {u with heap:=u.heap.push o}:=by
 refine⟨⟨by simp[h.size],λc e a=>?_,h.os,h.output⟩,λc a=>?_⟩
 ·simp only[VD,h.size] at a ⊢
  split
  ·rename_i b;rw[if_pos b] at a;exact .inl a
  ·rename_i b;rw[if_neg b] at a;exact h.at_ c e a
 ·simp only[VD,h.size] at a ⊢
  split at a
  ·cases a;exact absurd Y d
  ·rename_i b;rw[if_neg b];exact⟨a,rfl⟩
def Un.set{w u:F}(h:Un w u)(r:Nat){o:Xx}(d:o≠pz):rY w u {w with heap:=w.heap.setIfInBounds r o} {u with heap:=u.heap.setIfInBounds r o}:=by
 refine⟨⟨by simp[h.size],λc e a=>?_,h.os,h.output⟩,λc a=>?_⟩
 ·simp only[UQ,h.size] at a ⊢
  split
  ·rename_i b;rw[if_pos b] at a;exact .inl a
  ·rename_i b;rw[if_neg b] at a;exact h.at_ c e a
 ·simp only[UQ,h.size] at a ⊢
  split at a
  ·split at a
   ·cases a;exact absurd Y d
   ·cases a
  ·rename_i b;rw[if_neg b];exact⟨a,rfl⟩
structure Views(P P':Ug):Prop where
 load:∀(w u:F) at_ t a m,(∀c e f,w.heap[(at_:UK).block]? =I (.cells c e f)↔u.heap[at_.block]? =I (.cells c e f))->u.viewLoad P' at_ t a m=w.viewLoad P at_ t a m
 touch:∀(w:F) at_ t a m v l,w.viewLoad P at_ t a m= .ok (v,l)->∀x∈l,x.block<w.heap.size
 store:∀(w u:F) at_ t a v m,(∀c e f,w.heap[(at_:UK).block]? =I (.cells c e f)↔u.heap[at_.block]? =I (.cells c e f))->(∃why,w.viewStore P at_ t a v m= .error why/\u.viewStore P' at_ t a v m= .error why)\/∃c e f l,w.viewStore P at_ t a v m= .ok ({w with heap:=w.heap.setIfInBounds at_.block (.cells c e f)},l)/\u.viewStore P' at_ t a v m= .ok ({u with heap:=u.heap.setIfInBounds at_.block (.cells c e f)},l)/\∀x∈l,x.block<w.heap.size
def zU (n:Nat)(e:Vn):Prop:=match e.loc with
 | .obj b=>b<n
 | .cell a=>a.block<n
 | .mark m=>Conc.Neutral m\/∃f,m= .extern f
 |_=>True
def zU.mono{n m:Nat}(h:n<=m){e:Vn}(a:zU n e):zU m e:=by
 unfold zU at*
 split<;>simp_all<;>omega
def Om {α:Type}(u:F):XX α->XX α
 | .ok a _=>.ok a u
 | .halt b _=>.halt b u
structure jT{α:Type}(P P':Ug)(O:Xx->Prop)(Q:α->Prop)(s:Wv α)(w:F)(es:Array Vn):Prop where
 tape:(rW (s.runT P w es).1).tape=w.tape
 drawn:w.drawn<=(rW (s.runT P w es).1).drawn
 size:w.heap.size<=(rW (s.runT P w es).1).heap.size
 os:(rW (s.runT P w es).1).os=w.os
 output:(rW (s.runT P w es).1).output=w.output
 hp:Hp O (rW (s.runT P w es).1)
 ok:∀a w',(s.runT P w es).1= .ok a w'->Q a
 halt:∀h w',(s.runT P w es).1= .halt h w'->pp h=Z
 evs:∀e∈(s.runT P w es).2,e∈es\/zU (rW (s.runT P w es).1).heap.size e
 shift:(∃y w',(s.runT P w es).1= .halt (.stuck y) w')\/∀ τ d u,Un w u->Al w.tape w.drawn τ d ((rW (s.runT P w es).1).drawn-w.drawn)->∃u',rY w u (rW (s.runT P w es).1) u'/\s.runT P' (sh τ d u) es=(Om (sh τ (d+((rW (s.runT P w es).1).drawn-w.drawn)) u') (s.runT P w es).1,(s.runT P w es).2)
section
variable {α:Type}{P P':Ug}{O:Xx->Prop}{Q:α->Prop}{w w1:F}{es Ma:Array Vn}{s s1:Wv α}
def jT.cons(n:Nat)(h:jT P P' O Q s1 w1 Ma)(a:s.runT P w es=s1.runT P w1 Ma)(i:w1.tape=w.tape)(l:w1.drawn=w.drawn+n)(r:w.heap.size<=w1.heap.size)(o:w1.os=w.os)(v:w1.output=w.output)
 (A:∀e∈Ma,e∈es\/zU w1.heap.size e) (f:(∃y w',(s.runT P w es).1= .halt (.stuck y) w')\/∀b d u,Un w u->Al w.tape w.drawn b d n->∃u1,rY w u w1 u1/\s.runT P' (sh b d u) es=s1.runT P' (sh b (d+n) u1) Ma):jT P P' O Q s w es:=by
 have D:=h.drawn;refine⟨by rw[a,h.tape,i],by rw[a];omega,by rw[a];exact Uz r h.size,by rw[a,h.os,o],by rw[a,h.output,v],by rw[a];exact h.hp,by rw[a];exact h.ok,by rw[a];exact h.halt,?_,?_⟩
 ·rw[a];intro e m;rcases h.evs e m with c|c
  ·exact(A e c).imp id (zU.mono h.size)
  ·exact .inr c
 ·rcases f with f|f
  ·exact .inl f
  ·rw[a];rcases h.shift with c|t
   ·exact .inl c
   ·refine .inr λb d u z g=>?_;have k:(rW (s1.runT P w1 Ma).1).drawn-w.drawn=n+((rW (s1.runT P w1 Ma).1).drawn-w1.drawn):=by omega
    obtain⟨u1,j,p⟩:=f b d u z (g.sub (by omega));obtain⟨u2,x,q⟩:=t b (d+n) u1 j.un (by
     intro B C E;have:=g (n+B) C (by omega);rw[i,l,U6,U6];exact this)
    exact⟨u2,j.trans x,by rw[p,q,k,U6]⟩
def jT.ends{x:Halt}(a:s.runT P w es=(.halt x w,es))(j:pp x=Z)(i:Hp O w)(c:(∃y,x= .stuck y)\/∀b d u,Un w u->s.runT P' (sh b d u) es=(.halt x (sh b d u),es)):jT P P' O Q s w es:=by
 refine⟨by rw[a];rfl,by rw[a];exact T9 _,by rw[a];exact T9 _,by rw[a];rfl,by rw[a];rfl,by rw[a];exact i,?_,?_,?_,?_⟩
 ·rw[a];intro l k f;cases f
 ·rw[a];intro f k e;cases e;exact j
 ·rw[a];exact λe h=>.inl h
 ·rw[a];rcases c with⟨y,rfl⟩|c
  ·exact .inl ⟨y,w,rfl⟩
  ·refine .inr λb d u g _=>⟨u,g.two,?_⟩;rw[c b d u g];simp[Om,rW]
end
def Hp.push{O:Xx->Prop}{w:F}(h:Hp O w){o:Xx}(c:O o):Hp O {w with heap:=w.heap.push o}:=by
 intro b d a;simp only[VD] at a
 split at a
 ·cases a;exact .inl c
 ·exact h b d a
def Hp.set{O:Xx->Prop}{w:F}(h:Hp O w)(r:Nat){o:Xx}(c:O o):Hp O {w with heap:=w.heap.setIfInBounds r o}:=by
 intro b d a;simp only[UQ] at a
 split at a
 ·split at a
  ·cases a;exact .inl c
  ·cases a
 ·exact h b d a
def Hp.modify{O:Xx->Prop}(g:Plain O){w:F}(h:Hp O w)(r:Nat)(f:Xx->Xx)(i:∀o,f o=o\/∃c t z,f o= .cells c t z):Hp O {w with heap:=w.heap.modify r f}:=by
 intro d k a;simp only[VW] at a
 split at a
 ·obtain⟨e,j,rfl⟩:=Wr.1 a;rcases i e with b|⟨c,t,z,b⟩
  ·rw[b];exact h d e j
  ·rw[b];exact .inl (g.cells c t z)
 ·exact h d k a
def Hp.sh{O:Xx->Prop}{w:F}(h:Hp O w)(a:Tp)(d:Nat):Hp O (sh a d w):=h
def sX{O:Xx->Prop}(d:Plain O){w:F}(h:Hp O w){a:UK}(e:∀x t,w.heap[a.block]? ≠I (.view x t))(s:String):w.noCell a s= .stuck s:=by
 unfold WW
 split
 ·rename_i c t b;exact(h _ _ b).elim (λh=>absurd h (d.pending _ _)) (λh=>by cases h)
 ·rename_i c t b;exact absurd b (e _ _)
 ·rfl
def mN{n:Nat}{es:Array Vn}{e:Vn}(b:zU n e):∀x∈es.push e,x∈es\/zU n x:=λx c=>by
 rcases Array.mem_push.1 c with a|rfl
 ·exact .inl a
 ·exact .inr b
def H8{w:F}{a:UK}{v:U}(h:w.cell? a=I v):a.block<w.heap.size:=by
 unfold Ut at h;cases b:w.heap[a.block]? with
 |none=>rw[b] at h;cases h
 |some c=>exact(Uc.1 b).1
def Un.setCell{w u:F}(h:Un w u)(a:UK)(v:U):rY w u (w.setCell a v) (u.setCell a v):=by
 unfold Yb;refine h.modify _ _ (λd e f=>⟨_,_,_,rfl⟩) λc b=>?_;cases c<;>first|rfl|exact absurd rfl (b _ _ _)
def Un.freeze{w u:F}(h:Un w u)(a:UK)(n:Nat):rY w u (w.freeze a n) (u.freeze a n):=by
 unfold VR
 split
 ·exact h.two
 ·refine h.modify _ _ (λd e f=>⟨_,_,_,rfl⟩) λc b=>?_;cases c<;>first|rfl|exact absurd rfl (b _ _ _)
def zP(w:F)(a:UK):(∃x t,w.heap[a.block]? =I (.view x t))\/∀x t,w.heap[a.block]? ≠I (.view x t):=by
 by_cases b:∃x t,w.heap[a.block]? =I (.view x t)
 ·exact .inl b
 ·exact .inr λx t c=>b ⟨x,t,c⟩
def sQ{w:F}{a x:UK}{t:Ui}(h:w.heap[a.block]? =I (.view x t))(R:Ug)(m:Bool):w.farLoad R a m=match w.viewLoad R x t a m with| .ok r=>.ok r| .error b=>.error (.unsupported (.unsafePointer b)):=by
 unfold Ya;rw[h];rfl
def kP{w:F}{a x:UK}{t:Ui}(h:w.heap[a.block]? =I (.view x t))(R:Ug)(v:U)(m:Bool):w.farStore R a v m=match w.viewStore R x t a v m with| .ok r=>.ok r| .error b=>.error (.unsupported (.unsafePointer b)):=by
 unfold XC;rw[h];rfl
def B0 {w:F} {a:UK} (h:∀x t,w.heap[a.block]? ≠I (.view x t)) (R:Ug) (m:Bool):w.farLoad R a m= .error (w.noCell a "load: no such cell"):=by
 unfold Ya
 split
 ·rename_i b;exact absurd b (h _ _)
 ·rfl
def Ae {w:F} {a:UK} (h:∀x t,w.heap[a.block]? ≠I (.view x t)) (R:Ug) (v:U) (m:Bool):w.farStore R a v m= .error (w.noCell a "store: no such cell"):=by
 unfold XC
 split
 ·rename_i b;exact absurd b (h _ _)
 ·rfl
def Hz{n:Nat}{es a:Array Vn}(b:∀e∈a,zU n e):∀x∈es++a,x∈es\/zU n x:=λx c=>(Array.mem_append.1 c).imp id (b x)
def Nr{α:Type}{P P':Ug}{O:Xx->Prop}(R:Plain O)(am:Views P P'){Q:α->Prop}(s:Wv α):∀(w:F) (es:Array Vn),Still P P' O Q s->Hp O w->jT P P' O Q s w es:=by
 induction s with
 |pure c=>
  intro w es i g;refine⟨rfl,T9 _,T9 _,rfl,rfl,g,λa1 j n=>?_,λn j h=>by simp[U5] at h,λh ar=>.inl ar,.inr λe d a b _=>⟨a,b.two,?_⟩⟩
  ·simp only[U5] at n;cases n;exact i
  ·simp[U5,Om,rW]
 |load m c p u=>
  intro w es i g;cases q:w.cell? c with
  |some v=>
   have W:=H8 q;exact(u v w (es.push ⟨.cell c,T8,m == .atomic⟩) (i v) g).cons 0 (by simp only[U5,q]) Y Y (T9 _) Y Y (mN (by simpa [zU] using W)) (.inr λe d a b _=>⟨a,b.two,by
    have z:(sh e d a).cell? c=I v:=(b.cell c).trans q;simp only[U5,z];rfl⟩)
  |none=>
   rcases zP w c with⟨l,o,B⟩|B
   ·cases L:w.viewLoad P l o c (m == .atomic) with
    |ok ba=>
     obtain⟨v,S⟩:=ba;have t:∀(N:Ug) (j:F),j.cell? c=K->j.heap[c.block]? =I (.view l o)->j.viewLoad N l o c (m == .atomic)= .ok (v,S)->(Sem.load m c p).runT N j es=(p v).runT N j (es++S.toArray.map (⟨.cell ·,T8,m == .atomic⟩)):=by
      intro N j ab ad ap;simp only[U5,ab,sQ ad,ap]
     refine(u v w _ (i v) g).cons 0 (t P w q B L) Y Y (T9 _) Y Y (Hz λh ar=>?_) (.inr λe d a b _=>⟨a,b.two,t P' (sh e d a) ((b.cell c).trans q) (b.o B (by simp[pz])) ?_⟩)
     ·obtain⟨D,V,rfl⟩:=Array.mem_map.1 ar;exact am.touch w l o c _ v S L D (by simpa using V)
     ·rw[<-L];exact am.load w (sh e d a) l o c _ λr h f=>b.row
    |error an=>
     have t:∀(N:Ug) (j:F),j.cell? c=K->j.heap[c.block]? =I (.view l o)->j.viewLoad N l o c (m == .atomic)= .error an->(Sem.load m c p).runT N j es=(.halt (.unsupported (.unsafePointer an)) j,es):=by
      intro N j ab ad ap;simp only[U5,ab,sQ ad,ap]
     exact jT.ends (t P w q B L) Y g (.inr λe d a b=>t P' (sh e d a) ((b.cell c).trans q) (b.o B (by simp[pz])) (by rw[<-L];exact am.load w (sh e d a) l o c _ λr h f=>b.row))
   ·exact jT.ends (x:=.stuck "load: no such cell") (by simp only[U5,q,B0 B,sX R g B]) Y g (.inl ⟨_,rfl⟩)
 |store m c v p u=>
  intro w es i g;have a9:(∀l,v≠.agg l)->(∀l,v≠.tuple l)->jT P P' O Q (.store m c v p) w es:=by
   intro ab ad;have t:∀(P:Ug) (j:F),(Sem.store m c v p).runT P j es=(match j.cell? c with
    |some _=>if j.frozen? c then(.halt (.unsupported (.unsafePointer "a write to bytes that a string shares")) j,es) else p.runT P (j.setCell c v) (es.push ⟨.cell c,Z,m == .atomic⟩)
    |none=>match j.farStore P c v (m == .atomic) with
     | .ok (bc,bb)=>p.runT P bc (es++bb.toArray.map (⟨.cell ·,Z,m == .atomic⟩))
     | .error n=>(.halt n j,es)):=by
    intro P j;cases v<;>first|exact absurd rfl (ab _)|exact absurd rfl (ad _)|rfl
   cases q:w.cell? c with
   |some l=>
    by_cases J:w.frozen? c=Z
    ·refine jT.ends (x:=.unsupported (.unsafePointer "a write to bytes that a string shares")) (by rw[t,q];simp only[J,if_true]) Y g (.inr λe d a b=>?_);have z:(sh e d a).cell? c=I l:=(b.cell c).trans q;have av:(sh e d a).frozen? c=Z:=(b.frozen c).trans J;rw[t,z];simp only[av,if_true]
    ·have ae:Hp O (w.setCell c v):=by
      unfold Yb;refine g.modify R _ _ λk=>?_;cases k<;>first|exact .inl rfl|exact .inr ⟨_,_,_,rfl⟩
     refine(u (w.setCell c v) (es.push ⟨.cell c,Z,m == .atomic⟩) i ae).cons 0 (by rw[t,q];simp only[J,if_false];rfl) rfl rfl (by simp[Yb]) rfl rfl (mN (by simpa [zU,Yb] using H8 q)) (.inr λe d a b _=>⟨a.setCell c v,b.setCell c v,?_⟩);have z:(sh e d a).cell? c=I l:=(b.cell c).trans q;have av:¬(sh e d a).frozen? c=Z:=λh=>J ((b.frozen c).symm.trans h);rw[t,z];simp only[av,if_false];rfl
   |none=>
    rcases zP w c with⟨l,o,B⟩|B
    ·have T:=λa (b:Un w a)=>am.store w a l o c v (m == .atomic) λr h f=>b.row;rcases T w (Un.refl w) with⟨an,C,-⟩|⟨r,h,f,S,C,-,L⟩
     ·refine jT.ends (x:=.unsupported (.unsafePointer an)) (by rw[t,q];simp only[kP B,C]) Y g (.inr λe d a b=>?_);have z:(sh e d a).cell? c=K:=(b.cell c).trans q;have aw:(sh e d a).heap[c.block]? =I (.view l o):=b.o B (by simp[pz]);rcases T (sh e d a) ⟨b.size,b.at_,b.os,b.output⟩ with⟨bd,E,al⟩|⟨r,h,f,S,E,-⟩
      ·rw[C] at E;cases E;rw[t,z];simp only[kP aw,al]
      ·rw[C] at E;cases E
     ·have ae:Hp O {w with heap:=w.heap.setIfInBounds l.block (.cells r h f)}:=g.set _ (R.cells _ _ _);refine(u {w with heap:=w.heap.setIfInBounds l.block (.cells r h f)} (es++S.toArray.map (⟨.cell ·,Z,m == .atomic⟩)) i ae).cons 0 (by rw[t,q];simp only[kP B,C]) Y Y (by simp) Y Y (Hz λD V=>?_) (.inr λe d a b _=>?_)
      ·obtain⟨y,a8,rfl⟩:=Array.mem_map.1 V;have:=L y (by simpa using a8);simpa [zU] using this
      ·have z:(sh e d a).cell? c=K:=(b.cell c).trans q;have aw:(sh e d a).heap[c.block]? =I (.view l o):=b.o B (by simp[pz]);rcases T (sh e d a) ⟨b.size,b.at_,b.os,b.output⟩ with⟨bd,E,al⟩|⟨a2,a3,a4,be,E,al,-⟩
       ·rw[C] at E;cases E
       ·rw[C] at E;have az:=Except.ok.inj E;simp only[Prod.mk.injEq] at az;obtain⟨a5,rfl⟩:=az;refine⟨{a with heap:=a.heap.setIfInBounds l.block (.cells a2 a3 a4)},?_,?_⟩
        ·rw[a5];exact b.set l.block (by simp[pz])
        ·rw[t,z];simp only[kP aw,al];rfl
    ·exact jT.ends (x:=.stuck "store: no such cell") (by rw[t,q];simp only[Ae B,sX R g B]) Y g (.inl ⟨_,rfl⟩)
  cases v with
  |agg l=>exact jT.ends (x:=.stuck "store: not the value of one cell") Y Y g (.inl ⟨_,rfl⟩)
  |tuple l=>exact jT.ends (x:=.stuck "store: not the value of one cell") Y Y g (.inl ⟨_,rfl⟩)
  |_=>exact a9 (λl n=>by cases n) (λl n=>by cases n)
 |new k p u=>
  intro w es i g;have X:k≠pz:=λh=>R.Rj (h▸i.1);exact(u w.heap.size {w with heap:=w.heap.push k} es (i.2 _) (g.push i.1)).cons 0 Y Y Y (by simp) Y Y (λh n=>.inl n) (.inr λe d a b _=>⟨{a with heap:=a.heap.push k},b.push X,by
   show(p a.heap.size).runT P' _ es=_;rw[b.size];rfl⟩)
 |shape x p u=>intro w es i g;exact(u (w.shape? x) w es (i _) g).cons 0 Y Y Y (T9 _) Y Y (λh n=>.inl n) (.inr λe d a b _=>⟨a,b.two,by
  show(p (a.shape? x)).runT P' (sh e d a) es=_;rw[b.shape];rfl⟩)
 |freeze c G p u=>
  intro w es i g;have ae:Hp O (w.freeze c G):=by
   unfold VR
   split
   ·exact g
   ·refine g.modify R _ _ λk=>?_;cases k<;>first|exact .inl rfl|exact .inr ⟨_,_,_,rfl⟩
  have C:(w.freeze c G).tape=w.tape/\(w.freeze c G).drawn=w.drawn/\(w.freeze c G).heap.size=w.heap.size/\(w.freeze c G).os=w.os/\(w.freeze c G).output=w.output:=by
   unfold VR;split<;>simp
  exact(u (w.freeze c G) es i ae).cons 0 Y C.1 C.2.1 (by rw[C.2.2.1];exact T9 _) C.2.2.2.1 C.2.2.2.2 (λh n=>.inl n) (.inr λe d a b _=>⟨a.freeze c G,b.freeze c G,by
   have:(sh e d a).freeze c G=sh e d (a.freeze c G):=by unfold VR;split<;>rfl
   simp only[U5,this];rfl⟩)
 |frozen c p u=>intro w es i g;exact(u (w.frozen? c) w es (i _) g).cons 0 Y Y Y (T9 _) Y Y (λh n=>.inl n) (.inr λe d a b _=>⟨a,b.two,by
  show(p (a.frozen? c)).runT P' (sh e d a) es=_;rw[b.frozen];rfl⟩)
 |getObj x p u=>
  intro w es i g;cases A:w.heap[x]? with
  |none=>exact jT.ends (x:=.stuck "getObj: no such block") (by simp only[U5,A]) Y g (.inl ⟨_,rfl⟩)
  |some k=>
   have W:x<w.heap.size:=(Uc.1 A).1;by_cases q:∃r o y,k= .cells r o y
   ·obtain⟨r,o,y,rfl⟩:=q;exact jT.ends (x:=.stuck "getObj: a row of cells") (by simp only[U5,A]) Y g (.inl ⟨_,rfl⟩)
   ·have t:∀(P:Ug) (j:F) (k:Xx),(∀r o y,k≠.cells r o y)->j.heap[x]? =I k->(Sem.getObj x p).runT P j es=(p k).runT P j (es.push ⟨.obj x,T8,k.isChan⟩):=by
     intro P j k q ao;cases k<;>first|exact absurd rfl (q _ _ _)|simp only[U5,ao]
    have z:∀r o y,k≠.cells r o y:=λr o y h=>q ⟨r,o,y,h⟩;have T:Still P P' O Q (p k)\/∃D,p k= .halt (.stuck D):=by
     rcases g x k A with n|rfl
     ·exact .inl (i.1 k n)
     ·rcases i.2 with⟨D,n⟩|⟨n,-⟩
      ·exact .inr ⟨D,n⟩
      ·obtain⟨S,L⟩:=R.loop;exact .inl (by rw[<-n S];exact i.1 _ L)
    rcases T with T|⟨D,V⟩
    ·refine(u k w _ T g).cons 0 (t P w k z A) Y Y (T9 _) Y Y (mN (by simpa [zU] using W)) ?_;by_cases X:k=pz
     ·subst X;by_cases a0:∃D,p pz= .halt (.stuck D)
      ·obtain⟨D,V⟩:=a0;exact .inl ⟨D,w,by rw[t P w pz z A,V];rfl⟩
      ·refine .inr λe d a b _=>⟨a,b.two,?_⟩;rcases b.at_ x pz A with h|⟨_,l,h,U⟩
       ·exact t P' (sh e d a) pz z h
       ·rw[t P' (sh e d a) l (λr o y h=>by rw[h] at U;simp[jk] at U) h,(i.2.Ta U).resolve_left a0];cases l<;>first|rfl|(simp[jk] at U;done)
     ·exact .inr λe d a b _=>⟨a,b.two,t P' (sh e d a) k z (b.o A X)⟩
    ·have H:(Sem.getObj x p).runT P w es=(.halt (.stuck D) w,es.push ⟨.obj x,T8,k.isChan⟩):=by rw[t P w k z A,V];rfl
     refine⟨by rw[H];rfl,by rw[H];exact T9 _,by rw[H];exact T9 _,by rw[H];rfl,by rw[H];rfl,by rw[H];exact g,?_,?_,?_,.inl ⟨D,w,by rw[H]⟩⟩
     ·rw[H];intro c j n;cases n
     ·rw[H];intro n j h;cases h;rfl
     ·rw[H];exact mN (n:=w.heap.size) (by simpa [zU] using W)
 |setObj x k p u=>
  intro w es i g;cases A:w.heap[x]? with
  |none=>exact jT.ends (x:=.stuck "setObj: no such block") (by simp only[U5,A]) Y g (.inl ⟨_,rfl⟩)
  |some M=>
   have W:x<w.heap.size:=(Uc.1 A).1;by_cases q:∃r o y,M= .cells r o y
   ·obtain⟨r,o,y,rfl⟩:=q;exact jT.ends (x:=.stuck "setObj: a row of cells") (by simp only[U5,A]) Y g (.inl ⟨_,rfl⟩)
   ·have t:∀(P:Ug) (j:F) (M:Xx),(∀r o y,M≠.cells r o y)->j.heap[x]? =I M->(Sem.setObj x k p).runT P j es=p.runT P {j with heap:=j.heap.setIfInBounds x k} (es.push ⟨.obj x,Z,k.isChan⟩):=by
     intro P j M q ao;cases M<;>first|exact absurd rfl (q _ _ _)|simp only[U5,ao]
    have X:k≠pz:=λh=>R.Rj (h▸i.1);refine(u {w with heap:=w.heap.setIfInBounds x k} _ i.2 (g.set x i.1)).cons 0 (t P w M (λr o y h=>q ⟨r,o,y,h⟩) A) Y Y (by simp) Y Y (mN (by simpa [zU] using W)) (.inr λe d a b _=>⟨{a with heap:=a.heap.setIfInBounds x k},b.set x X,?_⟩);rcases b.at_ x M A with h|⟨_,l,h,U⟩
    ·exact t P' (sh e d a) M (λr o y h=>q ⟨r,o,y,h⟩) h
    ·exact t P' (sh e d a) l (λr o y h=>by rw[h] at U;simp[jk] at U) h
 |choose aa p u=>
  intro w es i g;by_cases J:aa.forced=Z
  ·exact(u 0 w es (i _) g).cons 0 (by simp only[U5,J,if_true]) Y Y (T9 _) Y Y (λh n=>.inl n) (.inr λe d a b _=>⟨a,b.two,by simp only[U5,J,if_true];rfl⟩)
  ·refine(u (aa.cut (w.tape w.drawn aa)) {w with drawn:=w.drawn+1} es (i _) g).cons 1 (by simp only[U5,J,if_false];rfl) rfl rfl (T9 _) rfl rfl (λh n=>.inl n) (.inr λe d a b a6=>⟨a,⟨⟨b.size,b.at_,b.os,b.output⟩,λa1 a7=>⟨a7,rfl⟩⟩,?_⟩);have:=a6 0 aa (by omega);simp only[Nat.add_zero] at this;simp only[U5,J,if_false];have h:(sh e d a).tape (sh e d a).drawn aa=w.tape w.drawn aa:=this;rw[h];rfl
 |sys r p u=>
  intro w es i g;obtain⟨rfl,i⟩:=i;exact(u (.strings w.os.env) w (es.push ⟨.output,Z,T8⟩) (i _) g).cons 0 Y Y Y (T9 _) Y Y (mN (by simp[zU])) (.inr λe d a b _=>⟨a,b.two,by
   show(p (.strings a.os.env)).runT P' (sh e d a) _=_;rw[b.os];rfl⟩)
 |program p u=>
  intro w es i g;exact(u P w es i.2 g).cons 0 Y Y Y (T9 _) Y Y (λh n=>.inl n) (.inr λe d a b _=>⟨a,b.two,by
   show(p P').runT P' (sh e d a) es=_;rw[<-i.1];rfl⟩)
 |mark m p u=>intro w es i g;exact(u w _ i.2 g).cons 0 Y Y Y (T9 _) Y Y (mN i.1) (.inr λe d a b _=>⟨a,b.two,rfl⟩)
 |halt l=>intro w es i g;exact jT.ends (x:=l) Y i g (.inr λe d a b=>rfl)
structure Twin(P P':Ug):Prop where
 info:∀t,P'.info? t=P.info? t
 tK:∀t,P'.underlying t=P.underlying t
 rt:P'.rt=P.rt
 cells:∀t,P'.cellsOf t=P.cellsOf t
 bytes:∀t,P'.bytesOf t=P.bytesOf t
 depth:P'.depth=P.depth
 jm:∀d e c o u n,liesAt P' d e c o u n=liesAt P d e c o u n
 cellAt:∀d e c o b,cellAtBytes P' d e c o b=cellAtBytes P d e c o b
 BM:∀d t o,byteOfCell P' d t o=byteOfCell P d t o
 SR:∀d t,P'.eqGuardType d t=P.eqGuardType d t
 II:∀t,P'.stoodInHeld t=P.stoodInHeld t
 M3:∀d t,P'.holdsPacked d t=P.holdsPacked d t
 yq:P'.globals=P.globals
 godebug:P'.godebug=P.godebug
 TQ:P'.types=P.types
 Ra:∀f:Nat,P'.funcs[f]? =P.funcs[f]? \/∃fn fn':WD,P.funcs[f]? =I fn/\P'.funcs[f]? =I fn'/\fn'.name=fn.name/\fn.body.isNone=T8/\fn'.body.isNone=T8
section
variable {P P':Ug}{O:Xx->Prop}{α β:Type}
abbrev St(P P':Ug)(O:Xx->Prop)(s:Wv α):Prop:=Still P P' O (λ_=>True) s
def iP{Q:α->Prop}{R:β->Prop}{s:Wv α}{f:α->Wv β}(c:Still P P' O Q s)(b:∀a,Q a->Still P P' O R (f a)):Still P P' O R (s >>= f):=Still.bind P P' O b c
def ag{R:β->Prop}{s:Wv α}{f:α->Wv β}(c:St P P' O s)(b:∀a,Still P P' O R (f a)):Still P P' O R (s >>= f):=Still.bind P P' O (λa _=>b a) c
def bW{Q:α->Prop}{c:Prop} [Decidable c]{s t:Wv α}(a:Still P P' O Q s)(b:Still P P' O Q t):Still P P' O Q (if c then s else t):=by split<;>assumption
def TB{Q:α->Prop}{s:Wv α}(a:Still P P' O Q s):St P P' O s:=a.mono P P' O (λ_ _=>trivial)
def cD{Q:α->Prop}{f:Ug->Wv α}(h:f P=f P')(a:Still P P' O Q (f P)):Still P P' O Q (program >>= f):=⟨h,a⟩
def aA{Q:α->Prop}(s:String):Still P P' O Q (stuck s):=rfl
def aY{Q:α->Prop}(u:Unsupported)(h:pp (.unsupported u)=Z):Still P P' O Q (unsupported u):=h
def oR{Q:α->Prop}(v:U):Still P P' O Q (goPanic v):=rfl
def tF(a:UK)(m:Mode):St P P' O (load a m):=λ_=>trivial
def NO(a:UK)(v:U)(m:Mode):St P P' O (store a v m):=trivial
def gP(r:Nat):St P P' O (shape r):=λ_=>trivial
def uW(a:UK):St P P' O (frozen a):=λ_=>trivial
def Bn(a:UK)(n:Nat):St P P' O (freeze a n):=trivial
def cX(q:Question):St P P' O (choose q):=λ_=>trivial
def jF{R:β->Prop}(r:Nat){f:Xx->Wv β}(a:∀o,O o->Still P P' O R (f o))(b:Gx f):Still P P' O R (getObj r >>= f):=⟨a,b⟩
def pV{f:Xx->Wv β}{s:String}(h:f pz= .halt (.stuck s)):Gx f:=.inl ⟨s,h⟩
def Ii{f:Xx->Wv β}(h1:∀r,f (.loop r)=f pz)(a:∀d,f (.deferred d)=f pz)(b:∀c t,f (.pending c t)=f pz)(e:∀x,f (.coro x)=f pz):Gx f:=.inr ⟨h1,a,b,e⟩
def mb(r:Nat){o:Xx}(h:O o):St P P' O (setObj r o):=⟨h,trivial⟩
def l9{o:Xx}(h:O o):St P P' O (newObj o):=⟨h,λ_=>trivial⟩
def Bq:St P P' O (mark .noRoom):=⟨.inl Y,trivial⟩
def zv(n:Nat):St P P' O (askRoom n):=by unfold askRoom;split;exact Bq;exact trivial
def oO(v:U):St P P' O (asIntOf v):=by unfold asIntOf;split<;>first|exact trivial|exact aA _|exact rfl
def lg(v:U):St P P' O (asInt v):=ag (oO v) (λ_=>trivial)
def uS(v:U):St P P' O (asBool v):=by unfold asBool;split<;>first|exact trivial|exact aA _
def qp(v:U):St P P' O (asString v):=by unfold asString;split<;>first|exact trivial|exact aA _
def zu(v:U):St P P' O (asAgg v):=by unfold asAgg;split<;>first|exact trivial|exact aA _
def bM(a:Twin P P')(t:Ui):St P P' O (XE t):=by
 unfold XE;refine cD (by rw[a.info]) ?_
 split
 ·exact trivial
 ·exact aA _
def aI(a:Twin P P')(t:Ui):St P P' O (Xs t):=by
 unfold Xs;refine cD (by rw[a.tK]) ?_
 split
 ·exact trivial
 ·exact aA _
def fK(a:Twin P P')(t:Ui):St P P' O (Wo t):=by
 unfold Wo;refine ag (bM a t) λb=>?_
 split
 ·exact trivial
 ·exact aY _ Y
def bV(a:Twin P P')(t:Ui):St P P' O (sizeOf t):=ag (bM a t) (λ_=>trivial)
def EU(a:Twin P P')(t:Ui):St P P' O (isAgg t):=by
 unfold isAgg;refine ag (aI a t) λb=>?_
 split<;>exact trivial
def sA(a:Twin P P')(t:Ui):St P P' O (typeStr t):=by
 unfold typeStr;refine ag (bM a t) λb=>?_;dsimp only
 split
 ·exact aY _ Y
 ·exact trivial
def uU(a:Twin P P')(t:Ui):St P P' O (elemOf t):=by
 unfold elemOf;refine ag (aI a t) λb=>?_
 split
 ·exact trivial
 ·exact aA _
theorem om(a:UK):∀(n i:Nat) (b:Array U),St P P' O (loadCellsFrom a i n b)
 |0,i,b=>trivial
 |n+1,i,b=>ag (tF _ _) (λv=>om a n (i+1) (b.push v))
def oS(a:UK)(n:Nat):St P P' O (loadCells a n):=om a n 0 #[]
theorem js(a:UK):∀(vs:List U) (i:Nat),St P P' O (storeCells a vs i)
 | [],i=>trivial
 |v::b,i=>ag (NO _ _ _) (λ_=>js a b (i+1))
def jO(a:Plain O)(e:Ui)(c:Array U):St P P' O (newRow e c):=ag (l9 (a.cells c e (0,0))) (λ_=>trivial)
def Bp(a:Plain O)(e:Ui)(v:U):St P P' O (newVar e v):=jO a e v.cells
def gX(a:Twin P P')(t:Ui)(cs:Array U)(off:Nat):St P P' O (part t cs off):=by
 unfold part;refine ag (EU a t) λb=>?_
 split
 ·exact ag (bV a t) λ_=>trivial
 ·split
  ·exact trivial
  ·exact aA _
def oT(b:Twin P P')(t:Ui)(a:UK):St P P' O (loadVar t a):=by
 unfold loadVar;refine ag (EU b t) λc=>?_
 split
 ·exact ag (bV b t) λ_=>ag (oS _ _) λ_=>trivial
 ·exact tF _ _
def we(b:Twin P P')(t:Ui)(a:UK)(v:U):St P P' O (storeVar t a v):=by
 unfold storeVar;refine ag (bV b t) λc=>?_;dsimp only
 split
 ·exact ag (aA _) λ_=>js _ _ _
 ·exact js _ _ _
def bP(a:Twin P P')(b:Plain O){Q:α->Prop}(e:RuntimeError):Still P P' O Q (runtimePanic e):=by
 unfold runtimePanic;refine cD ?_ ?_
 ·dsimp only;rw[a.rt];cases e<;>first|rfl|(simp only[typeHandle,a.yq])
 ·dsimp only;cases e with
  |typeAssertion f d c m=>exact ag (uU a _) λ_=>ag (Bp b _ _) λ_=>oR _
  |panicNil=>exact ag (uU a _) λ_=>ag (Bp b _ _) λ_=>oR _
  |_=>exact oR _
def oh(b:Twin P P')(a:Plain O)(v:U):St P P' O (asAddr v):=by
 unfold asAddr
 split
 ·exact trivial
 ·exact bP b a _
 ·exact aA _
def mS(b:Twin P P')(a:Plain O){Q:α->Prop}(k:Wy)(x y:Int)(c:BoundsCode):Still P P' O Q (boundsPanic k x y c):=by
 unfold boundsPanic;dsimp only
 split
 ·exact ag (ag (cX _) λ_=>trivial) λ_=>bP b a _
 ·exact ag trivial λ_=>bP b a _
def Bs(b:Twin P P')(a:Plain O)(r:Nat):St P P' O (viewAt r):=by unfold viewAt;((try dsimp only);repeat' first|exact gP _|(refine jF _ (λ_ _=>?_) ?_)|exact Ii (λ_=>rfl) (λ_=>rfl) (λ_ _=>rfl) (λ_=>rfl)|assumption|(refine ag ?_ (λ_=>?_))|(refine bW ?_ ?_)|intro _|split|(dsimp only)|exact trivial)
def v8(b:Twin P P')(a:Plain O)(r:Nat):St P P' O (numberAt r):=by unfold numberAt;((try dsimp only);repeat' first|exact gP _|(refine jF _ (λ_ _=>?_) ?_)|exact Ii (λ_=>rfl) (λ_=>rfl) (λ_ _=>rfl) (λ_=>rfl)|assumption|(refine ag ?_ (λ_=>?_))|(refine bW ?_ ?_)|intro _|split|(dsimp only)|exact trivial)
def eg(b:Twin P P')(a:Plain O)(n:UK):St P P' O (WB n):=by unfold WB;((try dsimp only);repeat' first|exact v8 b a _|assumption|(refine ag ?_ (λ_=>?_))|intro _|split|(dsimp only)|exact trivial)
def Br(c:Twin P P')(b:Plain O)(a:UK):St P P' O (noView a):=by unfold noView;((try dsimp only);repeat' first|(refine aY _ ?_;rfl)|exact Bs c b _|assumption|(refine ag ?_ (λ_=>?_))|(refine bW ?_ ?_)|intro _|split|(dsimp only)|exact trivial)
def oo(c:Twin P P')(b:Plain O)(a:UK):St P P' O (markStringish a):=by unfold markStringish;((try dsimp only);repeat' first|exact gP _|exact Bn _ _|assumption|(refine ag ?_ (λ_=>?_))|intro _|split|(dsimp only)|exact trivial)
def CQ(c:Twin P P')(b:Plain O)(a:UK):St P P' O (stringish a):=by unfold stringish;((try dsimp only);repeat' first|exact gP _|exact uW _|assumption|(refine ag ?_ (λ_=>?_))|(refine bW ?_ ?_)|intro _|split|(dsimp only)|exact trivial)
def EW(d:Twin P P')(c:Plain O)(a b:UK):St P P' O (mayBeOne a b):=by unfold mayBeOne;((try dsimp only);repeat' first|exact gP _|exact CQ d c _|assumption|(refine ag ?_ (λ_=>?_))|intro _|split|(dsimp only)|exact trivial)
def v9(d:Twin P P')(c:Plain O)(a b:UK):St P P' O (sameAddr a b):=by unfold sameAddr;((try dsimp only);repeat' first|exact uW _|exact cX _|(refine aY _ ?_;rfl)|exact EW d c _ _|exact Br d c _|assumption|(refine ag ?_ (λ_=>?_))|(refine bW ?_ ?_)|intro _|split|(dsimp only)|exact trivial)
def zF(d:Twin P P')(c:Plain O)(a b:Option UK):St P P' O (samePointer a b):=by unfold samePointer;((try dsimp only);repeat' first|exact v9 d c _ _|assumption|intro _|split|(dsimp only)|exact trivial)
def qW(b:Twin P P')(c:Plain O)(a:UK):St P P' O (byteOf a):=by
 unfold byteOf;dsimp only
 split
 ·exact trivial
 ·refine cD (by simp only[b.cells,b.bytes,b.BM,b.depth]) ?_
  ((try dsimp only);repeat' first|exact aA _|exact gP _|exact Br b c _|assumption|(refine ag ?_ (λ_=>?_))|(refine bW ?_ ?_)|intro _|split|(dsimp only)|exact trivial)
def KJ(e:Twin P P')(d:Plain O)(a:UK)(c b:Nat):St P P' O (partAt a c b):=by unfold partAt;((try dsimp only);repeat' first|exact qW e d _|assumption|(refine ag ?_ (λ_=>?_))|intro _|split|(dsimp only)|exact trivial)
def rO(b:Twin P P')(c:Plain O)(a:UK)(f:Field):St P P' O (fieldPlace a f):=by unfold fieldPlace;((try dsimp only);repeat' first|exact bV b _|exact KJ b c _ _ _|assumption|(refine ag ?_ (λ_=>?_))|(refine bW ?_ ?_)|intro _|split|(dsimp only)|exact trivial)
def zH(b:Twin P P')(c:Plain O)(a:UK)(u:Ui)(n:Nat):St P P' O (variablesAt a u n):=by
 unfold variablesAt;refine cD (by simp only[b.cells,b.jm,b.depth]) ?_
 ((try dsimp only);repeat' first|exact gP _|assumption|(refine ag ?_ (λ_=>?_))|intro _|split|(dsimp only)|exact trivial)
def CM(e:Twin P P')(d:Plain O)(a:UK)(b:ByteArray)(n:Nat):St P P' O (loadBytes a b n):=by
 induction n generalizing a b with
 |zero=>exact trivial
 |succ n c=>unfold loadBytes;((try dsimp only);repeat' first|exact aA _|exact tF _ _|exact c _ _|assumption|(refine ag ?_ (λ_=>?_))|intro _|split|(dsimp only)|exact trivial)
theorem CL{γ:Type}{f:α->γ->Wv (ForInStep γ)}:∀(l:List α) (b:γ),(∀x b,St P P' O (f x b))->St P P' O (forIn l b f)
 | [],b,a=>by simp only[List.forIn_nil];exact trivial
 |x::l,b,a=>by
  simp only[List.forIn_cons];refine ag (a x b) λs=>?_;cases s with
  |done b=>exact trivial
  |yield b=>exact CL l b a
def oQ{γ:Type}{f:α->γ->Wv (ForInStep γ)}(l:Array α)(b:γ)(h:∀x b,St P P' O (f x b)):St P P' O (forIn l b f):=by
 rw[<-Array.forIn_toList];exact CL _ _ h
def qY{γ:Type}{f:Nat->γ->Wv (ForInStep γ)}(n:Nat)(b:γ)(h:∀x b,St P P' O (f x b)):St P P' O (forIn [0:n] b f):=by
 rw[Vy];exact CL _ _ h
theorem IF(g:α->Wv β):∀(l:List α),(∀x,St P P' O (g x))->St P P' O (l.mapM g)
 | [],a=>by rw[List.mapM_nil];exact trivial
 |x::l,a=>by
  rw[List.mapM_cons];exact ag (a x) λ_=>ag (IF g l a) λ_=>trivial
def IE(g:α->Wv β)(l:Array α)(h:∀x,St P P' O (g x)):St P P' O (l.mapM g):=by
 rw[Array.mapM_eq_mapM_toList];exact ag (IF g _ h) λ_=>trivial
theorem ER{γ:Type}(g:γ->α->Wv γ):∀(l:List α) (b:γ),(∀b x,St P P' O (g b x))->St P P' O (l.foldlM g b)
 | [],b,a=>trivial
 |x::l,b,a=>by
  rw[List.foldlM_cons];exact ag (a b x) λ_=>ER g l _ a
def lu(v:U):St P P' O (Xg v):=by unfold Xg;split<;>first|exact trivial|exact aA _
def NE(a:Twin P P')(b:Plain O)(e:Ui)(h:Bool)(v:U):St P P' O (Instr.alloc e h v):=by unfold Instr.alloc;((try dsimp only);repeat' first|exact fK a _|exact we a _ _ _|exact jO b _ _|assumption|(refine ag ?_ (λ_=>?_))|intro _|split|(dsimp only)|exact trivial)
def RI(b:Twin P P')(a:Plain O)(e:Ui)(v:U):St P P' O (Instr.box e v):=by unfold Instr.box;((try dsimp only);repeat' first|exact jO a _ _|assumption|(refine ag ?_ (λ_=>?_))|intro _|split|(dsimp only)|exact trivial)
def NG(a:Twin P P')(b:Plain O)(t:Ui)(ps:Array (Nat×U)):St P P' O (Instr.build t ps):=by
 unfold Instr.build;refine ag (fK a t) λe=>?_;dsimp only;refine ag (aI a t) λd=>?_
 split
 ·refine ag (IE _ _ λf=>ag (bV a _) λ_=>trivial) λc=>?_
  ((try dsimp only);repeat' first|exact aI a _|exact fK a _|exact bV a _|exact aA _|assumption|(refine ag ?_ (λ_=>?_))|intro _|split|(dsimp only)|exact trivial)
 ·((try dsimp only);repeat' first|exact aI a _|exact fK a _|exact bV a _|exact aA _|assumption|(refine ag ?_ (λ_=>?_))|intro _|split|(dsimp only)|exact trivial)
 ·exact aA _
def Au(a:Twin P P')(b:Plain O)(t:Ui)(n:Nat)(ps:Array (Nat×U)):St P P' O (XQ t n ps):=by unfold XQ;((try dsimp only);repeat' first|exact aI a _|exact fK a _|exact bV a _|exact aA _|(refine aY _ ?_;rfl)|exact jO b _ _|assumption|(refine ag ?_ (λ_=>?_))|(refine bW ?_ ?_)|intro _|split|(dsimp only)|exact trivial)
def KH(a:Twin P P')(b:Plain O)(t:Ui)(v:U):St P P' O (Instr.loadAt t v):=by unfold Instr.loadAt;((try dsimp only);repeat' first|exact oT a _ _|exact lu _|assumption|(refine ag ?_ (λ_=>?_))|intro _|split|(dsimp only)|exact trivial)
def G3(b:Twin P P')(c:Plain O)(t:Ui)(a v:U):St P P' O (Instr.storeAt t a v):=by unfold Instr.storeAt;((try dsimp only);repeat' first|exact we b _ _ _|exact lu _|assumption|(refine ag ?_ (λ_=>?_))|intro _|split|(dsimp only)|exact trivial)
def GY(b:Twin P P')(c:Plain O)(t:Ui)(a:U)(f:Nat):St P P' O (Instr.fieldAt t a f):=by unfold Instr.fieldAt;((try dsimp only);repeat' first|exact aI b _|exact aA _|exact lu _|exact rO b c _ _|assumption|(refine ag ?_ (λ_=>?_))|intro _|split|(dsimp only)|exact trivial)
def GZ(b:Twin P P')(c:Plain O)(t:Ui)(a i:U):St P P' O (Instr.indexAt t a i):=by unfold Instr.indexAt;((try dsimp only);repeat' first|exact aI b _|exact bV b _|exact aA _|(refine aY _ ?_;rfl)|exact oO _|exact mS b c _ _ _ _|exact lu _|assumption|(refine ag ?_ (λ_=>?_))|(refine bW ?_ ?_)|intro _|split|(dsimp only)|exact trivial)
def Ax(b:Twin P P')(a:Plain O)(x:U)(y:Nat)(c:BoundsCode):St P P' O (Instr.sliceBound x y c):=by unfold Instr.sliceBound;((try dsimp only);repeat' first|exact oO _|exact mS b a _ _ _ _|assumption|(refine ag ?_ (λ_=>?_))|(refine bW ?_ ?_)|intro _|split|(dsimp only)|exact trivial)
def qy(e:Twin P P')(d:Plain O)(s:Bool)(l c:Nat)(a b m:Option U):St P P' O (Instr.sliceBounds s l c a b m):=by unfold Instr.sliceBounds;((try dsimp only);repeat' first|exact aA _|exact Ax e d _ _ _|assumption|(refine ag ?_ (λ_=>?_))|intro _|split|(dsimp only)|exact trivial)
def NN(c:Twin P P')(d:Plain O)(t:Ui)(x:U)(a b m:Option U):St P P' O (Instr.slice t x a b m):=by unfold Instr.slice;((try dsimp only);repeat' first|exact aI c _|exact bV c _|exact aA _|exact oh c d _|exact qy c d _ _ _ _ _ _|assumption|(refine ag ?_ (λ_=>?_))|(refine bW ?_ ?_)|intro _|split|(dsimp only)|exact trivial)
def G2(c:Twin P P')(d:Plain O)(t:Ui)(x:U)(a b m:Option U):St P P' O (Instr.sliceAt t x a b m):=by unfold Instr.sliceAt;((try dsimp only);repeat' first|exact aI c _|exact bV c _|exact qy c d _ _ _ _ _ _|exact NN c d _ _ _ _ _|exact lu _|assumption|(refine ag ?_ (λ_=>?_))|intro _|split|(dsimp only)|exact trivial)
def uY(a:Twin P P')(b:Plain O)(t:Ui)(x:U):St P P' O (Instr.makeInterface t x):=by unfold Instr.makeInterface;((try dsimp only);repeat' first|exact aI a _|exact aA _|assumption|(refine ag ?_ (λ_=>?_))|intro _|split|(dsimp only)|exact trivial)
def CN(c:Twin P P')(d:Plain O)(t:Ui)(a b:U):St P P' O (XZ t a b):=by unfold XZ;((try dsimp only);repeat' first|exact bM c _|exact aI c _|exact fK c _|exact bV c _|exact aA _|exact bP c d _|exact cX _|exact lg _|exact jO d _ _|exact zv _|assumption|(refine ag ?_ (λ_=>?_))|(refine bW ?_ ?_)|intro _|split|(dsimp only)|exact trivial)
def G1(b:Twin P P')(d:Plain O)(a:∀e c,O (.map e c))(t:Ui)(r:Option U):St P P' O (Instr.makeMap t r):=by unfold Instr.makeMap;((try dsimp only);repeat' first|exact aI b _|exact aA _|exact lg _|exact l9 (a _ _)|assumption|(refine ag ?_ (λ_=>?_))|intro _|split|(dsimp only)|exact trivial)
def NJ(a:Twin P P')(b:Plain O)(t:Ui)(x:U)(f:Nat):St P P' O (Instr.field t x f):=by unfold Instr.field;((try dsimp only);repeat' first|exact aI a _|exact aA _|exact zu _|exact gX a _ _ _|assumption|(refine ag ?_ (λ_=>?_))|intro _|split|(dsimp only)|exact trivial)
def NK(a:Twin P P')(b:Plain O)(t:Ui)(x i:U):St P P' O (Instr.index t x i):=by unfold Instr.index;((try dsimp only);repeat' first|exact aI a _|exact bV a _|exact aA _|exact oO _|exact mS a b _ _ _ _|exact gX a _ _ _|assumption|(refine ag ?_ (λ_=>?_))|(refine bW ?_ ?_)|intro _|split|(dsimp only)|exact trivial)
def GX(v:U)(i:Nat):St P P' O (Instr.extract v i):=by
 unfold Instr.extract
 split
 ·split
  ·exact trivial
  ·exact aA _
 ·exact aA _
def EY(a:Twin P P'):St P P' O Instr.panicnil:=by
 unfold Instr.panicnil;refine ag ⟨rfl,λ_=>trivial⟩ λb=>?_
 split
 ·dsimp only;exact cD (by rw[a.godebug]) trivial
 ·exact aA _
def NL(a:Twin P P')(b:Plain O)(x:U):St P P' O (Instr.panic x):=by unfold Instr.panic;((try dsimp only);repeat' first|exact aA _|exact bP a b _|exact oR _|exact EY a|assumption|(refine ag ?_ (λ_=>?_))|(refine bW ?_ ?_)|intro _|split|(dsimp only)|exact trivial)
end
section
variable {P P':Ug}{O:Xx->Prop}{α β:Type}
def vY(a:Yy)(k:Wy)(x y:Int):St P P' O (Op.intArith a k x y):=by unfold Op.intArith;split<;>first|exact trivial|exact aA _
def KG(b:Twin P P')(a:Plain O)(c:Yy)(k:Wy)(x y:Int):St P P' O (Op.intDiv c k x y):=by unfold Op.intDiv;((try dsimp only);repeat' first|exact aA _|exact bP b a _|assumption|(refine bW ?_ ?_)|intro _|split|(dsimp only)|exact trivial)
def zA(a:Yy)(k:Wy)(x y:Int):St P P' O (Op.intBits a k x y):=by unfold Op.intBits;dsimp only;split<;>first|exact trivial|exact aA _
def KF(a:Yy)(x y:Int):St P P' O (Op.intCmp a x y):=by unfold Op.intCmp;split<;>first|exact trivial|exact aA _
def NM(b:Twin P P')(a:Plain O)(c:Yy)(k:Wy)(x:Int)(d:Wy)(y:Int):St P P' O (Op.shift c k x d y):=by unfold Op.shift;((try dsimp only);repeat' first|exact aA _|exact bP b a _|assumption|(refine bW ?_ ?_)|intro _|split|(dsimp only)|exact trivial)
def rQ(a:Yy)(k:FloatKind)(x y:Nat):St P P' O (Op.floatArith a k x y):=by
 unfold Op.floatArith;dsimp only
 split
 all_goals first|exact ag (aA _) λ_=>(by split<;>first|exact trivial|exact ag (cX _) λ_=>trivial)|exact ag trivial λ_=>(by split<;>first|exact trivial|exact ag (cX _) λ_=>trivial)
def vX(a:Yy)(k:FloatKind)(x y:Nat):St P P' O (Op.floatCmp a k x y):=by unfold Op.floatCmp;dsimp only;split<;>first|exact trivial|exact aA _
def wX(s:FloatKind)(b:Nat)(d:FloatKind):St P P' O (Conv.floatToFloat s b d):=by
 unfold Conv.floatToFloat
 (try dsimp only)
 repeat' first|exact trivial|exact aA _|exact cX _|refine ag ?_ (λ_=>?_)|intro _|split|dsimp only
def qX(a:Yy)(k:FloatKind)(x y:Nat):St P P' O (YT a k x y):=by
 unfold YT;refine ag (rQ _ _ _ _) λ_=>?_
 split<;>first|exact trivial|exact aA _
def CI(a:Yy)(k:FloatKind)(x y:Nat):St P P' O (YW a k x y):=by
 unfold YW;exact ag (vX _ _ _ _) λ_=>uS _
def lm(s:FloatKind)(b:Nat)(d:FloatKind):St P P' O (YU s b d):=by
 unfold YU
 split
 ·exact trivial
 ·refine ag (wX _ _ _) λ_=>?_
  split<;>first|exact trivial|exact aA _
def NH(a b c d:Nat):St P P' O (YQ a b c d):=by
 unfold YQ YY YX YV
 repeat' first|exact trivial|exact qX _ _ _ _|refine ag ?_ (λ_=>?_)
def NI(a b c d:Nat):St P P' O (YO a b c d):=by
 unfold YO YZ YY YX YV Y8
 repeat' first|exact qX _ _ _ _|exact CI _ _ _ _|refine ag ?_ (λ_=>?_)|split|dsimp only|exact trivial
def CJ(e:Yy)(k:FloatKind)(a b c d:Nat):St P P' O (Op.complexOp e k a b c d):=by
 unfold Op.complexOp
 split
 all_goals first
  |exact ag (qX _ _ _ _) λ_=>ag (qX _ _ _ _) λ_=>trivial
  |exact ag (CI _ _ _ _) λ_=>ag (CI _ _ _ _) λ_=>trivial
  |exact aA _
  |(refine ag (lm _ _ _) λ_=>ag (lm _ _ _) λ_=>ag (lm _ _ _) λ_=>ag (lm _ _ _) λ_=>?_;dsimp only
    split
    ·exact ag (NH _ _ _ _) λ_=>ag (lm _ _ _) λ_=>ag (lm _ _ _) λ_=>trivial
    ·exact ag (NI _ _ _ _) λ_=>ag (lm _ _ _) λ_=>ag (lm _ _ _) λ_=>trivial)
def wh(a:Yy)(x y:ByteArray):St P P' O (Op.stringOp a x y):=by
 unfold Op.stringOp
 repeat' first|exact trivial|exact aA _|exact aY _ Y|split|dsimp only
def NP(a:UnOp)(x:U):St P P' O (Op.unary a x):=by
 unfold Op.unary
 repeat' first|exact trivial|exact aA _|exact aY _ Y|exact vY _ _ _ _|exact zA _ _ _ _|split|dsimp only
def tG(c:Twin P P')(d:Plain O)(a b:UK):St P P' O (Op.twoPlaces a b):=by
 unfold Op.twoPlaces;refine cD (by rw[c.yq]) ?_
 ((try dsimp only);repeat' first|(refine aY _ ?_;rfl)|exact qW c d _|assumption|(refine ag ?_ (λ_=>?_))|(refine bW ?_ ?_)|intro _|split|(dsimp only)|exact trivial)
def GP(d:Twin P P')(c:Plain O)(k:Wy)(a b:UK):St P P' O (Op.addrSub k a b):=by unfold Op.addrSub;((try dsimp only);repeat' first|exact tG d c _ _|assumption|(refine ag ?_ (λ_=>?_))|intro _|split|(dsimp only)|exact trivial)
def GN(d:Twin P P')(c:Plain O)(k:Yy)(a b:UK):St P P' O (Op.addrCmp k a b):=by unfold Op.addrCmp;((try dsimp only);repeat' first|(refine aY _ ?_;rfl)|exact tG d c _ _|assumption|(refine ag ?_ (λ_=>?_))|intro _|split|(dsimp only)|exact trivial)
def GO(b:Twin P P')(c:Plain O)(k:Wy)(a:UK)(n:Int):St P P' O (Op.addrMod k a n):=by unfold Op.addrMod;((try dsimp only);repeat' first|exact bM b _|exact gP _|(refine aY _ ?_;rfl)|exact qW b c _|assumption|(refine ag ?_ (λ_=>?_))|(refine bW ?_ ?_)|intro _|split|(dsimp only)|exact trivial)
def tH(b:Twin P P')(k:Plain O)(o:Array Ui)(t:Ui)(d:Array U):St P P' O (Xp o t d):=by
 have f:∀s:String,St P P' O (stuck s:Wv U):=λs=>aA s;unfold Xp;obtain⟨h⟩:=d;rcases h with _|⟨a,_|⟨p,_|⟨q,h⟩⟩⟩
 case cons.cons.nil=>
  cases a with
  |pointer n=>
   dsimp only;refine ag (lg _) λl=>?_
   split
   ·((try dsimp only);repeat' first|exact aA _|exact gP _|(refine aY _ ?_;rfl)|exact lg _|exact Bs b k _|assumption|(refine ag ?_ (λ_=>?_))|(refine bW ?_ ?_)|intro _|split|(dsimp only)|exact trivial)
   ·have g:St P P' O (match n with
     |some a=>do
      let i <-shape a.block
      match i with
       |some (e,j)=>do
        let c <-program
        match cellAtBytes c c.depth e (j/c.cellsOf e) a.off l with
         |some m=>pure (Value.pointer (I {block:=a.block,off:=m,spot:=a.spot}))
         |none=>unsupported (YA "Add")
       |x=>unsupported (YA "Add")
     |x=>unsupported (YA "Add"):Wv U):=by
     split
     ·refine ag (gP _) λs=>?_
      split
      ·refine cD (by simp only[b.cells,b.cellAt,b.depth]) ?_
       ((try dsimp only);repeat' first|exact aA _|exact gP _|(refine aY _ ?_;rfl)|exact lg _|assumption|(refine ag ?_ (λ_=>?_))|(refine bW ?_ ?_)|intro _|split|(dsimp only)|exact trivial)
      ·exact aY _ Y
     ·exact aY _ Y
    split
    ·exact ag (aY _ Y) λ_=>g
    ·exact g
  |_=>exact f _
 all_goals exact f _
def EM(c:∀a b,O (.number a b))(a:UK)(l:Bool):St P P' O (asNumber a l):=ag (l9 (c _ _)) λ_=>trivial
def qw(c:Twin P P')(d:Plain O)(e:∀a b,O (.number a b))(t:Ui)(x y:U):St P P' O (movedNumber t x y):=by unfold movedNumber;((try dsimp only);repeat' first|exact aI c _|(refine aY _ ?_;rfl)|exact tH c d _ _ _|exact eg c d _|exact EM e _ _|assumption|(refine ag ?_ (λ_=>?_))|(refine bW ?_ ?_)|intro _|split|(dsimp only)|exact trivial)
def wY(b:Twin P P')(a:Plain O)(t:Ui)(x y:U):St P P' O (movedPointer t x y):=by unfold movedPointer;((try dsimp only);repeat' first|(refine aY _ ?_;rfl)|exact tH b a _ _ _|exact v8 b a _|assumption|(refine ag ?_ (λ_=>?_))|(refine bW ?_ ?_)|intro _|split|(dsimp only)|exact trivial)
theorem zx(a:Twin P P')(b:Plain O):∀(d:Nat) (t:Ui) (x y:U),St P P' O (Op.equalIn d t x y)
 |0,t,x,y=>aY _ Y
 |d+1,t,x,y=>by
  have c:=zx a b d;unfold Op.equalIn;refine ag (aI a t) λh=>?_
  split
  all_goals first
   |exact trivial
   |exact aA _
   |exact aY _ Y
   |exact zF a b _ _
   |exact bW trivial (aA _)
   |(refine ag (eg a b _) λe=>?_;refine ag (eg a b _) λf=>?_;dsimp only;refine cD (by rw[a.yq]) ?_
     ((try dsimp only);repeat' first|exact bM a _|exact aI a _|exact bV a _|exact aA _|exact bP a b _|exact cX _|(refine aY _ ?_;rfl)|exact gX a _ _ _|exact qW a b _|assumption|(refine ag ?_ (λ_=>?_))|(refine bW ?_ ?_)|intro _|split|(dsimp only)|exact trivial))
   |(refine ag (bV a _) λg=>?_
     ((try dsimp only);repeat' first|exact bM a _|exact aI a _|exact bV a _|exact aA _|exact bP a b _|exact cX _|(refine aY _ ?_;rfl)|exact gX a _ _ _|exact v9 a b _ _|assumption|(refine ag ?_ (λ_=>?_))|(refine bW ?_ ?_)|intro _|split|(dsimp only)|exact trivial))
   |skip
  ·refine bW trivial ?_;refine ag (bM a _) λinfo=>?_;dsimp only
   split
   ·refine cD (by simp only[a.M3]) ?_;refine cD (by simp only[a.depth]) ?_
    ((try dsimp only);repeat' first|exact bM a _|exact aI a _|exact bV a _|exact aA _|exact bP a b _|exact cX _|(refine aY _ ?_;rfl)|exact gX a _ _ _|exact sA a _|assumption|(refine ag ?_ (λ_=>?_))|(refine bW ?_ ?_)|intro _|split|(dsimp only)|exact trivial)
   ·exact c _ _ _
  ·refine cD (by rw[a.II]) ?_
   ((try dsimp only);repeat' first|exact bM a _|exact aI a _|exact bV a _|exact aA _|exact bP a b _|exact cX _|(refine aY _ ?_;rfl)|exact gX a _ _ _|exact c _ _ _|assumption|(refine oQ _ _ (λ_ _=>?_))|(refine qY _ _ (λ_ _=>?_))|(refine ag ?_ (λ_=>?_))|(refine bW ?_ ?_)|intro _|split|(dsimp only)|exact trivial)
  ·((try dsimp only);repeat' first|exact bM a _|exact aI a _|exact bV a _|exact aA _|exact bP a b _|exact cX _|(refine aY _ ?_;rfl)|exact gX a _ _ _|exact c _ _ _|assumption|(refine oQ _ _ (λ_ _=>?_))|(refine qY _ _ (λ_ _=>?_))|(refine ag ?_ (λ_=>?_))|(refine bW ?_ ?_)|intro _|split|(dsimp only)|exact trivial)
def EP(b:Twin P P')(a:Plain O)(t:Ui)(x y:U):St P P' O (Op.equal t x y):=zx b a _ t x y
theorem oP(a:Twin P P')(c:Plain O):∀(d:Nat) (t:Ui) (x y:U),St P P' O (Op.eqGuardIn d t x y)
 |0,t,x,y=>aY _ Y
 |d+1,t,x,y=>by
  have b:=oP a c d;unfold Op.eqGuardIn;refine ag (aI a t) λe=>?_
  split
  ·exact trivial
  ·((try dsimp only);repeat' first|exact aI a _|exact bV a _|(refine aY _ ?_;rfl)|exact gX a _ _ _|exact b _ _ _|assumption|(refine oQ _ _ (λ_ _=>?_))|(refine qY _ _ (λ_ _=>?_))|(refine ag ?_ (λ_=>?_))|(refine bW ?_ ?_)|intro _|split|(dsimp only)|exact trivial)
  ·((try dsimp only);repeat' first|exact aI a _|exact bV a _|(refine aY _ ?_;rfl)|exact gX a _ _ _|exact b _ _ _|assumption|(refine oQ _ _ (λ_ _=>?_))|(refine qY _ _ (λ_ _=>?_))|(refine ag ?_ (λ_=>?_))|(refine bW ?_ ?_)|intro _|split|(dsimp only)|exact trivial)
  ·exact trivial
def GW(c:Twin P P')(d:Plain O)(e:Yy)(t:Ui)(x y:U7)(a b:U):St P P' O (eqGuard e t x y a b):=by
 unfold eqGuard;refine bW trivial ?_
 split
 ·((try dsimp only);repeat' first|(refine aY _ ?_;rfl)|exact oP c d _ _ _ _|assumption|(refine ag ?_ (λ_=>?_))|(refine bW ?_ ?_)|intro _|split|(dsimp only)|exact trivial)
 ·refine cD (by simp only[c.SR]) ?_;refine cD (by simp only[c.depth]) ?_
  ((try dsimp only);repeat' first|(refine aY _ ?_;rfl)|exact oP c d _ _ _ _|assumption|(refine ag ?_ (λ_=>?_))|(refine bW ?_ ?_)|intro _|split|(dsimp only)|exact trivial)
 ·exact trivial
def NF(c:Twin P P')(d:Plain O)(e:∀a b,O (.number a b))(f:Yy)(t:Ui)(x y:U):St P P' O (binOp f t x y):=by
 unfold binOp
 split
 all_goals first
  |exact NM c d _ _ _ _ _
  |exact wh _ _ _
  |exact aY _ Y
  |exact aA _
  |exact qw c d e _ _ _
  |exact ag (EP c d _ _ _) λ_=>trivial
  |(refine bW (aA _) ?_
    split<;>first|exact vY _ _ _ _|exact KG c d _ _ _ _|exact zA _ _ _ _|exact KF _ _ _|exact rQ _ _ _ _|exact vX _ _ _ _)
  |exact bW (aA _) (CJ _ _ _ _ _ _)
  |(refine ag (aI c _) λg=>?_
    split<;>first|exact wY c d _ _ _|exact qw c d e _ _ _)
  |exact ag (eg c d _) λ_=>ag (eg c d _) λ_=>GP c d _ _ _
  |exact ag (eg c d _) λ_=>ag (eg c d _) λ_=>GN c d _ _ _
  |exact ag (eg c d _) λ_=>GO c d _ _ _
end
section
variable {P P':Ug}{O:Xx->Prop}{α β:Type}
theorem qt(a:Twin P P')(b:Plain O)(e:Bool):∀(n:Nat) (t:Ui) (v:U),St P P' O (XU e n t v)
 |0,t,v=>aY _ Y
 |n+1,t,v=>by
  have c:=qt a b e n;unfold XU;refine ag (aI a t) λd=>?_
  split
  ·((try dsimp only);repeat' first|exact bM a _|exact aI a _|exact bV a _|exact aA _|exact bP a b _|(refine aY _ ?_;rfl)|exact gX a _ _ _|exact c _ _|exact sA a _|assumption|(refine ag ?_ (λ_=>?_))|(refine bW ?_ ?_)|intro _|split|(dsimp only)|exact trivial)
  ·((try dsimp only);repeat' first|exact bM a _|exact aI a _|exact bV a _|exact aA _|exact bP a b _|(refine aY _ ?_;rfl)|exact gX a _ _ _|exact c _ _|assumption|(refine oQ _ _ (λ_ _=>?_))|(refine qY _ _ (λ_ _=>?_))|(refine ag ?_ (λ_=>?_))|(refine bW ?_ ?_)|intro _|split|(dsimp only)|exact trivial)
  ·((try dsimp only);repeat' first|exact bM a _|exact aI a _|exact bV a _|exact aA _|exact bP a b _|(refine aY _ ?_;rfl)|exact gX a _ _ _|exact c _ _|assumption|(refine oQ _ _ (λ_ _=>?_))|(refine qY _ _ (λ_ _=>?_))|(refine ag ?_ (λ_=>?_))|(refine bW ?_ ?_)|intro _|split|(dsimp only)|exact trivial)
  all_goals first|exact trivial|exact aA _
theorem rP(b:Twin P P')(a:Plain O)(t:Ui)(k:U):∀(es:List VQ) (i:Nat),St P P' O (Instr.findAsking t k es i)
 | [],i=>trivial
 |e::es,i=>by
  unfold Instr.findAsking;refine ag (EP b a _ _ _) λc=>?_
  split
  ·exact trivial
  ·exact rP b a t k es (i+1)
def zy(a:Twin P P')(b:Plain O)(t:Ui)(k:U)(es:List VQ):St P P' O (Yn t k es):=by unfold Yn;((try dsimp only);repeat' first|exact aI a _|exact rP a b _ _ _ _|assumption|(refine ag ?_ (λ_=>?_))|intro _|split|(dsimp only)|exact trivial)
def KI(a:Twin P P')(b:Plain O)(t:Ui)(x i:U)(c:Bool):St P P' O (Instr.lookup t x i c):=by unfold Instr.lookup;((try dsimp only);repeat' first|exact aI a _|exact fK a _|exact aA _|(refine jF _ (λ_ _=>?_) ?_)|exact pV Y|exact zy a b _ _ _|exact qt a b _ _ _ _|assumption|(refine ag ?_ (λ_=>?_))|intro _|split|(dsimp only)|exact trivial)
def CO(a:Twin P P')(b:Plain O)(d:∀e c,O (.map e c))(t:Ui)(m k v:U):St P P' O (Instr.mapUpdate t m k v):=by unfold Instr.mapUpdate Instr.keyThatStays;((try dsimp only);repeat' first|exact aI a _|exact aA _|exact bP a b _|exact cX _|(refine jF _ (λ_ _=>?_) ?_)|exact pV Y|exact zy a b _ _ _|exact qt a b _ _ _ _|exact mb _ (d _ _)|assumption|(refine ag ?_ (λ_=>?_))|(refine bW ?_ ?_)|intro _|split|(dsimp only)|exact trivial)
def uT(e:Twin P P')(d:Plain O)(x:U):St P P' O (Conv.bytesToString x):=by
 unfold Conv.bytesToString
 split
 ·exact trivial
 ·refine ag (oS _ _) λc=>?_;dsimp only;refine ag (oQ _ _ λb a=>?_) λ_=>trivial
  split
  ·exact trivial
  ·exact aA _
 ·exact aA _
def xz(b:Twin P P')(t:Ui):Still P P' O (λd=>P.underlying t=I d) (Xs t):=by
 unfold Xs;refine cD (by rw[b.tK]) ?_
 split
 ·rename_i d a;exact a
 ·exact aA _
def FO (P:Ug)(s d:Ui):Bool:=match P.underlying s,P.underlying d with
 |some (.int _),I (.int _)=>Z
 |some (.slice a),I .string=>match P.underlying a with|some (.int .u8)=>Z|_=>T8
 |some (.slice _),I (.slice _)=>Z
 |_,_=>T8
def EV(x:U):St P P' O (Ym x):=by unfold Ym;split<;>first|exact trivial|exact aA _
def kR(s n:Nat)(x:U):St P P' O (Xn s n x):=by unfold Xn;split<;>first|exact trivial|exact oS _ _|exact aA _
def Aw(a:UK)(c:Nat):St P P' O (Xo a c):=by unfold Xo;refine ag (gP _) λs=>?_;split<;>exact trivial
def EX(f:Twin P P')(e:Plain O)(a b c:Nat)(d:Option UK)(x:U):St P P' O (Yc a b c d x):=by unfold Yc;((try dsimp only);repeat' first|exact uW _|exact Aw _ _|assumption|(refine ag ?_ (λ_=>?_))|(refine bW ?_ ?_)|intro _|split|(dsimp only)|exact trivial)
def PZ(a:Twin P P')(d:Plain O)(c:Array Ui)(t:Ui)(b:Array U):St P P' O (Builtin.copy_ c t b):=by unfold Builtin.copy_;((try dsimp only);repeat' first|exact aI a _|exact bV a _|exact aA _|exact js _ _ _|exact EV _|exact kR _ _ _|assumption|(refine ag ?_ (λ_=>?_))|intro _|split|(dsimp only)|exact trivial)
def RJ(b:Twin P P')(d:Plain O)(c:Array Ui)(t:Ui)(a:Array U):St P P' O (Builtin.len_ c t a):=by unfold Builtin.len_;((try dsimp only);repeat' first|exact aI b _|exact aA _|(refine jF _ (λ_ _=>?_) ?_)|exact pV Y|assumption|(refine ag ?_ (λ_=>?_))|intro _|split|(dsimp only)|exact trivial)
def P4(x y:U):St P P' O (Builtin.min2 x y):=by
 unfold Builtin.min2
 repeat' first|exact aA _|exact aY _ Y|exact cX _|exact wh _ _ _|exact uS _|refine ag ?_ (λ_=>?_)|split|dsimp only|exact trivial
def RK(c:Array Ui)(t:Ui)(a:Array U):St P P' O (Builtin.min_ c t a):=by
 unfold Builtin.min_
 split
 ·exact aA _
 ·exact ER _ _ _ λb d=>P4 b d
def xa(a:Twin P P')(b:Plain O)(g:Array Ui)(t:Ui)(c:Array U):St P P' O (Builtin.unsafeString_ g t c):=by
 have d:∀s:String,St P P' O (stuck s:Wv U):=λs=>aA s;unfold Builtin.unsafeString_;obtain⟨e⟩:=c;rcases e with _|⟨f,_|⟨h,_|⟨i,e⟩⟩⟩
 case cons.cons.nil=>
  cases f with
  |pointer j=>
   dsimp only
   ((try dsimp only);repeat' first|exact aA _|exact bP a b _|exact Bn _ _|(refine aY _ ?_;rfl)|exact lg _|exact uU a _|exact zH a b _ _ _|exact CM a b _ _ _|assumption|(refine ag ?_ (λ_=>?_))|(refine bW ?_ ?_)|intro _|split|(dsimp only)|exact trivial)
  |_=>exact d _
 all_goals exact d _
end
end Cc
namespace Rl
section
structure mo where
 g:Nat
 b:Nat->Bool
structure aT(G:mo) where
 f:Nat->Option Nat
 inj:∀a b c,f a=I c->f b=I c->a=b
 OW:∀a b,f a=I b->(a<G.g↔b<G.g)
variable {G:mo}
def aT.le(ρ σ:aT G):Prop:=∀a b,ρ.f a=I b->σ.f a=I b
def aT.le.refl(ρ:aT G):ρ.le ρ:=λ_ _ a=>a
def aT.le.trans{ρ σ a:aT G}(h:ρ.le σ)(b:σ.le a):ρ.le a:=λd e c=>b _ _ (h _ _ c)
structure QR(ρ:aT G)(r r':Nat):Prop where
 left:ρ.f r=K
 right:∀b,ρ.f b≠I r'
 gl:G.g<=r
 gr:G.g<=r'
def aT.ext(ρ:aT G)(r r':Nat)(h:QR ρ r r'):aT G where
 f:=λb=>if b=r then I r' else ρ.f b
 inj:=λc b e a d=>by
  split at a<;>split at d
  ·omega
  ·cases a;exact absurd d (h.right b)
  ·cases d;exact absurd a (h.right c)
  ·exact ρ.inj c b e a d
 OW:=λc b a=>by
  have:=h.gl;have:=h.gr
  split at a
  ·cases a;omega
  ·exact ρ.OW c b a
def aT.Me{ρ:aT G}{r r':Nat}(h:QR ρ r r'):ρ.le (ρ.ext r r' h):=λc d a=>by
 unfold aT.ext;dsimp only
 split
 ·rename_i b;subst b;rw[h.left] at a;cases a
 ·exact a
def aT.xm(ρ:aT G)(r r':Nat)(h:QR ρ r r'):(ρ.ext r r' h).f r=I r':=by simp[aT.ext]
def cO (ρ:aT G)(a a':UK):Prop:=ρ.f a.block=I a'.block/\a.off=a'.off/\a.spot=a'.spot
def cO.mono{ρ σ:aT G}{a a':UK}(b:ρ.le σ)(h:cO ρ a a'):cO σ a a':=⟨b _ _ h.1,h.2⟩
def cO.add{ρ:aT G}{a a':UK}(h:cO ρ a a')(n:Nat):cO ρ (a.add n) (a'.add n):=by
 unfold Ys
 split
 ·exact h
 ·exact⟨h.1,by show a.off+n=a'.off+n;rw[h.2.1],rfl⟩
def nG (ρ:aT G)(b:Fn)(c:Fn):Prop:=∀a:Fn->Fn->Prop,(∀(f:V2) (d:G.b f=Z),a (.func f) (.func f))->a b c
def nG.func{ρ:aT G}(f:V2)(h:G.b f=Z):nG ρ (.func f) (.func f):=λb a=>a f h
def nG.ind{ρ:aT G}{c:∀(a:Fn) (b:Fn),nG ρ a b->Prop}(func:∀(f:V2) (h:G.b f=true),c _ _ (nG.func f h)){a:Fn}{b:Fn}(h:nG ρ a b):c a b h:=(h (λa b=>nG ρ a b/\∀h,c a b h) (λf h=>⟨nG.func f h,λ_=>func f h⟩)).2 h
def nG.mono{ρ σ:aT G}{f f':Fn}(a:ρ.le σ)(h:nG ρ f f'):nG σ f f':=by
 cases h using nG.ind with
 |func f h=>exact .func f h
def ax (ρ:aT G)(y:U)(z:U):Prop:=∀a:U->U->Prop,(∀(p:Bool),a (.bool p) (.bool p))->(∀(u:Wy) (g:Int),a (.int u g) (.int u g))->(∀(s:ByteArray),a (.string s) (.string s))->(a (.pointer K) (.pointer K))->(∀{h i:UK} (e:cO ρ h i),a (.pointer (I h)) (.pointer (I i)))->(∀(g j:Nat),a (.slice K g j) (.slice K g j))->(∀{h i:UK} (e:cO ρ h i) (g j:Nat),a (.slice (I h) g j) (.slice (I i) g j))->(a (.map K) (.map K))->(∀{k l:Nat} (e:ρ.f k=I l),a (.map (I k)) (.map (I l)))->(a (.chan K) (.chan K))->(∀{k l:Nat} (e:ρ.f k=I l),a (.chan (I k)) (.chan (I l)))->(∀{f q:Fn} {c d m n:Array U} (A:nG ρ f q) (r:c.size=d.size) (t:∀b (e:b<c.size) (o:b<d.size),a c[b] d[b]) (B:m.size=n.size) (C:∀b (e:b<m.size) (o:b<n.size),a m[b] n[b]),a (.func f c m) (.func q d n))->(a .nilFunc .nilFunc)->(∀(w:Ui) {v x:U} (e:a v x),a (.iface w v) (.iface w x))->(a .nilIface .nilIface)->(∀{c d:Array U} (r:c.size=d.size) (t:∀b (e:b<c.size) (o:b<d.size),a c[b] d[b]),a (.agg c) (.agg d))->(∀{c d:Array U} (r:c.size=d.size) (t:∀b (e:b<c.size) (o:b<d.size),a c[b] d[b]),a (.tuple c) (.tuple d))->a y z
def ax.bool{ρ:aT G}(b:Bool):ax ρ (.bool b) (.bool b):=λc a l m n o p q r s d e f g h i j k=>a b
def ax.int{ρ:aT G}(k:Wy)(n:Int):ax ρ (.int k n) (.int k n):=λb c a m o p q r s t d e f g h i j l=>a k n
def ax.string{ρ:aT G}(s:ByteArray):ax ρ (.string s) (.string s):=λb c l a m n o p q r d e f g h i j k=>a s
def ax.dg{ρ:aT G}:ax ρ (.pointer K) (.pointer K):=λb c l m a n o p q r d e f g h i j k=>a
def ax.ptr{ρ:aT G}{a a':UK}(h:cO ρ a a'):ax ρ (.pointer (I a)) (.pointer (I a')):=λc d n o p b q r s t e f g i j k l m=>b h
def ax.jW{ρ:aT G}(n c:Nat):ax ρ (.slice K n c) (.slice K n c):=λb d m o p q a r s t e f g h i j k l=>a n c
def ax.sl{ρ:aT G}{a a':UK}(h:cO ρ a a')(n c:Nat):ax ρ (.slice (I a) n c) (.slice (I a') n c):=λd e p q r s t b u v f g i j k l m o=>b h n c
def ax.kF{ρ:aT G}:ax ρ (.map K) (.map K):=λb c l m n o p q a r d e f g h i j k=>a
def ax.map{ρ:aT G}{r r':Nat}(h:ρ.f r=I r'):ax ρ (.map (I r)) (.map (I r')):=λb c m n o p q s t a d e f g i j k l=>a h
def ax.iN{ρ:aT G}:ax ρ (.chan K) (.chan K):=λb c k l m n o p q r a d e f g h i j=>a
def ax.chan{ρ:aT G}{r r':Nat}(h:ρ.f r=I r'):ax ρ (.chan (I r)) (.chan (I r')):=λb c l m n o p q s t d a e f g i j k=>a h
def ax.func{ρ:aT G}{f f':Fn}{x a y b:Array U}(D:nG ρ f f')(E:x.size=a.size)(F:∀i (h:i<x.size) (C:i<a.size),ax ρ x[i] a[i])(H:y.size=b.size)(I:∀i (h:i<y.size) (C:i<b.size),ax ρ y[i] b[i]):ax ρ (.func f x y) (.func f' a b):=λj k s t u v w z A B l m c n o p q r=>c D E (λd e g=>F d e g j k s t u v w z A B l m c n o p q r) H (λd e g=>I d e g j k s t u v w z A B l m c n o p q r)
def ax.nilFunc{ρ:aT G}:ax ρ .nilFunc .nilFunc:=λb c k l m n o p q r d e f a g h i j=>a
def ax.iface{ρ:aT G}(t:Ui){v b:U}(h:ax ρ v b):ax ρ (.iface t v) (.iface t b):=λc d m n o p q r s u e f g i a j k l=>a t (h c d m n o p q r s u e f g i a j k l)
def ax.nilIface{ρ:aT G}:ax ρ .nilIface .nilIface:=λb c k l m n o p q r d e f g h a i j=>a
def ax.agg{ρ:aT G}{x a:Array U}(v:x.size=a.size)(w:∀i (h:i<x.size) (B:i<a.size),ax ρ x[i] a[i]):ax ρ (.agg x) (.agg a):=λc d n o p q r s t u e f g j k l b m=>b v (λy z A=>w y z A c d n o p q r s t u e f g j k l b m)
def ax.tuple{ρ:aT G}{x a:Array U}(v:x.size=a.size)(w:∀i (h:i<x.size) (B:i<a.size),ax ρ x[i] a[i]):ax ρ (.tuple x) (.tuple a):=λc d n o p q r s t u e f g j k l m b=>b v (λy z A=>w y z A c d n o p q r s t u e f g j k l m b)
def ax.ind{ρ:aT G}{j:∀(p:U) (q:U),ax ρ p q->Prop}(bool:∀(b:Bool),j _ _ (ax.bool b))(int:∀(k:Wy) (n:Int),j _ _ (ax.int k n))(string:∀(s:ByteArray),j _ _ (ax.string s))(dg:j _ _ (ax.dg))(ptr:∀{a a':UK} (h:cO ρ a a'),j _ _ (ax.ptr h))(jW:∀(n c:Nat),j _ _ (ax.jW n c))(sl:∀{a a':UK} (h:cO ρ a a') (n c:Nat),j _ _ (ax.sl h n c))(kF:j _ _ (ax.kF))(map:∀{r r':Nat} (h:ρ.f r=some r'),j _ _ (ax.map h))(iN:j _ _ (ax.iN))(chan:∀{r r':Nat} (h:ρ.f r=some r'),j _ _ (ax.chan h))(func:∀{f f':Fn} {x o y B:Array U} (w:nG ρ f f') (m:x.size=o.size) (l:∀i (h:i<x.size) (A:i<o.size),ax ρ x[i] o[i]) (z:y.size=B.size) (u:∀i (h:i<y.size) (A:i<B.size),ax ρ y[i] B[i]),(∀d e g,j _ _ (l d e g))->(∀d e g,j _ _ (u d e g))->j _ _ (ax.func w m l z u))(nilFunc:j _ _ (ax.nilFunc))(iface:∀(t:Ui) {v C:U} (h:ax ρ v C),(j _ _ h)->j _ _ (ax.iface t h))(nilIface:j _ _ (ax.nilIface))(agg:∀{x o:Array U} (m:x.size=o.size) (l:∀i (h:i<x.size) (A:i<o.size),ax ρ x[i] o[i]),(∀d e g,j _ _ (l d e g))->j _ _ (ax.agg m l))(tuple:∀{x o:Array U} (m:x.size=o.size) (l:∀i (h:i<x.size) (A:i<o.size),ax ρ x[i] o[i]),(∀d e g,j _ _ (l d e g))->j _ _ (ax.tuple m l)){p:U}{q:U}(h:ax ρ p q):j p q h:=(h (λp q=>ax ρ p q/\∀h,j p q h) (λb=>⟨ax.bool b,λ_=>bool b⟩) (λk n=>⟨ax.int k n,λ_=>int k n⟩) (λs=>⟨ax.string s,λ_=>string s⟩) (⟨ax.dg,λ_=>dg⟩) (λh=>⟨ax.ptr h,λ_=>ptr h⟩) (λn c=>⟨ax.jW n c,λ_=>jW n c⟩) (λh n c=>⟨ax.sl h n c,λ_=>sl h n c⟩) (⟨ax.kF,λ_=>kF⟩) (λh=>⟨ax.map h,λ_=>map h⟩) (⟨ax.iN,λ_=>iN⟩) (λh=>⟨ax.chan h,λ_=>chan h⟩) (λw m l z u=>⟨ax.func w m (λd e g=>(l d e g).1) z (λd e g=>(u d e g).1),λ_=>func w m (λd e g=>(l d e g).1) z (λd e g=>(u d e g).1) (λd e g=>(l d e g).2 _) (λd e g=>(u d e g).2 _)⟩) (⟨ax.nilFunc,λ_=>nilFunc⟩) (λt {v} {C} h=>⟨ax.iface t h.1,λ_=>iface t h.1 (h.2 _)⟩) (⟨ax.nilIface,λ_=>nilIface⟩) (λm l=>⟨ax.agg m (λd e g=>(l d e g).1),λ_=>agg m (λd e g=>(l d e g).1) (λd e g=>(l d e g).2 _)⟩) (λm l=>⟨ax.tuple m (λd e g=>(l d e g).1),λ_=>tuple m (λd e g=>(l d e g).1) (λd e g=>(l d e g).2 _)⟩)).2 h
def bf (ρ:aT G)(x b:Array U):Prop:=x.size=b.size/\∀a (c:a<x.size) (d:a<b.size),ax ρ x[a] b[a]
def ax.mono{ρ σ:aT G}(c:ρ.le σ){v f:U}(h:ax ρ v f):ax σ v f:=by
 induction h using ax.ind with
 |ptr h=>exact .ptr (h.mono c)
 |sl h m g=>exact .sl (h.mono c) m g
 |map h=>exact .map (c _ _ h)
 |chan h=>exact .chan (c _ _ h)
 |func i d _ j _ k l=>exact .func (i.mono c) d (λb h a=>k b h a) j (λb h a=>l b h a)
 |iface n _ e=>exact .iface n e
 |agg d _ e=>exact .agg d (λb h a=>e b h a)
 |tuple d _ e=>exact .tuple d (λb h a=>e b h a)
 |_=>first|exact .bool _|exact .int _ _|exact .string _|exact .dg|exact .jW _ _|exact .kF|exact .iN|exact .nilFunc|exact .nilIface
def bf.mono{ρ σ:aT G}(d:ρ.le σ){x a:Array U}(h:bf ρ x a):bf σ x a:=⟨h.1,λe b c=>(h.2 e b c).mono d⟩
def bf.nil(ρ:aT G):bf ρ #[] #[]:=⟨rfl,λb a=>by simp at a⟩
def bf.push{ρ:aT G}{x b:Array U}{v a:U}(h:bf ρ x b)(c:ax ρ v a):bf ρ (x.push v) (b.push a):=by
 refine⟨by simp[h.1],λd e f=>?_⟩;simp only[Array.getElem_push];have:=h.1
 split
 ·rw[dif_pos (by omega)];exact h.2 d _ _
 ·rw[dif_neg (by omega)];exact c
def bf.append{ρ:aT G}{x b y e:Array U}(h:bf ρ x b)(d:bf ρ y e):bf ρ (x++y) (b++e):=by
 have c:=h.1;have f:=d.1;refine⟨by simp[c,f],λa g i=>?_⟩;simp only[Array.getElem_append]
 split
 ·rw[dif_pos (by omega)];exact h.2 a _ _
 ·rw[dif_neg (by omega)];have:a-x.size=a-b.size:=by rw[c]
  simp only[this];exact d.2 (a-b.size) (by simp at g;omega) (by simp at i;omega)
def bf.get{ρ:aT G}{x a:Array U}(h:bf ρ x a)(i:Nat):(x[i]? =K/\a[i]? =K)\/∃v c,x[i]? =I v/\a[i]? =I c/\ax ρ v c:=by
 have d:=h.1;by_cases b:i<x.size
 ·exact .inr ⟨_,_,UW b,UW (by omega),h.2 i b (by omega)⟩
 ·exact .inl ⟨Vm (by omega),Vm (by omega)⟩
def bf.set{ρ:aT G}{x d:Array U}(h:bf ρ x d){v c:U}(g:ax ρ v c)(i:Nat):bf ρ (x.setIfInBounds i v) (d.setIfInBounds i c):=by
 refine⟨by simp[h.1],λb e f=>?_⟩;by_cases a:i=b
 ·subst a;simp only[Array.getElem_setIfInBounds_self];exact g
 ·rw[Array.getElem_setIfInBounds_ne (by simpa using e) a,Array.getElem_setIfInBounds_ne (by simpa using f) a];exact h.2 b _ _
def bf.extract{ρ:aT G}{x a:Array U}(h:bf ρ x a)(i j:Nat):bf ρ (x.extract i j) (a.extract i j):=by
 refine⟨by simp[h.1],λd b c=>?_⟩;simp only[Array.getElem_extract];exact h.2 _ _ _
def ax.cells{ρ:aT G}{v a:U}(h:ax ρ v a):bf ρ v.cells a.cells:=by
 cases h using ax.ind with
 |agg c d=>exact⟨c,d⟩
 |_=>exact⟨rfl,λe b f=>by
  have:e=0:=by simp[Value.cells] at b;omega
  subst this
  first|exact .bool _|exact .int _ _|exact .string _|exact .dg|exact .ptr ‹_› |exact .jW _ _|exact .sl ‹_› _ _|exact .kF|exact .map ‹_› |exact .iN|exact .chan ‹_› |exact .func ‹_› ‹_› ‹_› ‹_› ‹_› |exact .nilFunc|exact .iface _ ‹_› |exact .nilIface|exact .tuple ‹_› ‹_›⟩
structure sH(ρ:aT G)(e e':VQ):Prop where
 key:ax ρ e.key e'.key
 val:ax ρ e.val e'.val
 born:e.born=e'.born
def sH.mono{ρ σ:aT G}(a:ρ.le σ){e e':VQ}(h:sH ρ e e'):sH σ e e':=⟨h.key.mono a,h.val.mono a,h.born⟩
def dL (ρ:aT G)(r:Xx)(t:Xx):Prop:=∀a:Xx->Xx->Prop,(∀{b l:Array U} (g:bf ρ b l) (c:Ui) (m:Nat×Nat),a (.cells b c m) (.cells l c m))->(∀{d e:Array VQ} (w:d.size=e.size) (g:∀f (u:f<d.size) (v:f<e.size),sH ρ d[f] e[f]) (n:Nat),a (.map d n) (.map e n))->(∀(p:Nat) {j k:Array U} (g:bf ρ j k) (b:Bool) (s q:Nat) (c:Bool),a (.chan p j b s q c) (.chan p k b s q c))->(∀{h i:UK} (g:cO ρ h i) (o:Bool),a (.number h o) (.number i o))->a r t
def dL.cells{ρ:aT G}{c b:Array U}(h:bf ρ c b)(t:Ui)(a:Nat×Nat):dL ρ (.cells c t a) (.cells b t a):=λe d f g i=>d h t a
def dL.map{ρ:aT G}{es a:Array VQ}(c:es.size=a.size)(h:∀i (h1:i<es.size) (j:i<a.size),sH ρ es[i] a[i])(k:Nat):dL ρ (.map es k) (.map a k):=λd e b f g=>b c h k
def dL.chan{ρ:aT G}(n:Nat){b b':Array U}(h:bf ρ b b')(c:Bool)(s r:Nat)(t:Bool):dL ρ (.chan n b c s r t) (.chan n b' c s r t):=λd e f a g=>a n h c s r t
def dL.number{ρ:aT G}{a a':UK}(h:cO ρ a a')(l:Bool):dL ρ (.number a l) (.number a' l):=λc d e f b=>b h l
def dL.ind{ρ:aT G}{f:∀(d:Xx) (e:Xx),dL ρ d e->Prop}(cells:∀{c o:Array U} (h:bf ρ c o) (t:Ui) (g:Nat×Nat),f _ _ (dL.cells h t g))(map:∀{es m:Array VQ} (j:es.size=m.size) (h:∀i (h1:i<es.size) (p:i<m.size),sH ρ es[i] m[i]) (k:Nat),f _ _ (dL.map j h k))(chan:∀(n:Nat) {b b':Array U} (h:bf ρ b b') (c:Bool) (s r:Nat) (t:Bool),f _ _ (dL.chan n h c s r t))(number:∀{a a':UK} (h:cO ρ a a') (l:Bool),f _ _ (dL.number h l)){d:Xx}{e:Xx}(h:dL ρ d e):f d e h:=(h (λd e=>dL ρ d e/\∀h,f d e h) (λh t g=>⟨dL.cells h t g,λ_=>cells h t g⟩) (λj h k=>⟨dL.map j h k,λ_=>map j h k⟩) (λn {b} {b'} h c s r t=>⟨dL.chan n h c s r t,λ_=>chan n h c s r t⟩) (λh l=>⟨dL.number h l,λ_=>number h l⟩)).2 h
def dL.mono{ρ σ:aT G}(a:ρ.le σ){o o':Xx}(h:dL ρ o o'):dL σ o o':=by
 cases h using dL.ind with
 |cells h b d=>exact .cells (h.mono a) b d
 |map g h j=>exact .map g (λi e f=>(h i e f).mono a) j
 |chan l h c s m b=>exact .chan l (h.mono a) c s m b
 |number h k=>exact .number (h.mono a) k
structure eL(ρ:aT G)(bu:Nat)(w w':F):Prop where
 gl:G.g<=w.heap.size
 gr:G.g<=w'.heap.size
 at_:∀b b',ρ.f b=I b'->∃o o',w.heap[b]? =I o/\w'.heap[b']? =I o'/\dL ρ o o'
 tape:∀i q,i<bu->w.tape (w.drawn+i) q=w'.tape (w'.drawn+i) q
def pP:Halt->Bool
 | .stuck _=>Z
 | .unsupported (.initOrder _)=>T8
 | .unsupported _=>Z
 |_=>T8
def lG (ρ:aT G)(d:Halt)(e:Halt):Prop:=∀b:Halt->Halt->Prop,(∀{v c:U} (a:ax ρ v c),b (.panic v) (.panic c))->(∀(a:Halt) (f:pP a=Z),b a a)->b d e
def lG.panic{ρ:aT G}{v a:U}(h:ax ρ v a):lG ρ (.panic v) (.panic a):=λc b d=>b h
def lG.same{ρ:aT G}(h:Halt)(b:pP h=Z):lG ρ h h:=λc d a=>a h b
def lG.ind{ρ:aT G}{c:∀(a:Halt) (b:Halt),lG ρ a b->Prop}(panic:∀{v e:U} (h:ax ρ v e),c _ _ (lG.panic h))(same:∀(h:Halt) (d:pP h=true),c _ _ (lG.same h d)){a:Halt}{b:Halt}(h:lG ρ a b):c a b h:=(h (λa b=>lG ρ a b/\∀h,c a b h) (λh=>⟨lG.panic h,λ_=>panic h⟩) (λh d=>⟨lG.same h d,λ_=>same h d⟩)).2 h
end
section
variable {G:mo}{bu:Nat}
def aq {α β:Type}(P P':Ug)(A:aT G->α->β->Prop)(y:aT G)(z:Wv α)(C:Wv β):Prop:=∀d:aT G->Wv α->Wv β->Prop,(∀{a:aT G} {e:α} {l:β} (f:A a e l),d a (.pure e) (.pure l))->(∀{a:aT G} {m:Mode} {e i:UK} {b:U->Wv α} {c:U->Wv β} (p:cO a e i) (f:∀v o,ax a v o->d a (b v) (c o)),d a (.load m e b) (.load m i c))->(∀{a:aT G} {m:Mode} {e i:UK} {v o:U} {b:Wv α} {c:Wv β} (p:cO a e i) (D:ax a v o) (f:d a b c),d a (.store m e v b) (.store m i o c))->(∀{a:aT G} {j k:Xx} {b:Nat->Wv α} {c:Nat->Wv β} (x:dL a j k) (f:∀g h (w:QR a g h),d (a.ext g h w) (b g) (c h)),d a (.new j b) (.new k c))->(∀{a:aT G} {g h:Nat} {b:Option (Ui×Nat)->Wv α} {c:Option (Ui×Nat)->Wv β} (q:a.f g=I h) (f:∀s,d a (b s) (c s)),d a (.shape g b) (.shape h c))->(∀{a:aT G} {e i:UK} {n:Nat} {b:Wv α} {c:Wv β} (p:cO a e i) (f:d a b c),d a (.freeze e n b) (.freeze i n c))->(∀{a:aT G} {e i:UK} {b:Bool->Wv α} {c:Bool->Wv β} (p:cO a e i) (f:∀l,d a (b l) (c l)),d a (.frozen e b) (.frozen i c))->(∀{a:aT G} {g h:Nat} {b:Xx->Wv α} {c:Xx->Wv β} (q:a.f g=I h) (f:∀j k,dL a j k->d a (b j) (c k)),d a (.getObj g b) (.getObj h c))->(∀{a:aT G} {g h:Nat} {j k:Xx} {b:Wv α} {c:Wv β} (q:a.f g=I h) (x:dL a j k) (f:d a b c),d a (.setObj g j b) (.setObj h k c))->(∀{a:aT G} {r:Question} {b:Nat->Wv α} {c:Nat->Wv β} (f:∀n,d a (b n) (c n)),d a (.choose r b) (.choose r c))->(∀{a:aT G} {b:Ug->Wv α} {c:Ug->Wv β} (f:d a (b P) (c P')),d a (.program b) (.program c))->(∀{a:aT G} {b:Wv α} {c:Wv β} (f:d a b c),d a (.mark .noRoom b) (.mark .noRoom c))->(∀{a:aT G} {t u:Halt} (f:lG a t u),d a (.halt t) (.halt u))->d y z C
def aq.pure{α β:Type}{P P':Ug}{A:aT G->α->β->Prop}{ρ:aT G}{a:α}{b:β}(h:A ρ a b):aq P P' A ρ (.pure a) (.pure b):=λd c j k l m n o p q e f g i=>c h
def aq.load{α β:Type}{P P':Ug}{A:aT G->α->β->Prop}{ρ:aT G}{m:Mode}{a a':UK}{k:U->Wv α}{k':U->Wv β}(t:cO ρ a a')(h:∀v c,ax ρ v c->aq P P' A ρ (k v) (k' c)):aq P P' A ρ (.load m a k) (.load m a' k'):=λd e b l n o p q r s f g i j=>b t (λu w x=>h u w x d e b l n o p q r s f g i j)
def aq.store{α β:Type}{P P':Ug}{A:aT G->α->β->Prop}{ρ:aT G}{m:Mode}{a a':UK}{v c:U}{k:Wv α}{k':Wv β}(t:cO ρ a a')(u:ax ρ v c)(h:aq P P' A ρ k k'):aq P P' A ρ (.store m a v k) (.store m a' c k'):=λd e l b n o p q r s f g i j=>b t u (h d e l b n o p q r s f g i j)
def aq.new{α β:Type}{P P':Ug}{A:aT G->α->β->Prop}{ρ:aT G}{o o':Xx}{k:Nat->Wv α}{k':Nat->Wv β}(t:dL ρ o o')(h:∀r r' (s:QR ρ r r'),aq P P' A (ρ.ext r r' s) (k r) (k' r')):aq P P' A ρ (.new o k) (.new o' k'):=λb c i j a l m n p q d e f g=>a t (λu v w=>h u v w b c i j a l m n p q d e f g)
def aq.shape{α β:Type}{P P':Ug}{A:aT G->α->β->Prop}{ρ:aT G}{r r':Nat}{k:Option (Ui×Nat)->Wv α}{k':Option (Ui×Nat)->Wv β}(q:ρ.f r=I r')(h:∀s,aq P P' A ρ (k s) (k' s)):aq P P' A ρ (.shape r k) (.shape r' k'):=λb c i j l a m n o p d e f g=>a q (λt=>h t b c i j l a m n o p d e f g)
def aq.freeze{α β:Type}{P P':Ug}{A:aT G->α->β->Prop}{ρ:aT G}{a a':UK}{n:Nat}{k:Wv α}{k':Wv β}(s:cO ρ a a')(h:aq P P' A ρ k k'):aq P P' A ρ (.freeze a n k) (.freeze a' n k'):=λc d j l m o b p q r e f g i=>b s (h c d j l m o b p q r e f g i)
def aq.frozen{α β:Type}{P P':Ug}{A:aT G->α->β->Prop}{ρ:aT G}{a a':UK}{k:Bool->Wv α}{k':Bool->Wv β}(s:cO ρ a a')(h:∀b,aq P P' A ρ (k b) (k' b)):aq P P' A ρ (.frozen a k) (.frozen a' k'):=λd e l m n o p c q r f g i j=>c s (λt=>h t d e l m n o p c q r f g i j)
def aq.getObj{α β:Type}{P P':Ug}{A:aT G->α->β->Prop}{ρ:aT G}{r r':Nat}{k:Xx->Wv α}{k':Xx->Wv β}(s:ρ.f r=I r')(h:∀o o',dL ρ o o'->aq P P' A ρ (k o) (k' o')):aq P P' A ρ (.getObj r k) (.getObj r' k'):=λb c i j l m n p a q d e f g=>a s (λt u v=>h t u v b c i j l m n p a q d e f g)
def aq.setObj{α β:Type}{P P':Ug}{A:aT G->α->β->Prop}{ρ:aT G}{r r':Nat}{o o':Xx}{k:Wv α}{k':Wv β}(t:ρ.f r=I r')(s:dL ρ o o')(h:aq P P' A ρ k k'):aq P P' A ρ (.setObj r o k) (.setObj r' o' k'):=λb c i j l m n p q a d e f g=>a t s (h b c i j l m n p q a d e f g)
def aq.choose{α β:Type}{P P':Ug}{A:aT G->α->β->Prop}{ρ:aT G}{q:Question}{k:Nat->Wv α}{k':Nat->Wv β}(h:∀n,aq P P' A ρ (k n) (k' n)):aq P P' A ρ (.choose q k) (.choose q k'):=λb c g i j l m o p r a d e f=>a (λs=>h s b c g i j l m o p r a d e f)
def aq.program{α β:Type}{P P':Ug}{A:aT G->α->β->Prop}{ρ:aT G}{k:Ug->Wv α}{k':Ug->Wv β}(h:aq P P' A ρ (k P) (k' P')):aq P P' A ρ (.program k) (.program k'):=λb c g i j l m n o p d a e f=>a (h b c g i j l m n o p d a e f)
def aq.room{α β:Type}{P P':Ug}{A:aT G->α->β->Prop}{ρ:aT G}{k:Wv α}{k':Wv β}(h:aq P P' A ρ k k'):aq P P' A ρ (.mark .noRoom k) (.mark .noRoom k'):=λb c g i j l m n o p d e a f=>a (h b c g i j l m n o p d e a f)
def aq.halt{α β:Type}{P P':Ug}{A:aT G->α->β->Prop}{ρ:aT G}{x a:Halt}(h:lG ρ x a):aq P P' A ρ (.halt x) (.halt a):=λc d i j k l m n o p e f g b=>b h
def aq.ind{α β:Type}{P P':Ug}{A:aT G->α->β->Prop}{d:∀(l:aT G) (p:Wv α) (t:Wv β),aq P P' A l p t->Prop}(pure:∀{ρ:aT G} {a:α} {b:β} (h:A ρ a b),d ρ (.pure a) (.pure b) (aq.pure h))(load:∀{ρ:aT G} {m:Mode} {a a':UK} {k:U->Wv α} {k':U->Wv β} (g:cO ρ a a') (h:∀v u,ax ρ v u->aq P P' A ρ (k v) (k' u)),(∀c e f,d _ _ _ (h c e f))->d ρ (.load m a k) (.load m a' k') (aq.load g h))(store:∀{ρ:aT G} {m:Mode} {a a':UK} {v u:U} {k:Wv α} {k':Wv β} (g:cO ρ a a') (w:ax ρ v u) (h:aq P P' A ρ k k'),(d _ _ _ h)->d ρ (.store m a v k) (.store m a' u k') (aq.store g w h))(new:∀{ρ:aT G} {o o':Xx} {k:Nat->Wv α} {k':Nat->Wv β} (j:dL ρ o o') (h:∀r r' (z:QR ρ r r'),aq P P' A (ρ.ext r r' z) (k r) (k' r')),(∀c e f,d _ _ _ (h c e f))->d ρ (.new o k) (.new o' k') (aq.new j h))(shape:∀{ρ:aT G} {r r':Nat} {k:Option (Ui×Nat)->Wv α} {k':Option (Ui×Nat)->Wv β} (i:ρ.f r=some r') (h:∀s,aq P P' A ρ (k s) (k' s)),(∀c,d _ _ _ (h c))->d ρ (.shape r k) (.shape r' k') (aq.shape i h))(freeze:∀{ρ:aT G} {a a':UK} {n:Nat} {k:Wv α} {k':Wv β} (g:cO ρ a a') (h:aq P P' A ρ k k'),(d _ _ _ h)->d ρ (.freeze a n k) (.freeze a' n k') (aq.freeze g h))(frozen:∀{ρ:aT G} {a a':UK} {k:Bool->Wv α} {k':Bool->Wv β} (g:cO ρ a a') (h:∀b,aq P P' A ρ (k b) (k' b)),(∀c,d _ _ _ (h c))->d ρ (.frozen a k) (.frozen a' k') (aq.frozen g h))(getObj:∀{ρ:aT G} {r r':Nat} {k:Xx->Wv α} {k':Xx->Wv β} (i:ρ.f r=some r') (h:∀o o',dL ρ o o'->aq P P' A ρ (k o) (k' o')),(∀c e f,d _ _ _ (h c e f))->d ρ (.getObj r k) (.getObj r' k') (aq.getObj i h))(setObj:∀{ρ:aT G} {r r':Nat} {o o':Xx} {k:Wv α} {k':Wv β} (i:ρ.f r=some r') (j:dL ρ o o') (h:aq P P' A ρ k k'),(d _ _ _ h)->d ρ (.setObj r o k) (.setObj r' o' k') (aq.setObj i j h))(choose:∀{ρ:aT G} {q:Question} {k:Nat->Wv α} {k':Nat->Wv β} (h:∀n,aq P P' A ρ (k n) (k' n)),(∀c,d _ _ _ (h c))->d ρ (.choose q k) (.choose q k') (aq.choose h))(program:∀{ρ:aT G} {k:Ug->Wv α} {k':Ug->Wv β} (h:aq P P' A ρ (k P) (k' P')),(d _ _ _ h)->d ρ (.program k) (.program k') (aq.program h))(room:∀{ρ:aT G} {k:Wv α} {k':Wv β} (h:aq P P' A ρ k k'),(d _ _ _ h)->d ρ (.mark .noRoom k) (.mark .noRoom k') (aq.room h))(halt:∀{ρ:aT G} {x y:Halt} (h:lG ρ x y),d ρ (.halt x) (.halt y) (aq.halt h)){l:aT G}{p:Wv α}{t:Wv β}(h:aq P P' A l p t):d l p t h:=(h (λl p t=>aq P P' A l p t/\∀h,d l p t h) (λh=>⟨aq.pure h,λ_=>pure h⟩) (λg h=>⟨aq.load g (λc e f=>(h c e f).1),λ_=>load g (λc e f=>(h c e f).1) (λc e f=>(h c e f).2 _)⟩) (λg w h=>⟨aq.store g w h.1,λ_=>store g w h.1 (h.2 _)⟩) (λj h=>⟨aq.new j (λc e f=>(h c e f).1),λ_=>new j (λc e f=>(h c e f).1) (λc e f=>(h c e f).2 _)⟩) (λi h=>⟨aq.shape i (λc=>(h c).1),λ_=>shape i (λc=>(h c).1) (λc=>(h c).2 _)⟩) (λg h=>⟨aq.freeze g h.1,λ_=>freeze g h.1 (h.2 _)⟩) (λg h=>⟨aq.frozen g (λc=>(h c).1),λ_=>frozen g (λc=>(h c).1) (λc=>(h c).2 _)⟩) (λi h=>⟨aq.getObj i (λc e f=>(h c e f).1),λ_=>getObj i (λc e f=>(h c e f).1) (λc e f=>(h c e f).2 _)⟩) (λi j h=>⟨aq.setObj i j h.1,λ_=>setObj i j h.1 (h.2 _)⟩) (λh=>⟨aq.choose (λc=>(h c).1),λ_=>choose (λc=>(h c).1) (λc=>(h c).2 _)⟩) (λh=>⟨aq.program h.1,λ_=>program h.1 (h.2 _)⟩) (λh=>⟨aq.room h.1,λ_=>room h.1 (h.2 _)⟩) (λh=>⟨aq.halt h,λ_=>halt h⟩)).2 h
section
variable {P P':Ug}{α β γ δ:Type}{A:aT G->α->β->Prop}{B:aT G->γ->δ->Prop}
def aq.bind{ρ:aT G}{s:Wv α}{s':Wv β}{f:α->Wv γ}{f':β->Wv δ}(h:aq P P' A ρ s s')(d:∀ σ a b,ρ.le σ->A σ a b->aq P P' B σ (f a) (f' b)):aq P P' B ρ (s.bind f) (s'.bind f'):=by
 induction h using aq.ind with
 |pure h=>exact d _ _ _ (aT.le.refl _) h
 |load g _ c=>exact .load g (λv r j=>c v r j d)
 |store g j _ c=>exact .store g j (c d)
 |new i _ c=>exact .new i (λp q e=>c p q e (λσ a b l k=>d σ a b ((aT.Me e).trans l) k))
 |shape e _ c=>exact .shape e (λs=>c s d)
 |freeze g _ c=>exact .freeze g (c d)
 |frozen g _ c=>exact .frozen g (λb=>c b d)
 |getObj e _ c=>exact .getObj e (λn o i=>c n o i d)
 |setObj e i _ c=>exact .setObj e i (c d)
 |choose _ c=>exact .choose (λm=>c m d)
 |program _ c=>exact .program (c d)
 |room _ c=>exact .room (c d)
 |halt h=>exact .halt h
end
def ku (σ:aT G)(e:Vn):Prop:=match e.loc with
 | .cell b=>∃a,σ.f a=I b.block
 | .obj c=>∃a,σ.f a=I c
 | .mark .noRoom=>True
 |_=>False
def ku.mono{ρ σ:aT G}(c:ρ.le σ){e:Vn}(h:ku ρ e):ku σ e:=by
 unfold ku at*
 split<;>simp_all
 ·obtain⟨a,b⟩:=h;exact⟨a,c _ _ b⟩
 ·obtain⟨a,b⟩:=h;exact⟨a,c _ _ b⟩
structure Fr(ρ σ:aT G)(w w1:F):Prop where
 le:ρ.le σ
 os:w1.os=w.os
 output:w1.output=w.output
 tape:w1.tape=w.tape
 drawn:w.drawn<=w1.drawn
 size:w.heap.size<=w1.heap.size
 keep:∀b',(∀b,σ.f b≠I b')->b'<w.heap.size->w1.heap[b']? =w.heap[b']?
 fresh:∀b b',σ.f b=I b'->ρ.f b=I b'\/w.heap.size<=b'
 all:∀b',w.heap.size<=b'->b'<w1.heap.size->∃b,σ.f b=I b'
def Fr.refl(ρ:aT G)(w:F):Fr ρ ρ w w:=⟨aT.le.refl _,rfl,rfl,rfl,T9 _,T9 _,λ_ _ _=>rfl,λ_ _ a=>.inl a,λ_ c b=>absurd b (by omega)⟩
def Fr.trans{ρ σ k:aT G}{w g j:F}(h:Fr ρ σ w g)(a:Fr σ k g j):Fr ρ k w j:=
 ⟨h.le.trans a.le,a.os.trans h.os,a.output.trans h.output,a.tape.trans h.tape,Uz h.drawn a.drawn,Uz h.size a.size,
  λb d i=>(a.keep b d (Ue i h.size)).trans (h.keep b (λc l=>d c (a.le _ _ l)) i),
  λc b d=>by
   rcases a.fresh c b d with e|e
   ·exact h.fresh c b e
   ·exact .inr (Uz h.size e),
  λb e m=>by
   rcases Vz b g.heap.size with f|f
   ·obtain⟨c,d⟩:=h.all b e f;exact⟨c,a.le _ _ d⟩
   ·exact a.all b f m⟩
def Result.drawn{α:Type}:XX α->Nat
 | .ok _ a=>a.drawn
 | .halt _ a=>a.drawn
def I3{α:Type}(a:Ask α):∀w:F,w.drawn<=(w.ask a).2.drawn:=by
 induction a with
 |done a=>intro w;exact T9 _
 |ask e d c b=>
  intro w;unfold World.ask;dsimp only
  split
  ·exact b _ w
  ·exact Uz (Nat.le_succ _) (b _ {w with drawn:=w.drawn+1})
def KN(w:F)(c:Sys):w.drawn<=(w.sys c).2.drawn:=by
 have a:=I3 (Kernel.perform c w.os) w;unfold World.sys;generalize w.ask (Kernel.perform c w.os)=d at a;obtain⟨⟨b,e⟩,f⟩:=d;cases b<;>first|exact a|exact T9 _
def Hh{P:Ug}{w c:F}{a k:UK}{u:Ui}{v:U}{b:Bool}{l:List UK}(h:w.viewStore P a u k v b= .ok (c,l)):c.drawn=w.drawn:=by
 unfold World.viewStore at h;simp only[bind,Except.bind,pure,Except.pure,throw,throwThe,YG] at h
 repeat' split at h
 all_goals first
  |(cases h;rfl)
  |(cases h;done)
  |(simp at h;done)
def Jw{P:Ug}{w c:F}{a:UK}{v:U}{b:Bool}{l:List UK}(h:w.farStore P a v b= .ok (c,l)):c.drawn=w.drawn:=by
 unfold XC at h
 split at h
 ·split at h
  ·rename_i d;cases h;exact Hh d
  ·cases h
 ·cases h
def Kn{α:Type}(P:Ug)(s:Wv α):∀(w:F) (es:Array Vn),w.drawn<=Result.drawn (s.runT P w es).1:=by
 induction s with
 |pure c=>intro w es;exact T9 _
 |load m c b a=>
  intro w es;simp only[U5]
  split
  ·exact a _ w _
  ·split
   ·exact a _ w _
   ·exact T9 _
 |store m c v b a=>
  intro w es;have k:∀d:F,d.drawn=w.drawn->w.drawn<=Result.drawn (b.runT P d es).1:=λd h=>by rw[<-h];exact a d _
  cases v<;>simp only[U5]<;>first|exact T9 _|skip
  all_goals
   split
   ·split
    ·exact T9 _
    ·exact a (w.setCell c _) _
   ·split
    ·rename_i i;have:=Jw i;rw[<-this];exact a _ _
    ·exact T9 _
 |new e b a=>intro w es;simp only[U5];exact a _ {w with heap:=w.heap.push e} _
 |shape f b a=>intro w es;simp only[U5];exact a _ w _
 |freeze c j b a=>intro w es;simp only[U5];exact Uz (by unfold VR;split<;>exact T9 _) (a (w.freeze c j) _)
 |frozen c b a=>intro w es;simp only[U5];exact a _ w _
 |getObj f b a=>intro w es;simp only[U5];split<;>first|exact T9 _|exact a _ w _
 |setObj f e b a=>intro w es;simp only[U5];split<;>first|exact T9 _|exact a {w with heap:=w.heap.setIfInBounds f e} _
 |choose l b a=>
  intro w es;simp only[U5]
  split
  ·exact a _ w _
  ·exact Uz (Nat.le_succ _) (a _ {w with drawn:=w.drawn+1} _)
 |sys g b a=>intro w es;simp only[U5];exact Uz (KN w g) (a _ (w.sys g).2 _)
 |program b a=>intro w es;simp only[U5];exact a _ w _
 |mark m b a=>intro w es;simp only[U5];exact a w _
 |halt h=>intro w es;exact T9 _
def jP (es:Array Vn):Prop:=∀a∈es,a.loc≠.output
def jP.push{es:Array Vn}(h:jP es){e:Vn}(b:e.loc≠.output):jP (es.push e):=λc a=>by
 rcases Array.mem_push.1 a with a|rfl
 ·exact h c a
 ·exact b
def fW {α β:Type}(A:aT G->α->β->Prop)(ρ:aT G)(t:Nat)(w':F)(v:XX α×Array Vn)(w:XX β×Array Vn):Prop:=∀e:XX α×Array Vn->XX β×Array Vn->Prop,(∀{b:aT G} {g:Nat} {f:α} {j:β} {a d:F} {c h:Array Vn} (p:A b f j) (s:eL b g a d) (r:Fr ρ b w' d) (q:∀l∈h,ku b l) (n:a.drawn+g=t) (m:jP c),e (.ok f a,c) (.ok j d,h))->(∀{b:aT G} {g:Nat} {i k:Halt} {a d:F} {c h:Array Vn} (u:lG b i k) (s:eL b g a d) (r:Fr ρ b w' d) (q:∀l∈h,ku b l) (n:a.drawn+g=t) (m:jP c),e (.halt i a,c) (.halt k d,h))->(∀{b:aT G} {f:α} {j:β} {a:F} {c:Array Vn} {o:XX β×Array Vn} (p:A b f j) (n:t<a.drawn) (m:jP c),e (.ok f a,c) o)->(∀{b:aT G} {i k:Halt} {a:F} {c:Array Vn} {o:XX β×Array Vn} (u:lG b i k) (n:t<a.drawn) (m:jP c),e (.halt i a,c) o)->e v w
def fW.ok{α β:Type}{A:aT G->α->β->Prop}{ρ:aT G}{t:Nat}{w':F}{σ:aT G}{b1:Nat}{a:α}{b:β}{c w1':F}{es d:Array Vn}(g:A σ a b)(l:eL σ b1 c w1')(i:Fr ρ σ w' w1')(h:∀e∈d,ku σ e)(k:c.drawn+b1=t)(j:jP es):fW A ρ t w' (.ok a c,es) (.ok b w1',d):=λm f n o p=>f g l i h k j
def fW.halt{α β:Type}{A:aT G->α->β->Prop}{ρ:aT G}{t:Nat}{w':F}{σ:aT G}{b1:Nat}{x c:Halt}{a w1':F}{es b:Array Vn}(k:lG σ x c)(j:eL σ b1 a w1')(g:Fr ρ σ w' w1')(f:∀e∈b,ku σ e)(i:a.drawn+b1=t)(h:jP es):fW A ρ t w' (.halt x a,es) (.halt c w1',b):=λl m d n o=>d k j g f i h
def fW.over{α β:Type}{A:aT G->α->β->Prop}{ρ:aT G}{t:Nat}{w':F}{σ:aT G}{a:α}{b:β}{c:F}{es:Array Vn}{r:XX β×Array Vn}(e:A σ a b)(g:t<c.drawn)(f:jP es):fW A ρ t w' (.ok a c,es) r:=λh i j d k=>d e g f
def fW.oe{α β:Type}{A:aT G->α->β->Prop}{ρ:aT G}{t:Nat}{w':F}{σ:aT G}{x f:Halt}{a:F}{es:Array Vn}{r:XX β×Array Vn}(e:lG σ x f)(d:t<a.drawn)(c:jP es):fW A ρ t w' (.halt x a,es) r:=λg h i j b=>b e d c
def fW.ind{α β:Type}{A:aT G->α->β->Prop}{ρ:aT G}{t:Nat}{w':F}{o:∀(m:XX α×Array Vn) (n:XX β×Array Vn),fW A ρ t w' m n->Prop}(ok:∀{σ:aT G} {b1:Nat} {a:α} {b:β} {f w1':F} {es p:Array Vn} (g:A σ a b) (k:eL σ b1 f w1') (j:Fr ρ σ w' w1') (i:∀e∈p,ku σ e) (d:f.drawn+b1=t) (c:jP es),o (.ok a f,es) (.ok b w1',p) (fW.ok g k j i d c))(halt:∀{σ:aT G} {b1:Nat} {x q:Halt} {f w1':F} {es p:Array Vn} (l:lG σ x q) (k:eL σ b1 f w1') (j:Fr ρ σ w' w1') (i:∀e∈p,ku σ e) (d:f.drawn+b1=t) (c:jP es),o (.halt x f,es) (.halt q w1',p) (fW.halt l k j i d c))(over:∀{σ:aT G} {a:α} {b:β} {f:F} {es:Array Vn} {r:XX β×Array Vn} (g:A σ a b) (d:t<f.drawn) (c:jP es),o (.ok a f,es) r (fW.over g d c))(oe:∀{σ:aT G} {x q:Halt} {f:F} {es:Array Vn} {r:XX β×Array Vn} (l:lG σ x q) (d:t<f.drawn) (c:jP es),o (.halt x f,es) r (fW.oe l d c)){m:XX α×Array Vn}{n:XX β×Array Vn}(h:fW A ρ t w' m n):o m n h:=(h (λm n=>fW A ρ t w' m n/\∀h,o m n h) (λg k j i d c=>⟨fW.ok g k j i d c,λ_=>ok g k j i d c⟩) (λl k j i d c=>⟨fW.halt l k j i d c,λ_=>halt l k j i d c⟩) (λg d c=>⟨fW.over g d c,λ_=>over g d c⟩) (λl d c=>⟨fW.oe l d c,λ_=>oe l d c⟩)).2 h
def fW.after{α β:Type}{A:aT G->α->β->Prop}{ρ σ:aT G}{t:Nat}{w' w1':F}{r:XX α×Array Vn}{r':XX β×Array Vn}(i:Fr ρ σ w' w1')(h:fW A σ t w1' r r'):fW A ρ t w' r r':=by
 cases h using fW.ind with
 |ok c f e d b a=>exact .ok c f (i.trans e) d b a
 |halt g f e d b a=>exact .halt g f (i.trans e) d b a
 |over c b a=>exact .over c b a
 |oe g b a=>exact .oe g b a
def fW.left{α β:Type}{A:aT G->α->β->Prop}{ρ l:aT G}{t e:Nat}{w' k:F}{r:XX α×Array Vn}{r' j:XX β×Array Vn}(h:fW A ρ t w' r r')(b:e<Result.drawn r.1):fW A l e k r j:=by
 cases h using fW.ind with
 |ok c i g f _ a=>exact .over c b a
 |halt d i g f _ a=>exact .oe d b a
 |over c _ a=>exact .over c b a
 |oe d _ a=>exact .oe d b a
def eL.lt{ρ:aT G}{w w':F}(h:eL ρ bu w w'){b b':Nat}(d:ρ.f b=I b'):b<w.heap.size/\b'<w'.heap.size:=by
 obtain⟨e,f,a,c,-⟩:=h.at_ b b' d;exact⟨(Uc.1 a).1,(Uc.1 c).1⟩
structure Qv(w W:F)(b:Nat)(o:Xx):Prop where
 at_:W.heap[b]? =I o
 other:∀c,c≠b->W.heap[c]? =w.heap[c]?
 size:W.heap.size=w.heap.size
 tape:W.tape=w.tape
 drawn:W.drawn=w.drawn
 os:W.os=w.os
 output:W.output=w.output
def eL.upd{ρ:aT G}{w w' W W':F}(h:eL ρ bu w w'){b b':Nat}(i:ρ.f b=I b'){o o':Xx}(q:dL ρ o o')(c:Qv w W b o)(d:Qv w' W' b' o'):eL ρ bu W W':=by
 refine⟨by rw[c.size];exact h.gl,by rw[d.size];exact h.gr,λe a f=>?_,λr u p=>by rw[c.tape,c.drawn,d.tape,d.drawn];exact h.tape r u p⟩;by_cases g:e=b
 ·subst g;have:a=b':=by rw[i] at f;cases f;rfl
  subst this;exact⟨o,o',c.at_,d.at_,q⟩
 ·have j:a≠b':=λk=>g (ρ.inj e b a f (by rw[k];exact i));obtain⟨s,t,l,m,n⟩:=h.at_ e a f;exact⟨s,t,(c.other e g).trans l,(d.other a j).trans m,n⟩
def Qv.fr{ρ:aT G}{w' W':F}{b b':Nat}(e:ρ.f b=I b'){o':Xx}(h:Qv w' W' b' o'):Fr ρ ρ w' W':=
 ⟨aT.le.refl _,h.os,h.output,h.tape,by rw[h.drawn];exact T9 _,by rw[h.size];exact T9 _,λa f _=>h.other a (λc=>f b (by rw[c];exact e)),λ_ _ h=>.inl h,λ_ g d=>absurd d (by rw[h.size];omega)⟩
def wm{w:F}{a:UK}{c:Array U}{t:Ui}{b:Nat×Nat}(h:w.heap[a.block]? =I (.cells c t b))(v:U):Qv w (w.setCell a v) a.block (.cells (if a.spot.isSome then c else c.setIfInBounds a.off v) t b):=by
 refine⟨?_,λc d=>?_,by simp[Yb],rfl,rfl,rfl,rfl⟩
 ·simp[Yb,VW,h]
 ·simp[Yb,VW,Ne.symm d]
def zM{w:F}{a:UK}{n:Nat}(b:n≠0){c:Array U}{t:Ui}{d:Nat×Nat}(h:w.heap[a.block]? =I (.cells c t d)):Qv w (w.freeze a n) a.block (.cells c t (if d.1==d.2 then(a.off,a.off+n) else(min d.1 a.off,max d.2 (a.off+n)))):=by
 obtain⟨g,f⟩:=d;refine⟨?_,λc e=>?_,by simp[VR,b],by simp[VR,b],by simp[VR,b],by simp[VR,b],by simp[VR,b]⟩
 ·simp[VR,b,VW,h]
 ·simp[VR,b,VW,Ne.symm e]
def iR{w:F}{a:UK}{n:Nat}(b:n≠0){o:Xx}(h:w.heap[a.block]? =I o)(f:∀c t d,o≠.cells c t d):Qv w (w.freeze a n) a.block o:=by
 refine⟨?_,λc e=>?_,by simp[VR,b],by simp[VR,b],by simp[VR,b],by simp[VR,b],by simp[VR,b]⟩
 ·simp only[VR,b,if_false,VW,h];cases o<;>first|rfl|exact absurd rfl (f _ _ _)
 ·simp[VR,b,VW,Ne.symm e]
def zN{w:F}{r:Nat}(o:Xx)(h:r<w.heap.size):Qv w {w with heap:=w.heap.setIfInBounds r o} r o:=
 ⟨by simp[UQ,h],λb a=>by simp[Array.getElem?_setIfInBounds_ne (Ne.symm a)],by simp,rfl,rfl,rfl,rfl⟩
def n5 {ρ:aT G} {w w':F} (h:eL ρ bu w w') {a a':UK} (n:cO ρ a a'):(w.cell? a=K/\w'.cell? a'=K/\(∀P b,w.farLoad P a b= .error (.stuck "load: no such cell"))/\(∀P b,w'.farLoad P a' b= .error (.stuck "load: no such cell"))/\(∀P v b,w.farStore P a v b= .error (.stuck "store: no such cell"))/\(∀P v b,w'.farStore P a' v b= .error (.stuck "store: no such cell")))\/
 ∃c i t j v k,w.heap[a.block]? =I (.cells c t j)/\w'.heap[a'.block]? =I (.cells i t j)/\bf ρ c i/\w.cell? a=I v/\w'.cell? a'=I k/\ax ρ v k:=by
 obtain⟨s,u,d,e,r⟩:=h.at_ _ _ n.1;have o:=n.2.1;have f:=n.2.2;cases r using dL.ind with
 |cells p t j=>
  rename_i c i;cases g:a.spot with
  |some x=>
   rw[g] at f;exact .inl ⟨by simp[Ut,d,g],by simp[Ut,e,<-f],λP b=>by simp[Ya,WW,d],λP b=>by simp[Ya,WW,e],λP v b=>by simp[XC,WW,d],λP v b=>by simp[XC,WW,e]⟩
  |none=>
   rw[g] at f;rcases p.get a.off with⟨l,m⟩|⟨v,k,l,m,q⟩
   ·exact .inl ⟨by simp[Ut,d,g,l],by simp[Ut,e,<-f,<-o,m],λP b=>by simp[Ya,WW,d],λP b=>by simp[Ya,WW,e],λP v b=>by simp[XC,WW,d],λP v b=>by simp[XC,WW,e]⟩
   ·exact .inr ⟨c,i,t,j,v,k,d,e,p,by simp[Ut,d,g,l],by simp[Ut,e,<-f,<-o,m],q⟩
 |_=>exact .inl ⟨by simp[Ut,d],by simp[Ut,e],λP b=>by simp[Ya,WW,d],λP b=>by simp[Ya,WW,e],λP v b=>by simp[XC,WW,d],λP v b=>by simp[XC,WW,e]⟩
def ym{ρ:aT G}{w w':F}(h:eL ρ bu w w'){a a':UK}(d:cO ρ a a'):w.frozen? a=w'.frozen? a':=by
 obtain⟨j,k,b,c,f⟩:=h.at_ _ _ d.1;have e:=d.2.1;cases f using dL.ind with
 |cells i l g=>simp[UR,b,c,e]
 |_=>simp[UR,b,c]
def KC{ρ:aT G}{w w':F}(h:eL ρ bu w w'){r r':Nat}(e:ρ.f r=I r'):w.shape? r=w'.shape? r':=by
 obtain⟨g,i,a,b,c⟩:=h.at_ _ _ e;cases c using dL.ind with
 |cells d j f=>simp[World.shape?,a,b,d.1]
 |_=>simp[World.shape?,a,b]
def eL.fresh{ρ:aT G}{w w':F}(h:eL ρ bu w w'):QR ρ w.heap.size w'.heap.size:=by
 refine⟨?_,λc a=>?_,h.gl,h.gr⟩
 ·cases b:ρ.f w.heap.size with
  |none=>rfl
  |some d=>have:=(h.lt b).1;omega
 ·have:=(h.lt a).2;omega
def eL.new{ρ:aT G}{w w':F}(h:eL ρ bu w w'){o o':Xx}(j:dL ρ o o'):eL (ρ.ext w.heap.size w'.heap.size h.fresh) bu {w with heap:=w.heap.push o} {w' with heap:=w'.heap.push o'}/\Fr ρ (ρ.ext w.heap.size w'.heap.size h.fresh) w' {w' with heap:=w'.heap.push o'}:=by
 have e:=aT.Me h.fresh;refine⟨⟨by have:=h.gl;simp;omega,by have:=h.gr;simp;omega,λf b a=>?_,h.tape⟩,⟨e,rfl,rfl,rfl,T9 _,by simp,λb a k=>by simp[VD,Nat.ne_of_lt k],λf b a=>?_,λb g d=>⟨w.heap.size,by
  have c:b=w'.heap.size:=by simp at d;omega
  rw[c];exact aT.xm _ _ _ _⟩⟩⟩
 ·unfold aT.ext at a;dsimp only at a
  split at a
  ·rename_i c;cases a;subst c;exact⟨o,o',by simp,by simp,j.mono e⟩
  ·obtain⟨l,m,g,d,i⟩:=h.at_ f b a;have:=h.lt a;exact⟨l,m,by simp[VD,Nat.ne_of_lt this.1];simpa using g,by simp[VD,Nat.ne_of_lt this.2];simpa using d,i.mono e⟩
 ·unfold aT.ext at a;dsimp only at a
  split at a
  ·cases a;exact .inr (T9 _)
  ·exact .inl a
def mH{σ:aT G}{es:Array Vn}(h:∀e∈es,ku σ e){e:Vn}(b:ku σ e):∀x∈es.push e,ku σ x:=λx a=>by
 rcases Array.mem_push.1 a with a|rfl
 ·exact h x a
 ·exact b
def aq.runs{P P':Ug}{α β:Type}{A:aT G->α->β->Prop}{ρ:aT G}{s:Wv α}{s':Wv β}(h:aq P P' A ρ s s'):∀(w w':F) (es g:Array Vn) (bu:Nat),eL ρ bu w w'->(∀e∈g,ku ρ e)->jP es->fW A ρ (w.drawn+bu) w' (s.runT P w es) (s'.runT P' w' g):=by
 induction h using aq.ind with
 |pure h=>intro w w' es g bu a b c;exact .ok h a (Fr.refl _ _) b Y c
 |load i _ d=>
  intro w w' es g bu a b c;rcases n5 a i with⟨j,f,o,R,-⟩|⟨D,O,r,t,v,n,-,-,-,j,f,o⟩
  ·simp only[U5,j,f,o,R];exact .halt (.same _ Y) a (Fr.refl _ _) b Y c
  ·simp only[U5,j,f];exact d v n o w w' _ _ _ a (mH b ⟨_,i.1⟩) (c.push (by simp))
 |store i an _ d=>
  intro w w' es g bu a b c;rename_i ρ m k y v n q C _;have V:(∀x,v≠.agg x)->(∀x,v≠.tuple x)->(∀x,n≠.agg x)->(∀x,n≠.tuple x)->fW A ρ (w.drawn+bu) w' ((Sem.store m k v q).runT P w es) ((Sem.store m y n C).runT P' w' g):=by
   intro a2 a3 a4 a5;have ae:=ym a i;rcases n5 a i with⟨j,f,-,-,o,R⟩|⟨D,O,r,t,ba,bb,ap,ar,ab,j,f,o⟩
   ·have I:(Sem.store m k v q).runT P w es=(.halt (.stuck "store: no such cell") w,es):=by cases v<;>first|exact absurd Y (a2 _)|exact absurd Y (a3 _)|simp only[U5,j,o]
    have J:(Sem.store m y n C).runT P' w' g=(.halt (.stuck "store: no such cell") w',g):=by cases n<;>first|exact absurd Y (a4 _)|exact absurd Y (a5 _)|simp only[U5,f,R]
    rw[I,J];exact .halt (.same _ Y) a (Fr.refl _ _) b Y c
   ·cases ao:w.frozen? k with
    |true=>
     rw[ao] at ae;have I:(Sem.store m k v q).runT P w es=(.halt (.unsupported (.unsafePointer "a write to bytes that a string shares")) w,es):=by cases v<;>simp_all [U5]
     have J:(Sem.store m y n C).runT P' w' g=(.halt (.unsupported (.unsafePointer "a write to bytes that a string shares")) w',g):=by cases n<;>simp_all [U5]
     rw[I,J];exact .halt (.same _ Y) a (Fr.refl _ _) b Y c
    |false=>
     rw[ao] at ae;have I:(Sem.store m k v q).runT P w es=q.runT P (w.setCell k v) (es.push ⟨.cell k,Z,m == .atomic⟩):=by cases v<;>simp_all [U5]
     have J:(Sem.store m y n C).runT P' w' g=C.runT P' (w'.setCell y n) (g.push ⟨.cell y,Z,m == .atomic⟩):=by cases n<;>simp_all [U5]
     rw[I,J];have L:dL ρ (.cells (if k.spot.isSome then D else D.setIfInBounds k.off v) r t) (.cells (if y.spot.isSome then O else O.setIfInBounds y.off n) r t):=by
      rw[<-i.2.1,<-i.2.2];refine .cells ?_ r t
      split
      ·exact ab
      ·exact ab.set an _
     have z:=wm ar n;exact fW.after (z.fr i.1) (d _ _ _ _ _ (a.upd i.1 L (wm ap v) z) (mH b ⟨_,i.1⟩) (c.push (by simp)))
  cases an using ax.ind with
  |agg az a0=>simp only[U5];exact .halt (.same _ Y) a (Fr.refl _ _) b Y c
  |tuple az a0=>simp only[U5];exact .halt (.same _ Y) a (Fr.refl _ _) b Y c
  |_=>exact V (by simp) (by simp) (by simp) (by simp)
 |new T _ d=>
  intro w w' es g bu a b c;obtain⟨j,f⟩:=a.new T;simp only[U5];exact fW.after f (d _ _ a.fresh _ _ _ _ _ j (λe aw=>(b e aw).mono f.le) c)
 |shape l _ d=>
  intro w w' es g bu a b c;simp only[U5];rw[KC a l];exact d _ w w' _ _ _ a b c
 |freeze i _ d=>
  intro w w' es g bu a b c;rename_i ρ k y H q C _;simp only[U5];by_cases p:H=0
  ·subst p;simp only[VR,if_pos];exact d w w' _ _ _ a b c
  ·obtain⟨X,aa,j,f,o⟩:=a.at_ _ _ i.1;have av:w.drawn=(w.freeze k H).drawn:=by unfold VR;split<;>rfl
   rw[av];cases o using dL.ind with
   |cells S r t=>
    have z:=zM (n:=H) p f;have L:dL ρ _ _:=.cells S r (if t.1==t.2 then(k.off,k.off+H) else(min t.1 k.off,max t.2 (k.off+H)));have am:=zM (n:=H) p j;rw[i.2.1] at am L;exact fW.after (z.fr i.1) (d _ _ _ _ _ (a.upd i.1 L am z) b c)
   |map U K a1=>exact fW.after ((iR p f (λ_ _ _ e=>by cases e)).fr i.1) (d _ _ _ _ _ (a.upd i.1 (.map U K a1) (iR p j (λ_ _ _ e=>by cases e)) (iR p f (λ_ _ _ e=>by cases e))) b c)
   |chan D E Q s N r=>exact fW.after ((iR p f (λ_ _ _ e=>by cases e)).fr i.1) (d _ _ _ _ _ (a.upd i.1 (.chan D E Q s N r) (iR p j (λ_ _ _ e=>by cases e)) (iR p f (λ_ _ _ e=>by cases e))) b c)
   |number E W=>exact fW.after ((iR p f (λ_ _ _ e=>by cases e)).fr i.1) (d _ _ _ _ _ (a.upd i.1 (.number E W) (iR p j (λ_ _ _ e=>by cases e)) (iR p f (λ_ _ _ e=>by cases e))) b c)
 |frozen i _ d=>
  intro w w' es g bu a b c;simp only[U5];rw[ym a i];exact d _ w w' _ _ _ a b c
 |getObj l _ d=>
  intro w w' es g bu a b c;obtain⟨X,aa,j,f,o⟩:=a.at_ _ _ l;cases o using dL.ind with
  |cells S r t=>
   simp only[U5,j,f];exact .halt (.same _ Y) a (Fr.refl _ _) b Y c
  |map U K q=>
   simp only[U5,j,f];exact d _ _ (.map U K q) w w' _ _ _ a (mH b ⟨_,l⟩) (c.push (by simp))
  |chan D E Q s N r=>
   simp only[U5,j,f];exact d _ _ (.chan D E Q s N r) w w' _ _ _ a (mH b ⟨_,l⟩) (c.push (by simp))
  |number E W=>
   simp only[U5,j,f];exact d _ _ (.number E W) w w' _ _ _ a (mH b ⟨_,l⟩) (c.push (by simp))
 |setObj l T _ d=>
  intro w w' es g bu a b c;rename_i ρ N a9 X aa q C _;obtain⟨a7,a8,j,f,o⟩:=a.at_ _ _ l;cases o using dL.ind with
  |cells S r t=>
   simp only[U5,j,f];exact .halt (.same _ Y) a (Fr.refl _ _) b Y c
  |_=>
   simp only[U5,j,f];have al:=a.lt l;have z:=zN (w:=w') aa al.2;exact fW.after (z.fr l) (d _ _ _ _ _ (a.upd l T (zN X al.1) z) (mH b ⟨_,l⟩) (c.push (by simp)))
 |choose _ d=>
  intro w w' es g bu a b c;rename_i ρ u q C _;simp only[U5]
  split
  ·exact d 0 w w' _ _ _ a b c
  ·cases bu with
   |zero=>
    have K:=Kn P (q (u.cut (w.tape w.drawn u))) {w with drawn:=w.drawn+1} es;have l:=d (u.cut (w.tape w.drawn u)) {w with drawn:=w.drawn+1} {w' with tape:=λM x=>w.tape (w.drawn+1+(M-w'.drawn)) x} es g (Result.drawn ((q (u.cut (w.tape w.drawn u))).runT P {w with drawn:=w.drawn+1} es).1) ⟨a.gl,a.gr,a.at_,λM x _=>by simp⟩ b c;exact l.left K
   |succ bu=>
    have ad:=a.tape 0 u (by omega);simp only[Nat.add_zero] at ad;rw[ad];have V:=d (u.cut (w'.tape w'.drawn u)) {w with drawn:=w.drawn+1} {w' with drawn:=w'.drawn+1} es g bu ⟨a.gl,a.gr,a.at_,λM u a6=>by
     have:=a.tape (1+M) u (by omega);simpa [U6] using this⟩ b c
    have e:w.drawn+(bu+1)=w.drawn+1+bu:=by omega
    rw[e];exact fW.after (σ:=ρ) (w1':={w' with drawn:=w'.drawn+1}) ⟨aT.le.refl _,rfl,rfl,rfl,by simp,T9 _,λ_ _ _=>rfl,λ_ _ h=>.inl h,λ_ j f=>absurd f (by simp;omega)⟩ V
 |program _ d=>intro w w' es g bu a b c;simp only[U5];exact d w w' _ _ _ a b c
 |room _ d=>intro w w' es g bu a b c;simp only[U5];exact d w w' _ _ _ a (mH b trivial) (c.push (by simp))
 |halt h=>intro w w' es g bu a b c;exact .halt h a (Fr.refl _ _) b Y c
end
section
variable {G:mo}
structure wG(P P':Ug):Prop where
 info:∀t,P'.info? t=P.info? t
 tK:∀t,P'.underlying t=P.underlying t
 rt:P'.rt=P.rt
 zero:∀t i v,P.info? t=I i->i.zero=I v->∀(G:mo) (ρ:aT G),ax ρ v v
def jd (ρ:aT G)(e:List U)(f:List U):Prop:=∀a:List U->List U->Prop,(a [] [])->(∀{v d:U} {b c:List U} (g:ax ρ v d) (h:a b c),a (v::b) (d::c))->a e f
def jd.nil{ρ:aT G}:jd ρ [] []:=λb a c=>a
def jd.cons{ρ:aT G}{v c:U}{l b:List U}(h:ax ρ v c)(f:jd ρ l b):jd ρ (v::l) (c::b):=λd e a=>a h (f d e a)
def jd.ind{ρ:aT G}{d:∀(a:List U) (b:List U),jd ρ a b->Prop}(nil:d _ _ (jd.nil))(cons:∀{v f:U} {l e:List U} (h:ax ρ v f) (c:jd ρ l e),(d _ _ c)->d _ _ (jd.cons h c)){a:List U}{b:List U}(h:jd ρ a b):d a b h:=(h (λa b=>jd ρ a b/\∀h,d a b h) (⟨jd.nil,λ_=>nil⟩) (λh c=>⟨jd.cons h c.1,λ_=>cons h c.1 (c.2 _)⟩)).2 h
theorem Io{ρ:aT G}:∀(l a:List U),l.length=a.length->(∀i (h:i<l.length) (e:i<a.length),ax ρ l[i] a[i])->jd ρ l a
 | [],[],_,_=>.nil
 | [],_::_,h,_=>by simp at h
 |_::_,[],h,_=>by simp at h
 |v::l,f::a,h,b=>.cons (b 0 (by simp) (by simp)) (Io l a (by simpa using h) (λi c d=>b (i+1) (by simpa using c) (by simpa using d)))
def bf.toList{ρ:aT G}{x a:Array U}(h:bf ρ x a):jd ρ x.toList a.toList:=
 Io _ _ (by simpa using h.1) (λd b c=>by simpa using h.2 d (by simpa using b) (by simpa using c))
def jd.toArray{ρ:aT G}{l c:List U}(h:jd ρ l c):bf ρ l.toArray c.toArray:=by
 induction h using jd.ind with
 |nil=>exact bf.nil _
 |cons f _ b=>
  refine⟨by simpa using b.1,λa d e=>?_⟩;cases a with
  |zero=>exact f
  |succ a=>exact b.2 a (by simpa using d) (by simpa using e)
def iZ {α:Type}(_:aT G)(a b:α):Prop:=a=b
section
variable {P P':Ug}{α β γ δ:Type}{A:aT G->α->β->Prop}{B:aT G->γ->δ->Prop}{ρ:aT G}
def aq.bindM{s:Wv α}{s':Wv β}{f:α->Wv γ}{f':β->Wv δ}(h:aq P P' A ρ s s')(c:∀ σ a b,ρ.le σ->A σ a b->aq P P' B σ (f a) (f' b)):aq P P' B ρ (s >>= f) (s' >>= f'):=h.bind c
def aq.aC{a:α}{b:β}(h:A ρ a b):aq P P' A ρ (Pure.pure a) (Pure.pure b):=.pure h
def aq.stuck{w:String}:aq P P' A ρ (Go.stuck w) (Go.stuck w):=.halt (.same _ Y)
def aq.dB{u:Unsupported}(a:pP (.unsupported u)=Z:=by rfl):aq P P' A ρ (Go.unsupported u) (Go.unsupported u):=.halt (.same _ a)
def aq.panics{v a:U}(h:ax ρ v a):aq P P' A ρ (Go.goPanic v) (Go.goPanic a):=.halt (.panic h)
def aq.asks{k:Ug->Wv α}{k':Ug->Wv β}(h:aq P P' A ρ (k P) (k' P')):aq P P' A ρ (Go.program >>= k) (Go.program >>= k'):=.program h
def fS(S:wG P P')(t:Ui):aq P P' (λ_ (i a:TypeInfo)=>i=a/\P.info? t=I i) ρ (XE t) (XE t):=by
 unfold XE;refine .asks ?_;rw[S.info];cases b:P.info? t with
 |none=>exact .stuck
 |some i=>exact .aC ⟨rfl,rfl⟩
def aU(S:wG P P')(t:Ui):aq P P' (λ_ (i a:TypeDesc)=>i=a/\P.underlying t=I i) ρ (Xs t) (Xs t):=by
 unfold Xs;refine .asks ?_;rw[S.tK];cases b:P.underlying t with
 |none=>exact .stuck
 |some i=>exact .aC ⟨rfl,rfl⟩
def de(S:wG P P')(t:Ui):aq P P' (iZ (α:=Nat)) ρ (sizeOf t) (sizeOf t):=by
 unfold sizeOf;exact(fS S t).bindM (λd b c _ a=>.aC (by rw[a.1];rfl))
def jM(S:wG P P')(t:Ui):aq P P' ax ρ (Wo t) (Wo t):=by
 unfold Wo;refine(fS S t).bindM (λe a f _ b=>?_);obtain⟨rfl,c⟩:=b;cases d:a.zero with
 |none=>exact .dB
 |some v=>exact .aC (S.zero t a v c d _ e)
def Ix(S:wG P P')(t:Ui):aq P P' (iZ (α:=Bool)) ρ (isAgg t) (isAgg t):=by
 unfold isAgg;refine(aU S t).bindM (λe b c _ a=>?_);obtain⟨rfl,d⟩:=a
 split<;>exact .aC Y
theorem pg:∀(n:Nat) {ρ:aT G} {a a':UK} (i:Nat) {b c:Array U},cO ρ a a'->bf ρ b c->aq P P' bf ρ (loadCellsFrom a i n b) (loadCellsFrom a' i n c)
 |0,ρ,a,a',i,b,c,e,d=>.aC d
 |n+1,ρ,a,a',i,b,c,e,d=>.load (e.add i) (λv g f=>pg n (i+1) e (d.push f))
def vO{a a':UK}(n:Nat)(b:cO ρ a a'):aq P P' bf ρ (loadCells a n) (loadCells a' n):=pg n 0 b (bf.nil _)
theorem j4:∀(vs d:List U) {ρ:aT G} {a a':UK} (i:Nat),cO ρ a a'->jd ρ vs d->aq P P' (iZ (α:=Unit)) ρ (storeCells a vs i) (storeCells a' d i)
 | [],[],ρ,a,a',i,c,b=>.aC Y
 | [],_::_,ρ,a,a',i,c,b=>by cases b using jd.ind
 |_::_,[],ρ,a,a',i,c,b=>by cases b using jd.ind
 |v::g,j::h,ρ,a,a',i,c,b=>by
  cases b using jd.ind with
  |cons f e=>exact .store (c.add i) f (j4 g h (i+1) c e)
def A7(S:wG P P'){a a':UK}(t:Ui)(d:cO ρ a a'):aq P P' ax ρ (loadVar t a) (loadVar t a'):=by
 unfold loadVar;refine(Ix S t).bindM (λk c f e b=>?_);cases b;cases c
 ·exact .load (d.mono e) (λv j h=>.pure h)
 ·refine(de S t).bindM (λi c f g b=>?_);cases b;exact(vO _ (d.mono (e.trans g))).bindM (λi c f _ b=>.aC (.agg b.1 b.2))
def Gs(S:wG P P'){a a':UK}(t:Ui){v g:U}(e:cO ρ a a')(h:ax ρ v g):aq P P' (iZ (α:=Unit)) ρ (storeVar t a v) (storeVar t a' g):=by
 unfold storeVar;refine(de S t).bindM (λk i j b d=>?_);cases d;have c:=h.cells;rw[<-c.1]
 split
 ·exact aq.stuck.bindM (A:=iZ (α:=PUnit)) (λl i j f d=>j4 _ _ 0 (e.mono (b.trans f)) (c.mono (b.trans f)).toList)
 ·exact j4 _ _ 0 (e.mono b) (c.mono b).toList
def qi(t:Ui){c a:Array U}(h:bf ρ c a):aq P P' cO ρ (newRow t c) (newRow t a):=by
 unfold newRow;exact .new (.cells h t (0,0)) (λd e b=>.pure ⟨aT.xm _ _ _ b,rfl,rfl⟩)
def Er(t:Ui){v a:U}(h:ax ρ v a):aq P P' cO ρ (newVar t v) (newVar t a):=qi t h.cells
def lJ(S:wG P P')(t:Ui){c f:Array U}(h:bf ρ c f)(off:Nat):aq P P' ax ρ (part t c off) (part t f off):=by
 unfold part;refine(Ix S t).bindM (λm e k g d=>?_);cases d;cases e
 ·rcases(h.mono g).get off with⟨a,b⟩|⟨v,l,a,b,i⟩
  ·simp only[a,b];exact .stuck
  ·simp only[a,b];exact .aC i
 ·refine(de S t).bindM (λn e k j d=>?_);cases d;have:=(h.mono (g.trans j)).extract off (off+e);exact .aC (.agg this.1 this.2)
def qS{v a:U}(h:ax ρ v a):aq P P' (iZ (α:=Wy×Int)) ρ (asIntOf v) (asIntOf a):=by
 cases h using ax.ind with
 |int b c=>exact .aC Y
 |ptr h=>exact .dB
 |_=>exact .stuck
def oG{v a:U}(h:ax ρ v a):aq P P' (iZ (α:=Int)) ρ (asInt v) (asInt a):=by
 unfold asInt;exact(qS h).bindM (λd b c _ h=>by cases h;exact .aC Y)
def Na{v a:U}(h:ax ρ v a):aq P P' (iZ (α:=Bool)) ρ (asBool v) (asBool a):=by
 cases h using ax.ind with
 |bool b=>exact .aC Y
 |_=>exact .stuck
def eG(S:wG P P'){A:aT G->α->β->Prop}(e:RuntimeError)(d:∀i c a m,e≠.typeAssertion i c a m)(f:∀t,e≠.unhashable t)(g:e≠.panicNil):aq P P' A ρ (runtimePanic e) (runtimePanic e):=by
 unfold runtimePanic;refine .asks ?_;rw[S.rt];cases e with
 |typeAssertion i c a m=>exact absurd Y (d _ _ _ _)
 |unhashable t=>exact absurd Y (f _)
 |panicNil=>exact absurd Y g
 |bounds j k s c=>exact .panics (.iface _ (.agg Y (λi b h=>by
  have:i=0\/i=1\/i=2\/i=3:=by simp at b;omega
  rcases this with rfl|rfl|rfl|rfl<;>first|exact .bool _|exact .int _ _)))
 |error m=>exact .panics (.iface _ (.string _))
 |plain m=>exact .panics (.iface _ (.string _))
 |nilDeref=>exact .panics (.iface _ (.string _))
def og(S:wG P P'){A:aT G->α->β->Prop}(k:Wy)(x y:Int)(c:BoundsCode):aq P P' A ρ (boundsPanic k x y c) (boundsPanic k x y c):=by
 unfold boundsPanic
 split
 ·refine aq.bindM (A:=iZ (α:=Bool)) ?_ (λe b d _ a=>by cases a;exact eG S _ (by simp) (by simp) (by simp));exact aq.bind (A:=iZ (α:=Nat)) (aq.choose (λf=>.pure Y)) (λe b d _ a=>by cases a;exact .pure Y)
 ·refine aq.bindM (A:=iZ (α:=Bool)) (.aC Y) (λe b d _ a=>by cases a;exact eG S _ (by simp) (by simp) (by simp))
end
end
section
variable {G:mo}
structure Alike(G:mo)(P P':Ug):Prop where
 S:wG P P'
 cells:∀t,P'.cellsOf t=P.cellsOf t
 bytes:∀t,P'.bytesOf t=P.bytesOf t
 depth:P'.depth=P.depth
 jm:∀d e c o u n,liesAt P' d e c o u n=liesAt P d e c o u n
 cellAt:∀d e c o b,cellAtBytes P' d e c o b=cellAtBytes P d e c o b
 BM:∀d t o,byteOfCell P' d t o=byteOfCell P d t o
 SR:∀d t,P'.eqGuardType d t=P.eqGuardType d t
 II:∀t,P'.stoodInHeld t=P.stoodInHeld t
 M3:∀d t,P'.holdsPacked d t=P.holdsPacked d t
 yq:P.globals.size=G.g
 Mo:P'.globals.size=G.g
 QX:∀f:Nat,G.b f=Z->∃fn,P.funcs[f]? =I fn/\fn.body.isNone=T8/\(fn.name == "runtime.NumGoroutine")=T8
 Ra:∀f:Nat,(P'.funcs[f]?).map (fun(x:WD)=>(x.name,x.body.isNone))=(P.funcs[f]?).map (fun(x:WD)=>(x.name,x.body.isNone))
section
variable {P P':Ug}{ρ:aT G}
def mQ{v a:U}(h:ax ρ v a):aq P P' cO ρ (Xg v) (Xg a):=by
 cases h using ax.ind with
 |ptr h=>exact .aC h
 |_=>exact .stuck
def Nf(L:Alike G P P')(t:Ui){v a:U}(h:ax ρ v a):aq P P' ax ρ (Instr.loadAt t v) (Instr.loadAt t a):=
 (mQ h).bindM (λd b c _ h=>A7 L.S t h)
def Kg(L:Alike G P P')(t:Ui){v a x b:U}(h:ax ρ v a)(d:ax ρ x b):aq P P' (iZ (α:=Unit)) ρ (Instr.storeAt t v x) (Instr.storeAt t a b):=
 (mQ h).bindM (λg e f c h=>Gs L.S t h (d.mono c))
def Es{r r':Nat}(h:ρ.f r=I r'):aq P P' (λ_ (x y:Option (UK×Ui))=>x=K/\y=K) ρ (viewAt r) (viewAt r'):=by
 unfold viewAt;refine aq.bindM (A:=iZ (α:=Option (Ui×Nat))) (.shape h (λs=>.pure Y)) (λj f g c b=>?_);cases b
 split
 ·exact .aC ⟨rfl,rfl⟩
 ·refine aq.bindM (A:=dL) (.getObj (c _ _ h) (λd e a=>.pure a)) (λk d e i a=>?_);cases a using dL.ind<;>exact .aC ⟨rfl,rfl⟩
def yU{a a':UK}(h:cO ρ a a'):aq P P' (iZ (α:=Unit)) ρ (noView a) (noView a'):=by
 unfold noView;refine(Es h.1).bindM (λf d e c b=>?_);obtain⟨rfl,rfl⟩:=b;exact .aC Y
def mP(L:Alike G P P'){a a':UK}(h:cO ρ a a'):aq P P' (iZ (α:=Nat)) ρ (byteOf a) (byteOf a'):=by
 unfold byteOf;rw[<-h.2.2];cases g:a.spot with
 |some s=>exact .aC Y
 |none=>
  refine .asks ?_;refine(yU h).bindM (λj c e d b=>?_);refine aq.bindM (A:=iZ (α:=Option (Ui×Nat))) (.shape (d _ _ h.1) (λs=>.pure Y)) (λk c e f b=>?_);cases b;cases c with
  |none=>exact .stuck
  |some i=>
   simp only[L.cells,L.bytes,L.BM,L.depth,<-h.2.1]
   split
   ·exact .aC Y
   ·split
    ·exact .aC Y
    ·exact .stuck
def Ni(L:Alike G P P'){a a':UK}(h:cO ρ a a')(c b:Nat):aq P P' cO ρ (partAt a c b) (partAt a' c b):=by
 unfold partAt;refine(mP L h).bindM (λk i j g e=>?_);cases e;have d:cO k {block:=a.block,off:=a.off+c} {block:=a'.block,off:=a'.off+c}:=⟨g _ _ h.1,by show a.off+c=a'.off+c;rw[h.2.1],rfl⟩;refine(mP L d).bindM (λl i j f e=>?_);cases e;refine .aC ?_
 split
 ·exact d.mono f
 ·exact⟨f _ _ d.1,d.2.1,rfl⟩
def Cq(L:Alike G P P'){a a':UK}(h:cO ρ a a')(f:Field):aq P P' cO ρ (fieldPlace a f) (fieldPlace a' f):=by
 unfold fieldPlace;refine(de L.S _).bindM (λg d e b c=>?_);cases c
 split
 ·exact Ni L (h.mono b) _ _
 ·exact .aC ((h.mono b).add _)
def Ka(L:Alike G P P')(s:Ui){v a:U}(h:ax ρ v a)(f:Nat):aq P P' ax ρ (Instr.fieldAt s v f) (Instr.fieldAt s a f):=by
 unfold Instr.fieldAt;refine(aU L.S s).bindM (λm j l i g=>?_);obtain⟨rfl,-⟩:=g;cases j with
 |struct e=>
  simp only;cases e[f]? with
  |none=>exact .stuck
  |some d=>exact(mQ (h.mono i)).bindM (λk b c _ h=>(Cq L h d).bindM (λk b c _ h=>.aC (.ptr h)))
 |_=>exact .stuck
def PJ(L:Alike G P P')(t:Ui):aq P P' ax ρ (Instr.alloc t Z (.tuple #[])) (Instr.alloc t Z (.tuple #[])):=by
 unfold Instr.alloc;exact(jM L.S t).bindM (λg e f d a=>(Er t a).bindM (λh b c _ a=>.aC (.ptr a)))
def SF(t:Ui){v a:U}(h:ax ρ v a):aq P P' ax ρ (Instr.box t v) (Instr.box t a):=by
 unfold Instr.box;exact(Er t h).bindM (λd b c _ h=>.aC (.ptr h))
def Kb(L:Alike G P P')(t:Ui){x n i l:U}(u:ax ρ x n)(q:ax ρ i l):aq P P' ax ρ (Instr.indexAt t x i) (Instr.indexAt t n l):=by
 unfold Instr.indexAt;refine(qS q).bindM (λE k z r b=>?_);cases b;obtain⟨B,D⟩:=k;refine(aU L.S t).bindM (λF d j s a=>?_);obtain⟨rfl,a⟩:=a;have h:=u.mono (r.trans s);cases d with
 |array C e=>
  refine(mQ h).bindM (λH k y A f=>?_);refine(aU L.S t).bindM (λo d j c a=>?_);obtain⟨rfl,-⟩:=a;dsimp only
  split
  ·exact(de L.S e).bindM (λw x v g b=>by cases b;exact .aC (.ptr ((f.mono (c.trans g)).add _)))
  ·(repeat' split)<;>first|exact aq.dB|exact og L.S _ _ _ _
 |slice e=>
  cases h using ax.ind with
  |jW m p=>
   refine(aU L.S t).bindM (λo d j c a=>?_);exact og L.S _ _ _ _
  |sl f m p=>
   refine(aU L.S t).bindM (λo d j c a=>?_);obtain⟨rfl,-⟩:=a;dsimp only
   split
   ·exact(de L.S e).bindM (λw x v g b=>by cases b;exact .aC (.ptr ((f.mono (c.trans g)).add _)))
   ·(repeat' split)<;>first|exact aq.dB|exact og L.S _ _ _ _
  |_=>exact aq.stuck
 |_=>cases h using ax.ind<;>exact aq.stuck
def A5(n:Nat):aq P P' (iZ (α:=Unit)) ρ (askRoom n) (askRoom n):=by
 unfold askRoom
 split
 ·exact .room (.pure Y)
 ·exact .aC Y
def iO(L:Alike G P P'){v a:U}(h:ax ρ v a)(y:Nat)(c:BoundsCode):aq P P' (iZ (α:=Nat)) ρ (Instr.sliceBound v y c) (Instr.sliceBound a y c):=by
 unfold Instr.sliceBound;refine(qS h).bindM (λi b e _ d=>?_);cases d;obtain⟨g,f⟩:=b;dsimp only
 split
 ·exact .aC Y
 ·exact og L.S _ _ _ _
def eu (ρ:aT G)(c:Option U)(d:Option U):Prop:=∀a:Option U->Option U->Prop,(a K K)->(∀{v b:U} (e:ax ρ v b),a (I v) (I b))->a c d
def eu.none{ρ:aT G}:eu ρ K K:=λb a c=>a
def eu.some{ρ:aT G}{v a:U}(h:ax ρ v a):eu ρ (I v) (I a):=λc d b=>b h
def eu.ind{ρ:aT G}{c:∀(a:Option U) (b:Option U),eu ρ a b->Prop}(none:c _ _ (eu.none))(some:∀{v d:U} (h:ax ρ v d),c _ _ (eu.some h)){a:Option U}{b:Option U}(h:eu ρ a b):c a b h:=(h (λa b=>eu ρ a b/\∀h,c a b h) (⟨eu.none,λ_=>none⟩) (λh=>⟨eu.some h,λ_=>some h⟩)).2 h
def eu.mono{σ:aT G}(a:ρ.le σ){o o':Option U}(h:eu ρ o o'):eu σ o o':=by
 cases h using eu.ind with
 |none=>exact .none
 |some h=>exact .some (h.mono a)
def jr(L:Alike G P P')(b:Bool)(len cap:Nat){k l i j m n:Option U}(h1:eu ρ k l)(h:eu ρ i j)(o:eu ρ m n):aq P P' (iZ (α:=Nat×Nat×Nat)) ρ (Instr.sliceBounds b len cap k i m) (Instr.sliceBounds b len cap l j n):=by
 unfold Instr.sliceBounds;cases o using eu.ind with
 |none=>
  cases h using eu.ind with
  |none=>
   cases h1 using eu.ind with
   |none=>exact .aC Y
   |some d=>exact(iO L d _ _).bindM (λf c b _ a=>by cases a;exact .aC Y)
  |some g=>
   refine(iO L g _ _).bindM (λf c b e a=>?_);cases a;cases h1 using eu.ind with
   |none=>exact .aC Y
   |some d=>exact(iO L (d.mono e) _ _).bindM (λf c b _ a=>by cases a;exact .aC Y)
 |some q=>
  refine(iO L q _ _).bindM (λf c b e a=>?_);cases a;cases h using eu.ind with
  |none=>exact aq.stuck
  |some g=>
   refine(iO L (g.mono e) _ _).bindM (λr c b p a=>?_);cases a;cases h1 using eu.ind with
   |none=>exact .aC Y
   |some d=>exact(iO L (d.mono (e.trans p)) _ _).bindM (λf c b _ a=>by cases a;exact .aC Y)
def PT(L:Alike G P P')(t:Ui){x u:U}{B C w y p q:Option U}(f:ax ρ x u)(h1:eu ρ B C)(c:eu ρ w y)(d:eu ρ p q):aq P P' ax ρ (Instr.slice t x B w p) (Instr.slice t u C y q):=by
 unfold Instr.slice;refine(aU L.S t).bindM (λK r J k o=>?_);obtain⟨rfl,-⟩:=o;have f:=f.mono k;have h1:=h1.mono k;have c:=c.mono k;have d:=d.mono k;cases r with
 |string=>
  cases f using ax.ind with
  |string s=>
   dsimp only;have F:p.isSome=q.isSome:=by cases d using eu.ind<;>rfl
   rw[F]
   split
   ·exact aq.stuck
   ·exact(jr L T8 s.size s.size h1 c .none).bindM (λl i m _ a=>by cases a;exact .aC (.string _))
  |_=>exact aq.stuck
 |slice j=>
  cases f using ax.ind with
  |jW g n=>
   refine(jr L Z g n h1 c d).bindM (λl i m _ a=>?_);cases a;refine(de L.S j).bindM (λv x D _ a=>?_);cases a;refine .aC ?_
   split
   ·exact .jW _ _
   ·exact .jW _ _
  |sl h g n=>
   refine(jr L Z g n h1 c d).bindM (λl i m e a=>?_);cases a;refine(de L.S j).bindM (λv x D b a=>?_);cases a;refine .aC ?_
   split
   ·exact .sl (h.mono (e.trans b)) _ _
   ·exact .sl ((h.mono (e.trans b)).add _) _ _
  |_=>exact aq.stuck
 |pointer E=>
  have I:aq P P' cO K (asAddr x) (asAddr u):=by
   cases f using ax.ind with
   |ptr H=>exact .aC H
   |dg=>exact eG L.S .nilDeref (by simp) (by simp) (by simp)
   |_=>exact aq.stuck
  refine I.bindM (λl i M e h=>?_);refine(aU L.S E).bindM (λv r J b o=>?_);obtain⟨rfl,-⟩:=o;cases r with
  |array g j=>
   refine(jr L T8 g g (h1.mono (e.trans b)) (c.mono (e.trans b)) (d.mono (e.trans b))).bindM (λl i m z a=>?_);cases a;refine(de L.S j).bindM (λv x D A a=>?_);cases a;refine .aC ?_
   split
   ·exact .sl (h.mono (b.trans (z.trans A))) _ _
   ·exact .sl ((h.mono (b.trans (z.trans A))).add _) _ _
  |_=>exact aq.stuck
 |_=>cases f using ax.ind<;>exact aq.stuck
def Kf(L:Alike G P P')(t:Ui){x q:U}{l m g h n o:Option U}(k:ax ρ x q)(h1:eu ρ l m)(d:eu ρ g h)(e:eu ρ n o):aq P P' ax ρ (Instr.sliceAt t x l g n) (Instr.sliceAt t q m h o):=by
 unfold Instr.sliceAt;refine(aU L.S t).bindM (λC w A a v=>?_);obtain⟨rfl,-⟩:=v;cases w with
 |array p s=>
  refine(mQ (k.mono a)).bindM (λD r y u f=>?_);have c:=a.trans u;refine(jr L T8 p p (h1.mono c) (d.mono c) (e.mono c)).bindM (λE r z i b=>?_);cases b;refine(de L.S s).bindM (λF x B j b=>?_);cases b;refine .aC ?_
  split
  ·exact .sl (f.mono (i.trans j)) _ _
  ·exact .sl ((f.mono (i.trans j)).add _) _ _
 |_=>exact PT L t (k.mono a) (h1.mono a) (d.mono a) (e.mono a)
end
end
section
variable {G:mo}
section
variable {P P':Ug}{ρ:aT G}
def lY{z a:Array U}(h:bf ρ z a)(n:Nat):bf ρ ((Yq n).map (z[· % z.size]!)) ((Yq n).map (a[· % a.size]!)):=by
 refine⟨by simp,λd f g=>?_⟩;simp only[Array.getElem_map,Array.getElem_range];have c:=h.1;by_cases e:0<z.size
 ·have b:d%z.size<z.size:=Nat.mod_lt _ e;rw[getElem!_pos z _ b,getElem!_pos a _ (by rw[<-c];exact b)];have:d%a.size=d%z.size:=by rw[c]
  simp only[this];exact h.2 _ b (by rw[<-c];exact b)
 ·rw[getElem!_neg z _ (by omega),getElem!_neg a _ (by omega)];exact .bool _
def uK(L:Alike G P P'){α k γ b:Type}{B:aT G->γ->b->Prop}(e:RuntimeError)(g:∀i c a m,e≠.typeAssertion i c a m)(h:∀t,e≠.unhashable t)(j:e≠.panicNil){f:α->Wv γ}{f':k->Wv b}:aq P P' B ρ (runtimePanic e >>= f) (runtimePanic e >>= f'):=
 (eG (A:=λ_ _ _=>False) L.S e g h j).bindM (λ_ _ _ _ d=>d.elim)
def qf{γ a:Type}{B:aT G->γ->a->Prop}(q:Question){f:Nat->Wv γ}{f':Nat->Wv a}(h:∀n,aq P P' B ρ (f n) (f' n)):aq P P' B ρ (choose q >>= f) (choose q >>= f'):=.choose (λn=>h n)
def Eo(L:Alike G P P')(t:Ui){l j c h:U}(m:ax ρ l j)(hc:ax ρ c h):aq P P' ax ρ (XZ t l c) (XZ t j h):=by
 unfold XZ;refine(aU L.S t).bindM (λw p v i n=>?_);obtain⟨rfl,-⟩:=n;cases p with
 |slice e=>
  refine(oG (m.mono i)).bindM (λx b d k a=>?_);cases a;refine(oG (hc.mono (i.trans k))).bindM (λy b d q a=>?_);cases a;refine(fS L.S e).bindM (λz b d r a=>?_);obtain⟨rfl,-⟩:=a;dsimp only
  split
  ·split
   ·exact uK L _ (by simp) (by simp) (by simp)
   ·split
    ·exact uK L _ (by simp) (by simp) (by simp)
    ·exact qf _ (λu=>uK L _ (by simp) (by simp) (by simp))
  ·refine(A5 _).bindM (λA b d s a=>?_);refine(de L.S e).bindM (λg b d _ a=>?_);cases a
   split
   ·exact(qi e (lY (bf.nil _) _)).bindM (λg b d _ f=>.aC (.sl f _ _))
   ·refine(jM L.S e).bindM (λg b d _ o=>?_);exact(qi e (lY o.cells _)).bindM (λg b d _ f=>.aC (.sl f _ _))
 |_=>exact aq.stuck
def pG (ρ:aT G)(f:List (U×Nat))(g:List (U×Nat)):Prop:=∀a:List (U×Nat)->List (U×Nat)->Prop,(a [] [])->(∀{v e:U} (b:Nat) {c d:List (U×Nat)} (h:ax ρ v e) (i:a c d),a ((v,b)::c) ((e,b)::d))->a f g
def pG.nil{ρ:aT G}:pG ρ [] []:=λb a c=>a
def pG.cons{ρ:aT G}{v c:U}(j:Nat){l b:List (U×Nat)}(h:ax ρ v c)(f:pG ρ l b):pG ρ ((v,j)::l) ((c,j)::b):=λd e a=>a j h (f d e a)
def pG.ind{ρ:aT G}{d:∀(a:List (U×Nat)) (b:List (U×Nat)),pG ρ a b->Prop}(nil:d _ _ (pG.nil))(cons:∀{v f:U} (j:Nat) {l e:List (U×Nat)} (h:ax ρ v f) (c:pG ρ l e),(d _ _ c)->d _ _ (pG.cons j h c)){a:List (U×Nat)}{b:List (U×Nat)}(h:pG ρ a b):d a b h:=(h (λa b=>pG ρ a b/\∀h,d a b h) (⟨pG.nil,λ_=>nil⟩) (λ{v} {f} j {l} {e} h c=>⟨pG.cons j h c.1,λ_=>cons j h c.1 (c.2 _)⟩)).2 h
def ia (ρ:aT G)(f:List (Nat×U))(g:List (Nat×U)):Prop:=∀a:List (Nat×U)->List (Nat×U)->Prop,(a [] [])->(∀{v e:U} (b:Nat) {c d:List (Nat×U)} (h:ax ρ v e) (i:a c d),a ((b,v)::c) ((b,e)::d))->a f g
def ia.nil{ρ:aT G}:ia ρ [] []:=λb a c=>a
def ia.cons{ρ:aT G}{v c:U}(j:Nat){l b:List (Nat×U)}(h:ax ρ v c)(f:ia ρ l b):ia ρ ((j,v)::l) ((j,c)::b):=λd e a=>a j h (f d e a)
def ia.ind{ρ:aT G}{d:∀(a:List (Nat×U)) (b:List (Nat×U)),ia ρ a b->Prop}(nil:d _ _ (ia.nil))(cons:∀{v f:U} (j:Nat) {l e:List (Nat×U)} (h:ax ρ v f) (c:ia ρ l e),(d _ _ c)->d _ _ (ia.cons j h c)){a:List (Nat×U)}{b:List (Nat×U)}(h:ia ρ a b):d a b h:=(h (λa b=>ia ρ a b/\∀h,d a b h) (⟨ia.nil,λ_=>nil⟩) (λ{v} {f} j {l} {e} h c=>⟨ia.cons j h c.1,λ_=>cons j h c.1 (c.2 _)⟩)).2 h
def ia.mono{σ:aT G}(b:ρ.le σ){l a:List (Nat×U)}(h:ia ρ l a):ia σ l a:=by
 induction h using ia.ind with
 |nil=>exact .nil
 |cons d h _ c=>exact .cons d (h.mono b) c
def jd.zip{l a:List U}(h:jd ρ l a):∀k,pG ρ (l.zipIdx k) (a.zipIdx k):=by
 induction h using jd.ind with
 |nil=>exact λ_=>.nil
 |cons b _ c=>exact λk=>.cons k b (c (k+1))
def Qf(off:Nat){l b:List (U×Nat)}(h:pG ρ l b):∀{cs a:Array U},bf ρ cs a->bf ρ (l.foldl (λcs (c,j)=>cs.setIfInBounds (off+j) c) cs) (b.foldl (λcs (c,j)=>cs.setIfInBounds (off+j) c) a):=by
 induction h using pG.ind with
 |nil=>exact λh=>h
 |cons j d _ e=>exact λh=>e (h.set d _)
def C4(a:Nat->Option (Nat×Nat)){ps d:List (Nat×U)}(g:ia ρ ps d):∀{cs b:Array U},bf ρ cs b->(X8 a cs ps=K/\X8 a b d=K)\/∃x f,X8 a cs ps=I x/\X8 a b d=I f/\bf ρ x f:=by
 induction g using ia.ind with
 |nil=>exact λc=>.inr ⟨_,_,rfl,rfl,c⟩
 |cons i h _ j=>
  intro cs b c;have e:=h.cells;simp only[X8];cases a i with
  |none=>exact .inl ⟨rfl,rfl⟩
  |some l=>
   obtain⟨k,m⟩:=l;simp only[e.1,c.1]
   split
   ·exact .inl ⟨rfl,rfl⟩
   ·refine j ?_;rw[<-Array.foldl_toList,<-Array.foldl_toList,Array.toList_zipIdx,Array.toList_zipIdx];exact Qf k (e.toList.zip 0) c
theorem Nh{α c:Type}(g:α->Wv c):∀(l:List α) {ρ:aT G},(∀ σ,ρ.le σ->∀x∈l,aq P P' (iZ (α:=c)) σ (g x) (g x))->aq P P' (iZ (α:=List c)) ρ (l.mapM g) (l.mapM g)
 | [],ρ,a=>by rw[List.mapM_nil];exact .aC Y
 |x::l,ρ,a=>by
  rw[List.mapM_cons];refine(a ρ (aT.le.refl _) x (by simp)).bindM (λσ e f h b=>?_);cases b;refine(Nh g l (λd i k j=>a d (h.trans i) k (by simp[j]))).bindM (λd e f _ b=>?_);cases b;exact .aC Y
def RE{α a:Type}(g:α->Wv a)(l:Array α)(h:∀ σ,ρ.le σ->∀x∈l.toList,aq P P' (iZ (α:=a)) σ (g x) (g x)):aq P P' (iZ (α:=Array a)) ρ (l.mapM g) (l.mapM g):=by
 rw[Array.mapM_eq_mapM_toList];exact aq.bind (A:=iZ (α:=List a)) (Nh g l.toList h) (λσ c d _ b=>by cases b;exact .pure Y)
def PL(L:Alike G P P')(t:Ui){ps n:Array (Nat×U)}(h:ia ρ ps.toList n.toList):aq P P' ax ρ (Instr.build t ps) (Instr.build t n):=by
 unfold Instr.build;refine(jM L.S t).bindM (λy C D r i=>?_);refine(aU L.S t).bindM (λp w B l u=>?_);obtain⟨rfl,-⟩:=u;have m:=h.mono (r.trans l);have i:=i.cells.mono l;cases w with
 |struct k=>
  have s:aq P P' (iZ (α:=Array (Nat×Nat))) p (k.mapM λf=>do pure (f.offset,<-sizeOf f.type)) (k.mapM λf=>do pure (f.offset,<-sizeOf f.type)):=
   RE _ _ (λy _ o _=>(de L.S _).bindM (λp c j _ e=>by cases e;exact .aC Y))
  refine s.bindM (λz c j g e=>?_);cases e;rcases C4 (c[·]?) (m.mono g) (i.mono g) with⟨a,b⟩|⟨o,x,a,b,d⟩
  ·rw[a,b];exact aq.stuck
  ·rw[a,b];exact .aC (.agg d.1 d.2)
 |array A q=>
  refine(de L.S q).bindM (λz c j g e=>?_);cases e;rcases C4 (λv=>I (v*c,c)) (m.mono g) (i.mono g) with⟨a,b⟩|⟨o,x,a,b,d⟩
  ·rw[a,b];exact aq.stuck
  ·rw[a,b];exact .aC (.agg d.1 d.2)
 |_=>exact aq.stuck
def Co(L:Alike G P P')(t:Ui)(n:Nat){ps m:Array (Nat×U)}(h:ia ρ ps.toList m.toList):aq P P' ax ρ (XQ t n ps) (XQ t n m):=by
 unfold XQ;refine(aU L.S t).bindM (λq y A u x=>?_);obtain⟨rfl,-⟩:=x;cases y with
 |slice b=>
  refine(de L.S b).bindM (λz a o v s=>?_);cases s;have w:=h.mono (u.trans v);dsimp only;have p:∀{f:aT G} {d e:Array U},z.le f->bf f d e->aq P P' ax f (match X8 (λc=>I (c*a,a)) ((Yq (n*a)).map (d[· % d.size]!)) ps.toList with|some g=>do pure (.slice (I (<-newRow b g)) n n)|_=>stuck "buildSlice: a part of the wrong size") (match X8 (λc=>I (c*a,a)) ((Yq (n*a)).map (e[· % e.size]!)) m.toList with|some g=>do pure (.slice (I (<-newRow b g)) n n)|_=>stuck "buildSlice: a part of the wrong size"):=by
   intro f d e k l;rcases C4 (λc=>I (c*a,a)) (w.mono k) (lY l (n*a)) with⟨i,j⟩|⟨B,C,i,j,r⟩
   ·rw[i,j];exact aq.stuck
   ·rw[i,j];exact(qi b r).bindM (λq a o _ h=>.aC (.sl h _ _))
  split
  ·exact aq.dB
  ·split
   ·exact p (aT.le.refl _) (bf.nil _)
   ·exact(jM L.S b).bindM (λq a o k l=>p k l.cells)
 |_=>exact aq.stuck
def wP(L:Alike G P P')(t:Ui){v a:U}(h:ax ρ v a):aq P P' ax ρ (Instr.makeInterface t v) (Instr.makeInterface t a):=by
 unfold Instr.makeInterface;refine(aU L.S t).bindM (λf d e b c=>?_);obtain⟨rfl,-⟩:=c
 split
 ·exact aq.stuck
 ·exact .aC (.iface t (h.mono b))
def Ke(L:Alike G P P')(t:Ui){o o':Option U}(h:eu ρ o o'):aq P P' ax ρ (Instr.makeMap t o) (Instr.makeMap t o'):=by
 unfold Instr.makeMap;have a:∀{g:aT G},aq P P' ax g (do pure (.map (I (<-newObj (.map #[] 0))))) (do pure (.map (I (<-newObj (.map #[] 0))))):=.new (.map Y (λn b=>by simp at b) 0) (λq r d=>.pure (.map (aT.xm _ _ _ d)));cases h using eu.ind with
 |none=>exact a
 |some h=>
  refine(aU L.S t).bindM (λi f s c e=>?_);obtain⟨rfl,-⟩:=e;cases f with
  |map p l=>exact(oG (h.mono c)).bindM (λi j k _ m=>a)
  |_=>exact aq.stuck
def PM(L:Alike G P P')(t:Ui){v a:U}(h:ax ρ v a)(i:Nat):aq P P' ax ρ (Instr.field t v i) (Instr.field t a i):=by
 unfold Instr.field;refine(aU L.S t).bindM (λl j k c d=>?_);obtain⟨rfl,-⟩:=d;cases j with
 |struct b=>
  dsimp only;cases b[i]? with
  |none=>exact aq.stuck
  |some f=>
   have h:=h.mono c;cases h using ax.ind with
   |agg e g=>exact lJ L.S _ ⟨e,g⟩ _
   |_=>exact aq.stuck
 |_=>exact aq.stuck
def PR(L:Alike G P P')(t:Ui){v d i c:U}(h:ax ρ v d)(g:ax ρ i c):aq P P' ax ρ (Instr.index t v i) (Instr.index t d c):=by
 unfold Instr.index;refine(qS g).bindM (λx b e j a=>?_);cases a;obtain⟨q,u⟩:=b;refine(aU L.S t).bindM (λy p w k m=>?_);obtain⟨rfl,-⟩:=m;have h:=h.mono (j.trans k);cases p with
 |array r f=>
  cases h using ax.ind with
  |agg n o=>
   dsimp only
   split
   ·exact(de L.S f).bindM (λz b e l a=>by cases a;exact lJ L.S _ (bf.mono l ⟨n,o⟩) _)
   ·exact og L.S _ _ _ _
  |_=>exact aq.stuck
 |string=>
  cases h using ax.ind with
  |string s=>
   dsimp only
   split
   ·exact .aC (.int _ _)
   ·exact og L.S _ _ _ _
  |_=>exact aq.stuck
 |_=>cases h using ax.ind<;>exact aq.stuck
def J9{v c:U}(h:ax ρ v c)(i:Nat):aq P P' ax ρ (Instr.extract v i) (Instr.extract c i):=by
 cases h using ax.ind with
 |tuple e f=>
  simp only[Instr.extract];rcases bf.get ⟨e,f⟩ i with⟨a,b⟩|⟨v,c,a,b,d⟩
  ·rw[a,b];exact aq.stuck
  ·rw[a,b];exact .aC d
 |_=>exact aq.stuck
def PU(a:UnOp){v b:U}(h:ax ρ v b):aq P P' ax ρ (Op.unary a v) (Op.unary a b):=by
 cases h using ax.ind<;>cases a<;>simp only[Op.unary,Op.intArith,Op.intBits]<;>first|exact aq.stuck|exact aq.dB|exact .aC (.int _ _)|exact .aC (.bool _)
end
end
section
variable {G:mo}
section
variable {P P':Ug}{ρ:aT G}
def r8{a a' b b':UK}(e:cO ρ a a')(f:cO ρ b b'):(a.block==b.block)=(a'.block==b'.block):=by
 rw[XH];simp only[beq_iff_eq];constructor
 ·intro c;have d:=e.1;rw[c,f.1] at d;exact(Yl d).symm
 ·intro c;exact ρ.inj _ _ _ e.1 (by rw[c];exact f.1)
def addr_eq{a a' b b':UK}(f:cO ρ a a')(g:cO ρ b b'):(a==b)=(a'==b'):=by
 have c:=r8 f g;have d:=f.2;have e:=g.2;obtain⟨h,i,j⟩:=a;obtain⟨k,l,m⟩:=a';obtain⟨n,o,p⟩:=b;obtain⟨u1,u2,u3⟩:=b';simp only at c d e;obtain⟨rfl,rfl⟩:=d;obtain⟨rfl,rfl⟩:=e;rw[XH] at c ⊢;simp only[beq_iff_eq] at c;simp only[beq_iff_eq,Wi,c]
def qh{a a':UK}(h:cO ρ a a'):aq P P' (iZ (α:=Bool)) ρ (frozen a) (frozen a'):=.frozen h (λb=>.pure Y)
def oI{r r':Nat}(h:ρ.f r=I r'):aq P P' (iZ (α:=Option (Ui×Nat))) ρ (shape r) (shape r'):=.shape h (λa=>.pure Y)
def vR{a a':UK}(h:cO ρ a a'):aq P P' (iZ (α:=Bool)) ρ (stringish a) (stringish a'):=by
 unfold stringish;refine(qh h).bindM (λi d f c b=>?_);cases b
 split
 ·exact .aC Y
 ·refine(oI (c _ _ h.1)).bindM (λj d f e b=>?_);cases b;cases d with
  |none=>exact .aC Y
  |some g=>exact qh ⟨e _ _ (c _ _ h.1),rfl,rfl⟩
def Gq{a a' b b':UK}(h:cO ρ a a')(g:cO ρ b b'):aq P P' (iZ (α:=Bool)) ρ (mayBeOne a b) (mayBeOne a' b'):=by
 unfold mayBeOne;have k:∀{f:aT G} {d l:UK},cO f d l->aq P P' (iZ (α:=Bool)) f (do pure ((<-shape d.block) matches I (_,0))) (do pure ((<-shape l.block) matches I (_,0))):=λn=>(oI n.1).bindM (λq d m _ c=>by cases c;exact .aC Y);refine(vR h).bindM (λf d m e c=>?_);cases c;refine(vR (g.mono e)).bindM (λq m s i c=>?_);cases c;refine(k (h.mono (e.trans i))).bindM (λr o p j c=>?_);cases c;refine(k (g.mono (e.trans (i.trans j)))).bindM (λr o p j c=>?_);cases c;exact .aC Y
def yW{a a' b b':UK}(h:cO ρ a a')(d:cO ρ b b'):aq P P' (iZ (α:=Bool)) ρ (sameAddr a b) (sameAddr a' b'):=by
 unfold sameAddr;rw[r8 h d,addr_eq h d]
 split
 ·exact .aC Y
 ·refine(qh h).bindM (λr p m e c=>?_);cases c;refine(qh (d.mono e)).bindM (λs m q f c=>?_);cases c
  split
  ·exact aq.dB
  ·refine(yU (h.mono (e.trans f))).bindM (λt j k g c=>?_);refine(yU (d.mono (e.trans (f.trans g)))).bindM (λu j k l c=>?_);have i:=e.trans (f.trans (g.trans l));refine(Gq (h.mono i) (d.mono i)).bindM (λv j k n c=>?_);cases c
   split
   ·exact qf _ (λo=>.aC Y)
   ·exact .aC Y
theorem tw{α a:Type}{f f':α->a->Wv (ForInStep a)}:∀(l:List α) {ρ:aT G} (b:a),(∀ σ,ρ.le σ->∀x∈l,∀b,aq P P' (iZ (α:=ForInStep a)) σ (f x b) (f' x b))->aq P P' (iZ (α:=a)) ρ (forIn l b f) (forIn l b f')
 | [],ρ,b,c=>by simp only[List.forIn_nil];exact .aC Y
 |x::l,ρ,b,c=>by
  simp only[List.forIn_cons];refine(c ρ (aT.le.refl _) x (by simp) b).bindM (λσ d m h g=>?_);cases g;cases d with
  |done b=>exact .aC Y
  |yield b=>exact tw l b (λk i d j e=>c k (h.trans i) d (by simp[j]) e)
def Gn{α a:Type}{f f':α->a->Wv (ForInStep a)}(l:Array α)(b:a)(h:∀ σ,ρ.le σ->∀x∈l.toList,∀b,aq P P' (iZ (α:=ForInStep a)) σ (f x b) (f' x b)):aq P P' (iZ (α:=a)) ρ (forIn l b f) (forIn l b f'):=by
 rw[<-Array.forIn_toList,<-Array.forIn_toList];exact tw _ _ h
def fJ{α c γ a:Type}{B:aT G->γ->a->Prop}{u:Unsupported}{f:α->Wv γ}{f':c->Wv a}(b:pP (.unsupported u)=Z:=by rfl):aq P P' B ρ (unsupported u >>= f) (unsupported u >>= f'):=.halt (.same _ b)
def Kh(L:Alike G P P')(t:Ui):aq P P' (iZ (α:=String)) ρ (typeStr t) (typeStr t):=by
 unfold typeStr;refine(fS L.S t).bindM (λd b c _ a=>?_);obtain⟨rfl,-⟩:=a;dsimp only
 split
 ·exact aq.dB
 ·exact .aC Y
def yV{r r':Nat}(h:ρ.f r=I r'):aq P P' (λσ (x y:Option (UK×Bool))=>(x=K/\y=K)\/∃a a' l,x=I (a,l)/\y=I (a',l)/\cO σ a a') ρ (numberAt r) (numberAt r'):=by
 unfold numberAt;refine(oI h).bindM (λσ a i e d=>?_);cases d
 split
 ·exact .aC (.inl ⟨rfl,rfl⟩)
 ·refine aq.bindM (A:=dL) (.getObj (e _ _ h) (λf g b=>.pure b)) (λk f g j b=>?_);cases b using dL.ind with
  |number c l=>exact .aC (.inr ⟨_,_,_,rfl,rfl,c⟩)
  |_=>exact .aC (.inl ⟨rfl,rfl⟩)
def jZ{a a':UK}(h:cO ρ a a'):aq P P' (λσ (x y:UK×Bool)=>cO σ x.1 y.1/\x.2=y.2) ρ (WB a) (WB a'):=by
 unfold WB;refine(yV h.1).bindM (λσ x y d b=>?_);rcases b with⟨rfl,rfl⟩|⟨e,f,g,rfl,rfl,c⟩
 ·exact .aC ⟨h.mono d,rfl⟩
 ·exact .aC ⟨c,rfl⟩
theorem qT(L:Alike G P P'):∀(d:Nat) {ρ:aT G} (t:Ui) {x u y w:U},ax ρ x u->ax ρ y w->aq P P' (iZ (α:=Bool)) ρ (Op.equalIn d t x y) (Op.equalIn d t u w)
 |0,ρ,t,x,u,y,w,c,a=>by unfold Op.equalIn;exact aq.dB
 |d+1,ρ,t,x,u,y,w,c,a=>by
  unfold Op.equalIn;refine(aU L.S t).bindM (λaa V ar H I=>?_);obtain⟨rfl,I⟩:=I;have c:=c.mono H;have a:=a.mono H;cases V with
  |struct N=>
   cases c using ax.ind with
   |agg k o=>
    cases a using ax.ind with
    |agg B C=>
     dsimp only;refine .asks ?_;rw[L.II]
     split
     ·exact fJ
     ·refine aq.bindM (A:=iZ) (Gn N _ (λp e f _ h=>?_)) (λp g h e b=>?_)
      ·split
       ·refine(lJ L.S f.type (bf.mono e ⟨k,o⟩) _).bindM (λz v W q s=>?_);refine(lJ L.S f.type (bf.mono (e.trans q) ⟨B,C⟩) _).bindM (λA X Z i D=>?_);refine(qT L d f.type (s.mono i) D).bindM (λab g h _ b=>?_);cases b
        split<;>exact .aC Y
       ·exact .aC Y
      ·cases b
       split<;>exact .aC Y
    |_=>exact aq.stuck
   |_=>cases a using ax.ind<;>exact aq.stuck
  |array an j=>
   cases c using ax.ind with
   |agg k o=>
    cases a using ax.ind with
    |agg B C=>
     dsimp only;refine(de L.S j).bindM (λp r T e b=>?_);cases b;rw[Vy,Vy];refine aq.bindM (A:=iZ) (tw _ _ (λz q al _ h=>?_)) (λp g h e b=>?_)
     ·refine(lJ L.S j (bf.mono (e.trans q) ⟨k,o⟩) _).bindM (λz v W i s=>?_);refine(lJ L.S j (bf.mono (e.trans (q.trans i)) ⟨B,C⟩) _).bindM (λA X Z i D=>?_);refine(qT L d j (s.mono i) D).bindM (λab g h _ b=>?_);cases b
      split<;>exact .aC Y
     ·cases b
      split<;>exact .aC Y
    |_=>exact aq.stuck
   |_=>cases a using ax.ind<;>exact aq.stuck
  |interface ao=>
   cases c using ax.ind with
   |nilIface=>cases a using ax.ind<;>first|exact aq.stuck|exact .aC Y
   |iface F s=>
    cases a using ax.ind with
    |nilIface=>exact .aC Y
    |iface ap R=>
     dsimp only
     split
     ·exact .aC Y
     ·refine(fS L.S F).bindM (λp g h e b=>?_);obtain⟨rfl,-⟩:=b
      split
      ·refine .asks ?_;refine .asks ?_;rw[L.M3,L.depth]
       split
       ·exact fJ
       ·exact(Kh L F).bindM (λp g h _ b=>by cases b;exact eG L.S _ (by simp) (by simp) (by simp))
      ·exact qT L d F (s.mono e) (R.mono e)
    |_=>exact aq.stuck
   |_=>cases a using ax.ind<;>exact aq.stuck
  |pointer j=>
   cases c using ax.ind with
   |dg=>cases a using ax.ind<;>first|exact aq.stuck|exact .aC Y
   |ptr l=>
    cases a using ax.ind with
    |dg=>exact .aC Y
    |ptr n=>
     dsimp only;refine(de L.S j).bindM (λp r T e b=>?_);cases b;rw[addr_eq l n]
     split
     ·exact yW (l.mono e) (n.mono e)
     ·split
      ·exact .aC Y
      ·exact qf _ (λr=>.aC Y)
    |_=>exact aq.stuck
   |_=>cases a using ax.ind<;>exact aq.stuck
  |unsafePointer=>
   cases c using ax.ind with
   |dg=>cases a using ax.ind<;>first|exact aq.stuck|exact .aC Y
   |ptr l=>
    cases a using ax.ind with
    |dg=>exact .aC Y
    |ptr n=>exact yW l n
    |_=>exact aq.stuck
   |_=>cases a using ax.ind<;>exact aq.stuck
  |chan ad j=>
   cases c using ax.ind with
   |iN=>cases a using ax.ind<;>first|exact aq.stuck|exact .aC Y
   |chan l=>
    cases a using ax.ind with
    |iN=>exact .aC Y
    |chan n=>
     refine .aC ?_;have:=r8 (ρ:=aa) (a:=⟨_,0,K⟩) (a':=⟨_,0,K⟩) (b:=⟨_,0,K⟩) (b':=⟨_,0,K⟩) ⟨l,rfl,rfl⟩ ⟨n,rfl,rfl⟩;simpa [iZ] using this
    |_=>exact aq.stuck
   |_=>cases a using ax.ind<;>exact aq.stuck
  |int E=>
   cases c using ax.ind with
   |int S g=>
    rcases g with(_|r)|r
    all_goals
     cases a using ax.ind with
     |int am h=>
      rcases h with(_|m)|m
      all_goals
       dsimp only
       split
       ·exact .aC Y
       ·exact aq.stuck
     |ptr ae=>first|exact .aC Y|exact aq.dB
     |dg=>exact aq.dB
     |_=>exact aq.stuck
   |dg=>cases a using ax.ind<;>exact aq.dB
   |ptr l=>
    cases a using ax.ind with
    |ptr n=>
     dsimp only;refine(jZ l).bindM (λp g h e b=>?_);refine(jZ (n.mono e)).bindM (λz J M q O=>?_);have k:=b.1.mono q;have o:=O.1;refine .asks ?_;rw[r8 k o,L.yq,L.Mo];have Q:decide (g.1.block<G.g)=decide (h.1.block<G.g):=by
      rw[decide_eq_decide];exact z.OW _ _ k.1
     rw[Q]
     split
     ·refine(mP L k).bindM (λA x y i b=>?_);cases b;refine(mP L (o.mono i)).bindM (λA x y i b=>?_);cases b;exact .aC Y
     ·refine(fS L.S t).bindM (λA x y i b=>?_);obtain⟨rfl,-⟩:=b;rw[addr_eq k o]
      (repeat' split)<;>first|exact aq.dB|exact .aC Y
    |int S g=>
     rcases g with(_|r)|r
     ·exact .aC Y
     ·exact aq.dB
     ·exact aq.dB
    |_=>exact aq.dB
   |_=>cases a using ax.ind<;>first|exact aq.stuck|exact aq.dB
  |slice j=>cases c using ax.ind<;>first|exact aq.stuck|(cases a using ax.ind<;>first|exact aq.stuck|exact .aC Y)
  |map E M=>cases c using ax.ind<;>first|exact aq.stuck|(cases a using ax.ind<;>first|exact aq.stuck|exact .aC Y)
  |func g h J=>cases c using ax.ind<;>first|exact aq.stuck|(cases a using ax.ind<;>first|exact aq.stuck|exact .aC Y)
  |bool=>cases c using ax.ind<;>first|exact aq.stuck|(cases a using ax.ind<;>first|exact aq.stuck|exact .aC Y)
  |string=>cases c using ax.ind<;>first|exact aq.stuck|(cases a using ax.ind<;>first|exact aq.stuck|exact .aC Y)
  |float E=>cases c using ax.ind<;>first|exact aq.stuck|(cases a<;>first|exact aq.stuck|(dsimp only;split<;>first|exact .aC Y|exact aq.stuck))
  |complex E=>cases c using ax.ind<;>first|exact aq.stuck|(cases a<;>first|exact aq.stuck|(dsimp only;split<;>first|exact .aC Y|exact aq.stuck))
  |_=>cases c using ax.ind<;>first|exact aq.stuck|(cases a<;>exact aq.stuck)
end
end
section
variable {G:mo}
section
variable {P P':Ug}{ρ:aT G}
def Cp(L:Alike G P P')(t:Ui){x a y b:U}(c:ax ρ x a)(d:ax ρ y b):aq P P' (iZ (α:=Bool)) ρ (Op.equal t x y) (Op.equal t a b):=qT L _ t c d
theorem qg(L:Alike G P P'):∀(d:Nat) {ρ:aT G} (t:Ui) {x k y l:U},ax ρ x k->ax ρ y l->aq P P' (iZ (α:=Bool)) ρ (Op.eqGuardIn d t x y) (Op.eqGuardIn d t k l)
 |0,ρ,t,x,k,y,l,e,b=>by unfold Op.eqGuardIn;exact aq.dB
 |d+1,ρ,t,x,k,y,l,e,b=>by
  unfold Op.eqGuardIn;refine(aU L.S t).bindM (λR C Q w z=>?_);obtain⟨rfl,z⟩:=z;have e:=e.mono w;have b:=b.mono w;cases C with
  |struct B=>
   cases e using ax.ind with
   |agg n o=>
    cases b using ax.ind with
    |agg p q=>
     dsimp only;refine aq.bindM (A:=iZ) (Gn B _ (λu c f _ g=>?_)) (λu m g c a=>?_)
     ·split
      ·refine(lJ L.S f.type (bf.mono c ⟨n,o⟩) _).bindM (λA v D j r=>?_);refine(lJ L.S f.type (bf.mono (c.trans j) ⟨p,q⟩) _).bindM (λH E F h s=>?_);refine(qg L d f.type (r.mono h) s).bindM (λI m g _ a=>?_);cases a
       split<;>exact .aC Y
      ·exact .aC Y
     ·cases a
      split<;>exact .aC Y
    |_=>exact .aC Y
   |_=>cases b using ax.ind<;>exact .aC Y
  |array K i=>
   cases e using ax.ind with
   |agg n o=>
    cases b using ax.ind with
    |agg p q=>
     dsimp only;refine(de L.S i).bindM (λu N O c a=>?_);cases a;rw[Vy,Vy];refine aq.bindM (A:=iZ) (tw _ _ (λA j J _ g=>?_)) (λu m g c a=>?_)
     ·refine(lJ L.S i (bf.mono (c.trans j) ⟨n,o⟩) _).bindM (λA v D h r=>?_);refine(lJ L.S i (bf.mono (c.trans (j.trans h)) ⟨p,q⟩) _).bindM (λH E F h s=>?_);refine(qg L d i (r.mono h) s).bindM (λI m g _ a=>?_);cases a
      split<;>exact .aC Y
     ·cases a
      split<;>exact .aC Y
    |_=>exact .aC Y
   |_=>cases b using ax.ind<;>exact .aC Y
  |interface M=>cases e using ax.ind<;>first|exact .aC Y|(cases b using ax.ind<;>exact .aC Y)
  |_=>cases e using ax.ind<;>first|exact .aC Y|(cases b<;>exact .aC Y)
def J8(L:Alike G P P')(f:Yy)(t:Ui)(x y:U7){a a' b b':U}(e:ax ρ a a')(c:ax ρ b b'):aq P P' (iZ (α:=Unit)) ρ (eqGuard f t x y a b) (eqGuard f t x y a' b'):=by
 have h:∀{d:aT G} {s:String} {a a' b b':U},ax d a a'->ax d b b'->aq P P' (iZ (α:=Unit)) d (do if <-Op.eqGuardIn Op.maxDepth t a b then unsupported (.noEntry s)) (do if <-Op.eqGuardIn Op.maxDepth t a' b' then unsupported (.noEntry s)):=λe c=>
  (qg L _ t e c).bindM (λd a b _ n=>by
    cases n
    split
    ·exact aq.dB
    ·exact .aC Y)
 have i:aq P P' (iZ (α:=Unit)) ρ (eqGuard .eql t x y a b) (eqGuard .eql t x y a' b'):=by
  unfold eqGuard;cases e using ax.ind with
  |nilIface=>
   cases c using ax.ind with
   |nilIface=>cases x<;>cases y<;>first|exact aq.aC (A:=iZ (α:=Unit)) Y|exact h .nilIface .nilIface
   |_=>exact aq.aC (A:=iZ (α:=Unit)) Y
  |agg j k=>
   cases c using ax.ind with
   |agg l m=>
    refine aq.asks (k:=λg=>_) (k':=λg=>_) ?_;refine aq.asks (k:=λg=>_) (k':=λg=>_) ?_;rw[L.SR,L.depth]
    split
    ·exact .aC Y
    ·exact h (.agg j k) (.agg l m)
   |_=>exact aq.aC (A:=iZ (α:=Unit)) Y
  |_=>cases c using ax.ind<;>exact aq.aC (A:=iZ (α:=Unit)) Y
 cases f<;>first|exact aq.aC (A:=iZ (α:=Unit)) rfl|exact i
def nB(L:Alike G P P')(e:Array Ui)(t:Ui){x f:U}(k:Wy)(n:Int)(i:ax ρ x f):aq P P' ax ρ (Xp e t #[x,.int k n]) (Xp e t #[f,.int k n]):=by
 unfold Xp;cases i using ax.ind with
 |dg=>
  dsimp only;refine(oG (.int k n)).bindM (λl g h c a=>?_);cases a
  split
  ·exact aq.dB
  ·split<;>exact aq.dB
 |ptr b=>
  dsimp only;refine(oG (.int k n)).bindM (λl g h c a=>?_);cases a
  split
  ·refine(Es (c _ _ b.1)).bindM (λm x j d a=>?_);obtain⟨rfl,rfl⟩:=a;exact .aC (.ptr (b.mono (c.trans d)))
  ·split
   ·exact aq.dB
   ·refine(oI (c _ _ b.1)).bindM (λm x j d a=>?_);cases a;cases x with
    |none=>exact aq.dB
    |some o=>
     dsimp only;refine .asks ?_;rw[L.cells,L.cellAt,L.depth,<-b.2.1]
     split
     ·exact .aC (.ptr ⟨(c.trans d) _ _ b.1,rfl,b.2.2⟩)
     ·exact aq.dB
 |_=>exact aq.stuck
def jq(L:Alike G P P')(t:Ui){o o':Option UK}(k:Wy)(n:Int)(d:ax ρ (.pointer o) (.pointer o')):aq P P' ax ρ (movedNumber t (.pointer o) (.int k n)) (movedNumber t (.pointer o') (.int k n)):=by
 unfold movedNumber;refine(aU L.S t).bindM (λj i y q h=>?_);obtain⟨rfl,h⟩:=h;have d:=d.mono q;cases d using ax.ind with
 |ptr m=>
  rename_i f l;have e:aq P P' ax j (WB f >>= λa=>Xp #[] t #[.pointer (I a.1),.int k n] >>= λc=>match c with| .pointer (I b)=>asNumber b a.2|v=>pure v) (WB l >>= λa=>Xp #[] t #[.pointer (I a.1),.int k n] >>= λc=>match c with| .pointer (I b)=>asNumber b a.2|v=>pure v):=by
   refine(jZ m).bindM (λA f b u g=>?_);refine(nB L _ _ k n (.ptr g.1)).bindM (λB v z w s=>?_);rw[g.2];cases s using ax.ind with
   |ptr p=>exact .new (.number p _) (λc x r=>.pure (.ptr ⟨aT.xm _ _ _ r,rfl,rfl⟩))
   |_=>exact .aC (by first|exact .bool _|exact .int _ _|exact .string _|exact .dg|exact .ptr ‹_› |exact .jW _ _|exact .sl ‹_› _ _|exact .kF|exact .map ‹_› |exact .iN|exact .chan ‹_› |exact .nilFunc|exact .nilIface|exact .iface _ ‹_› |exact .agg ‹_› ‹_› |exact .tuple ‹_› ‹_› |exact .func ‹_› ‹_› ‹_› ‹_› ‹_›)
  cases i<;>first|exact fJ|exact e
 |dg=>
  have e:=nB L (ρ:=j) #[] t k n .dg;cases i<;>first|exact fJ|exact e
def yT(L:Alike G P P')(t:Ui){o o':Option UK}(k:Wy)(n:Int)(d:ax ρ (.pointer o) (.pointer o')):aq P P' ax ρ (movedPointer t (.pointer o) (.int k n)) (movedPointer t (.pointer o') (.int k n)):=by
 unfold movedPointer;cases d using ax.ind with
 |dg=>exact nB L _ _ k n .dg
 |ptr a=>
  refine(yV a.1).bindM (λl i j c b=>?_);rcases b with⟨rfl,rfl⟩|⟨e,f,h,rfl,rfl,g⟩
  ·exact nB L #[] t k n (.ptr (a.mono c))
  ·exact fJ
def vS(L:Alike G P P'){a a' b b':UK}(c:cO ρ a a')(e:cO ρ b b'):aq P P' (iZ (α:=Nat×Nat)) ρ (Op.twoPlaces a b) (Op.twoPlaces a' b'):=by
 unfold Op.twoPlaces;refine .asks ?_;have g:decide (a.block>=G.g)=decide (a'.block>=G.g):=by
  rw[decide_eq_decide];have:=ρ.OW _ _ c.1;omega
 have h:(a.block !=b.block)=(a'.block !=b'.block):=by
  have:=r8 c e;simp only[bne,this]
 rw[L.yq,L.Mo,h,g]
 split
 ·exact fJ
 ·refine(mP L c).bindM (λk i j f d=>?_);cases d;refine(mP L (e.mono f)).bindM (λk i j f d=>?_);cases d;exact .aC Y
def A4(L:Alike G P P')(k:Wy){a a':UK}(n:Int)(d:cO ρ a a'):aq P P' ax ρ (Op.addrMod k a n) (Op.addrMod k a' n):=by
 unfold Op.addrMod;refine(oI d.1).bindM (λh c f e b=>?_);cases b;cases c with
 |none=>exact aq.dB
 |some i=>
  refine(fS L.S _).bindM (λj c f g b=>?_);obtain⟨rfl,-⟩:=b;dsimp only
  split
  ·exact fJ
  ·refine(mP L (d.mono (e.trans g))).bindM (λh c f e b=>?_);cases b;exact .aC (.int _ _)
def Gp(c:Yy)(k:Wy)(a b:Int):aq P P' (ax (ρ:=·)) ρ (Op.intArith c k a b) (Op.intArith c k a b):=by
 cases c<;>first|exact .aC (.int _ _)|exact aq.stuck
def Kc(c:Yy)(k:Wy)(a b:Int):aq P P' (ax (ρ:=·)) ρ (Op.intBits c k a b) (Op.intBits c k a b):=by
 cases c<;>first|exact .aC (.int _ _)|exact aq.stuck
def Nc(c:Yy)(a b:Int):aq P P' (ax (ρ:=·)) ρ (Op.intCmp c a b) (Op.intCmp c a b):=by
 cases c<;>first|exact .aC (.bool _)|exact aq.stuck
def Nd(L:Alike G P P')(c:Yy)(k:Wy)(a b:Int):aq P P' (ax (ρ:=·)) ρ (Op.intDiv c k a b) (Op.intDiv c k a b):=by
 unfold Op.intDiv
 split
 ·exact eG L.S _ (by simp) (by simp) (by simp)
 ·cases c<;>first|exact .aC (.int _ _)|exact aq.stuck
def PS(L:Alike G P P')(c:Yy)(k:Wy)(a:Int)(d:Wy)(b:Int):aq P P' (ax (ρ:=·)) ρ (Op.shift c k a d b) (Op.shift c k a d b):=by
 unfold Op.shift
 split
 ·exact eG L.S _ (by simp) (by simp) (by simp)
 ·cases c<;>first|exact .aC (.int _ _)|exact aq.stuck
def Gt(c:Yy)(a b:ByteArray):aq P P' (ax (ρ:=·)) ρ (Op.stringOp c a b) (Op.stringOp c a b):=by
 cases c
 all_goals
  unfold Op.stringOp;dsimp only
  first
  |exact .aC (.bool _)
  |exact aq.stuck
  |(split
    ·exact aq.dB
    ·exact .aC (.string _))
def RD(L:Alike G P P')(c:Yy)(t:Ui)(k:Wy)(a:Int)(d:Wy)(b:Int):aq P P' (ax (ρ:=·)) ρ (binOp c t (.int k a) (.int d b)) (binOp c t (.int k a) (.int d b)):=by
 cases c
 all_goals
  unfold binOp;dsimp only
  first
  |exact PS L _ _ _ _ _
  |(split
    ·exact aq.stuck
    ·first|exact Gp _ _ _ _|exact Nd L _ _ _ _|exact Kc _ _ _ _|exact Nc _ _ _)
def PK(L:Alike G P P')(c:Yy)(t:Ui){x l y m:U}(p:ax ρ x l)(k:ax ρ y m):aq P P' ax ρ (binOp c t x y) (binOp c t l m):=by
 have f:∀{x l y m:U},ax ρ x l->ax ρ y m->aq P P' ax ρ (do pure (.bool (<-Op.equal t x y))) (do pure (.bool (<-Op.equal t l m))):=λp k=>(Cp L t p k).bindM (λq h i _ j=>by cases j;exact .aC (.bool _));have g:∀{x l y m:U},ax ρ x l->ax ρ y m->aq P P' ax ρ (do pure (.bool (!(<-Op.equal t x y)))) (do pure (.bool (!(<-Op.equal t l m)))):=λp k=>(Cp L t p k).bindM (λq h i _ j=>by cases j;exact .aC (.bool _));have a:=p;have b:=k;have B:∀{w z:Option UK} (d:Wy) (o:Int),ax ρ (.pointer w) (.pointer z)->aq P P' ax ρ (do if (<-Xs t) matches .unsafePointer then movedPointer t (.pointer w) (.int d o) else movedNumber t (.pointer w) (.int d o)) (do if (<-Xs t) matches .unsafePointer then movedPointer t (.pointer z) (.int d o) else movedNumber t (.pointer z) (.int d o)):=λd o e=>by
  refine(aU L.S t).bindM (λq K O n H=>?_);obtain⟨rfl,-⟩:=H;have e:=e.mono n;cases K<;>first|exact yT L t d o e|exact jq L t d o e
 cases p using ax.ind with
 |int d h=>
  cases k using ax.ind with
  |int I i=>exact RD L c t d h I i
  |ptr e=>
   cases c<;>first
    |exact f (.int d h) (.ptr e)
    |exact g (.int d h) (.ptr e)
    |exact jq L t d h (.ptr e)
    |exact(jZ e).bindM (λq h i n j=>A4 L _ _ j.1)
    |exact aq.dB
  |dg=>
   cases c<;>first
    |exact f (.int d h) .dg
    |exact g (.int d h) .dg
    |exact jq L t d h .dg
    |exact aq.dB
  |_=>cases c<;>first|exact f a b|exact g a b|exact aq.stuck
 |string s=>
  cases k using ax.ind with
  |string J=>cases c<;>(unfold binOp;exact Gt _ s J)
  |ptr e=>cases c<;>first|exact f a b|exact g a b|exact aq.dB
  |dg=>cases c<;>first|exact f a b|exact g a b|exact aq.dB
  |_=>cases c<;>first|exact f a b|exact g a b|exact aq.stuck
 |ptr e=>
  cases k using ax.ind with
  |int d i=>
   cases c<;>first
    |exact f a b
    |exact g a b
    |exact B d i a
    |exact jq L t d (-i) a
    |exact(jZ e).bindM (λq h i n j=>A4 L _ _ j.1)
    |exact aq.dB
  |ptr A=>
   have F:aq P P' ax ρ (do Op.addrSub .u64 (<-WB _).1 (<-WB _).1) (do Op.addrSub .u64 (<-WB _).1 (<-WB _).1):=
    (jZ e).bindM (λq h i n j=>(jZ (A.mono n)).bindM (λM C D u r=>(vS L (j.1.mono u) r.1).bindM (λN x y _ v=>by cases v;exact .aC (.int _ _))))
   have E:∀c,aq P P' ax ρ (do Op.addrCmp c (<-WB _).1 (<-WB _).1) (do Op.addrCmp c (<-WB _).1 (<-WB _).1):=λc=>
    (jZ e).bindM (λq h i n j=>(jZ (A.mono n)).bindM (λM C D u r=>(vS L (j.1.mono u) r.1).bindM (λN x y _ v=>by cases v;cases c<;>first|exact .aC (.bool _)|exact aq.dB)))
   cases c<;>first
    |exact f a b
    |exact g a b
    |exact F
    |exact E _
    |exact aq.dB
  |_=>cases c<;>first|exact f a b|exact g a b|exact aq.dB
 |dg=>
  cases k using ax.ind with
  |int d i=>
   cases c<;>first
    |exact f a b
    |exact g a b
    |exact B d i a
    |exact jq L t d (-i) a
    |exact aq.dB
  |_=>cases c<;>first|exact f a b|exact g a b|exact aq.dB
 |_=>
  cases k using ax.ind with
  |ptr e=>cases c<;>first|exact f a b|exact g a b|exact aq.dB
  |dg=>cases c<;>first|exact f a b|exact g a b|exact aq.dB
  |_=>cases c<;>first|exact f a b|exact g a b|exact aq.stuck
end
end
section
variable {G:mo}
def fE (ρ:aT G)(f:List VQ)(g:List VQ):Prop:=∀a:List VQ->List VQ->Prop,(a [] [])->(∀{b c:VQ} {d e:List VQ} (h:sH ρ b c) (i:a d e),a (b::d) (c::e))->a f g
def fE.nil{ρ:aT G}:fE ρ [] []:=λb a c=>a
def fE.cons{ρ:aT G}{e e':VQ}{l b:List VQ}(h:sH ρ e e')(f:fE ρ l b):fE ρ (e::l) (e'::b):=λc d a=>a h (f c d a)
def fE.ind{ρ:aT G}{d:∀(a:List VQ) (b:List VQ),fE ρ a b->Prop}(nil:d _ _ (fE.nil))(cons:∀{e e':VQ} {l f:List VQ} (h:sH ρ e e') (c:fE ρ l f),(d _ _ c)->d _ _ (fE.cons h c)){a:List VQ}{b:List VQ}(h:fE ρ a b):d a b h:=(h (λa b=>fE ρ a b/\∀h,d a b h) (⟨fE.nil,λ_=>nil⟩) (λh c=>⟨fE.cons h c.1,λ_=>cons h c.1 (c.2 _)⟩)).2 h
def fE.mono{ρ σ:aT G}(b:ρ.le σ){l a:List VQ}(h:fE ρ l a):fE σ l a:=by
 induction h using fE.ind with
 |nil=>exact .nil
 |cons h _ c=>exact .cons (h.mono b) c
theorem DO{ρ:aT G}:∀(l a:List VQ),l.length=a.length->(∀i (h:i<l.length) (e:i<a.length),sH ρ l[i] a[i])->fE ρ l a
 | [],[],_,_=>.nil
 | [],_::_,h,_=>by simp at h
 |_::_,[],h,_=>by simp at h
 |v::l,f::a,h,b=>.cons (b 0 (by simp) (by simp)) (DO l a (by simpa using h) (λi c d=>b (i+1) (by simpa using c) (by simpa using d)))
def nS (ρ:aT G)(es b:Array VQ):Prop:=es.size=b.size/\∀a (c:a<es.size) (d:a<b.size),sH ρ es[a] b[a]
def nS.mono{ρ σ:aT G}(d:ρ.le σ){l a:Array VQ}(h:nS ρ l a):nS σ l a:=⟨h.1,λe b c=>(h.2 e b c).mono d⟩
def nS.toList{ρ:aT G}{es a:Array VQ}(h:nS ρ es a):fE ρ es.toList a.toList:=
 DO _ _ (by simpa using h.1) (λd b c=>by simpa using h.2 d (by simpa using b) (by simpa using c))
def plainKey(P:Ug):Nat->Ui->Bool
 |0,_=>Z
 |d+1,c=>match P.underlying c with
  |some (.interface _)=>T8
  |some (.array _ a)=>plainKey P d a
  |some (.struct b)=>b.toList.all λf=>plainKey P d f.type
  |_=>Z
section
variable {P P':Ug}{ρ:aT G}
theorem oH(L:Alike G P P')(j k:Bool):∀(d:Nat) {ρ:aT G} (t:Ui) {v c:U},plainKey P d t=Z->ax ρ v c->aq P P' (iZ (α:=Unit)) ρ (XU j d t v) (XU k d t c)
 |0,ρ,t,v,c,a,b=>by unfold XU;exact aq.dB
 |d+1,ρ,t,v,c,a,b=>by
  unfold XU;refine(aU L.S t).bindM (λJ z I y o=>?_);obtain⟨rfl,o⟩:=o;have b:=b.mono y;unfold plainKey at a;rw[o] at a;cases z with
  |interface E=>simp at a
  |struct u=>
   cases b using ax.ind with
   |agg l m=>
    dsimp only;refine aq.bindM (A:=iZ) (Gn u _ (λq g f w e=>?_)) (λq h e g n=>.aC Y);have x:plainKey P d f.type=Z:=by
     simp only at a;exact UA.1 a f w
    split
    ·refine(lJ L.S f.type (bf.mono g ⟨l,m⟩) _).bindM (λA v c r p=>?_);exact(oH L j k d f.type x p).bindM (λs h e _ _=>.aC Y)
    ·exact .aC Y
   |_=>exact aq.stuck
  |array D i=>
   cases b using ax.ind with
   |agg l m=>
    dsimp only;rw[Vy,Vy];refine aq.bindM (A:=iZ) (tw _ _ (λq g C _ e=>?_)) (λq h e g n=>.aC Y);refine(de L.S i).bindM (λA F H r n=>?_);cases n;refine(lJ L.S i (bf.mono (g.trans r) ⟨l,m⟩) _).bindM (λs v c B p=>?_);exact(oH L j k d i (by simpa using a) p).bindM (λs h e _ _=>.aC Y)
   |_=>exact aq.stuck
  |_=>cases b using ax.ind<;>exact .aC Y
def kU (ρ:aT G)(d:Option (Nat×U))(e:Option (Nat×U)):Prop:=∀a:Option (Nat×U)->Option (Nat×U)->Prop,(a K K)->(∀(b:Nat) {v c:U} (f:ax ρ v c),a (I (b,v)) (I (b,c)))->a d e
def kU.none{ρ:aT G}:kU ρ K K:=λb a c=>a
def kU.some{ρ:aT G}(i:Nat){v a:U}(h:ax ρ v a):kU ρ (I (i,v)) (I (i,a)):=λc d b=>b i h
def kU.ind{ρ:aT G}{c:∀(a:Option (Nat×U)) (b:Option (Nat×U)),kU ρ a b->Prop}(none:c _ _ (kU.none))(some:∀(i:Nat) {v d:U} (h:ax ρ v d),c _ _ (kU.some i h)){a:Option (Nat×U)}{b:Option (Nat×U)}(h:kU ρ a b):c a b h:=(h (λa b=>kU ρ a b/\∀h,c a b h) (⟨kU.none,λ_=>none⟩) (λi {v} {d} h=>⟨kU.some i h,λ_=>some i h⟩)).2 h
theorem tv(L:Alike G P P')(t:Ui):∀(es c:List VQ) {ρ:aT G} {k k':U} (i:Nat),ax ρ k k'->fE ρ es c->aq P P' kU ρ (Instr.findAsking t k es i) (Instr.findAsking t k' c i)
 | [],[],ρ,k,k',i,b,a=>.aC .none
 | [],_::_,ρ,k,k',i,b,a=>by cases a using fE.ind
 |_::_,[],ρ,k,k',i,b,a=>by cases a using fE.ind
 |e::es,m::c,ρ,k,k',i,b,a=>by
  cases a using fE.ind with
  |cons f h=>
   unfold Instr.findAsking;refine(Cp L t b f.key).bindM (λn j l d g=>?_);cases g
   split
   ·exact .aC (.some _ (f.val.mono d))
   ·exact tv L t es c _ (b.mono d) (h.mono d)
def Nu(d:TypeDesc){x a y b:U}(c:ax ρ x a)(e:ax ρ y b):Instr.sameNow d x y=Instr.sameNow d a b:=by
 cases c using ax.ind<;>cases e using ax.ind<;>first|rfl|(cases d<;>rfl)
theorem DT(d:TypeDesc){k k':U}(f:ax ρ k k'):∀(es b:List VQ) (i:Nat),fE ρ es b->(Instr.findNow d k es i=K/\Instr.findNow d k' b i=K)\/∃x g,Instr.findNow d k es i=I x/\Instr.findNow d k' b i=I g/\kU ρ x g
 | [],[],i,a=>.inr ⟨_,_,rfl,rfl,.none⟩
 | [],_::_,i,a=>by cases a using fE.ind
 |_::_,[],i,a=>by cases a using fE.ind
 |e::es,j::b,i,a=>by
  cases a using fE.ind with
  |cons c h=>
   unfold Instr.findNow;rw[Nu d f c.key]
   split
   ·exact .inr ⟨_,_,rfl,rfl,.some _ c.val⟩
   ·exact DT d f es b (i+1) h
   ·exact .inl ⟨rfl,rfl⟩
def A6(L:Alike G P P')(t:Ui){k k':U}{es a:List VQ}(e:ax ρ k k')(h:fE ρ es a):aq P P' kU ρ (Yn t k es) (Yn t k' a):=by
 unfold Yn;refine(aU L.S t).bindM (λn i j b g=>?_);obtain⟨rfl,-⟩:=g;rcases DT i (e.mono b) es a 0 (h.mono b) with⟨c,d⟩|⟨l,m,c,d,f⟩
 ·rw[c,d];exact tv L t es a 0 (e.mono b) (h.mono b)
 ·rw[c,d];exact .aC f
def Ng(L:Alike G P P')(t:Ui){x z k k':U}(ok:Bool)(C:∀a b,P.underlying t=I (.map a b)->plainKey P 10000 a=Z)(s:ax ρ x z)(h:ax ρ k k'):aq P P' ax ρ (Instr.lookup t x k ok) (Instr.lookup t z k' ok):=by
 unfold Instr.lookup;refine(aU L.S t).bindM (λR K Q p r=>?_);obtain⟨rfl,r⟩:=r;cases K with
 |map e n=>
  have u:∀{d:aT G} {f g:Array VQ},ρ.le d->nS d f g->aq P P' ax d (do
   XU f.isEmpty 10000 e k
   let (v,c) <-match <-Yn e k f.toList with
    |some (_,v)=>pure (v,Z)
    |none=>pure (<-Wo n,T8)
   pure (if ok then .tuple #[v,.bool c] else v)) (do
   XU g.isEmpty 10000 e k'
   let (v,c) <-match <-Yn e k' g.toList with
    |some (_,v)=>pure (v,Z)
    |none=>pure (<-Wo n,T8)
   pure (if ok then .tuple #[v,.bool c] else v)):=by
   intro d f g y B;have w:∀{d:aT G} {v m:U} (c:Bool),ax d v m->ax d (if ok then .tuple #[v,.bool c] else v) (if ok then .tuple #[m,.bool c] else m):=by
    intro d v m c j;cases ok
    ·exact j
    ·exact .tuple Y (λl o N=>by
      have:l=0\/l=1:=by simp at o;omega
      rcases this with rfl|rfl
      ·exact j
      ·exact .bool _)
   refine(oH L _ _ _ e (C _ _ r) (h.mono y)).bindM (λS a b i _=>?_);refine(A6 L e (h.mono (y.trans i)) (B.mono i).toList).bindM (λT a b O A=>?_);cases A using kU.ind with
   |none=>exact(jM L.S n).bindM (λV a b _ H=>.aC (w _ H))
   |some l j=>exact .aC (w _ j)
  have s:=s.mono p;cases s using ax.ind with
  |kF=>exact u p ⟨rfl,λl o=>by simp at o⟩
  |map E=>
   refine aq.bindM (A:=dL) (.getObj E (λc J q=>.pure q)) (λd c J i q=>?_);cases q using dL.ind with
   |map F D M=>exact u (p.trans i) ⟨F,D⟩
   |_=>exact aq.stuck
  |_=>exact aq.stuck
 |_=>exact aq.stuck
def Qm(f:U->U->Bool){l c:List U}(h:jd ρ l c):∀{m m':List U},jd ρ m m'->(∀x d y e,ax ρ x d->ax ρ y e->f x y=f d e)->((l.zip m).all fun(x,y)=>f x y)=((c.zip m').all fun(x,y)=>f x y):=by
 induction h using jd.ind with
 |nil=>intro m m' _ _;simp
 |cons g _ j=>
  intro m m' a b;cases a using jd.ind with
  |nil=>simp
  |cons i a=>
   simp only[List.zip_cons_cons,List.all_cons];rw[b _ _ _ _ g i,j a b]
def MY{a a' b b':Nat}(c:ρ.f a=I a')(d:ρ.f b=I b'):(a==b)=(a'==b'):=by
 have:=r8 (ρ:=ρ) (a:=⟨a,0,K⟩) (a':=⟨a',0,K⟩) (b:=⟨b,0,K⟩) (b':=⟨b',0,K⟩) ⟨c,rfl,rfl⟩ ⟨d,rfl,rfl⟩;simpa using this
theorem uR:∀(n:Nat) {x c y d:U},ax ρ x c->ax ρ y d->XB n x y=XB n c d
 |0,x,c,y,d,e,f=>by
  cases e using ax.ind<;>cases f using ax.ind<;>first
   |rfl
   |(rename_i a _ _ b;simp only[XB];have:=addr_eq a b;simpa using this)
   |(rename_i a _ _ b;simp only[XB];have:=MY a b;simpa using this)
 |n+1,x,c,y,d,e,f=>by
  cases e using ax.ind<;>cases f using ax.ind<;>first
   |rfl
   |(rename_i a _ _ b;simp only[XB];have:=addr_eq a b;simpa using this)
   |(rename_i a _ _ b;simp only[XB];have:=MY a b;simpa using this)
   |(rename_i a _ _ _ b _ _;simp only[XB];rw[uR n a b])
   |(rename_i a b _ _ g h _ _;simp only[XB,a,g];rw[Qm (XB n) (bf.toList ⟨a,b⟩) (bf.toList ⟨g,h⟩) (λ_ _ _ _ i j=>uR n i j)])
end
end
section
variable {G:mo}
section
variable {P P':Ug}{ρ:aT G}
def nS.push{es a:Array VQ}(h:nS ρ es a){e e':VQ}(b:sH ρ e e'):nS ρ (es.push e) (a.push e'):=by
 refine⟨by simp[h.1],λc d f=>?_⟩;simp only[Array.getElem_push];have:=h.1
 split
 ·rw[dif_pos (by omega)];exact h.2 c _ _
 ·rw[dif_neg (by omega)];exact b
def nS.modify{es a:Array VQ}(h:nS ρ es a)(i:Nat){f f':VQ->VQ}(c:∀e e',sH ρ e e'->sH ρ (f e) (f' e')):nS ρ (es.modify i f) (a.modify i f'):=by
 refine⟨by simp[h.1],λb d g=>?_⟩;simp only[Array.getElem_modify]
 split
 ·exact c _ _ (h.2 b _ _)
 ·exact h.2 b _ _
def yS{a a' b b':U}(d:ax ρ a a')(c:ax ρ b b'):aq P P' ax ρ (Instr.keyThatStays a b) (Instr.keyThatStays a' b'):=by
 unfold Instr.keyThatStays;rw[uR _ d c]
 split
 ·exact .aC c
 ·refine qf _ (λe=>.aC ?_)
  split
  ·exact c
  ·exact d
def vP(L:Alike G P P')(t:Ui){m m' k k' v j:U}(M:∀a b,P.underlying t=I (.map a b)->plainKey P 10000 a=Z)(q:ax ρ m m')(d:ax ρ k k')(C:ax ρ v j):aq P P' (iZ (α:=Unit)) ρ (Instr.mapUpdate t m k v) (Instr.mapUpdate t m' k' j):=by
 unfold Instr.mapUpdate;refine(aU L.S t).bindM (λad R ab y s=>?_);obtain⟨rfl,s⟩:=s;cases R with
 |map E aa=>
  have q:=q.mono y;cases q using ax.ind with
  |kF=>exact eG L.S _ (by simp) (by simp) (by simp)
  |map A=>
   refine aq.bindM (A:=dL) (.getObj A (λO Q r=>.pure r)) (λV O Q z r=>?_);cases r using dL.ind with
   |map N J u=>
    rename_i l w;have x:nS V l w:=⟨N,J⟩;have p:=y.trans z;refine(oH L _ _ _ E (M _ _ s) (d.mono p)).bindM (λae _ _ e _=>?_);refine(A6 L E (d.mono (p.trans e)) (x.mono e).toList).bindM (λW a b n H=>?_);have c:=x.mono (e.trans n);have f:=p.trans (e.trans n);have B:=(z.trans (e.trans n)) _ _ A;cases H using kU.ind with
    |none=>
     have:=c.push (e:=⟨k,v,u⟩) (e':=⟨k',j,u⟩) ⟨d.mono f,C.mono f,rfl⟩;exact .setObj B (.map this.1 this.2 _) (.pure Y)
    |some g D=>
     have K:ax W ((l[g]?.map (·.key)).getD k) ((w[g]?.map (·.key)).getD k'):=by
      by_cases i:g<l.size
      ·rw[UW i,UW (by rw[<-c.1];exact i)];exact(c.2 g i (by rw[<-c.1];exact i)).key
      ·rw[Vm (by omega),Vm (by have:=c.1;omega)];exact d.mono f
     refine(yS K (d.mono f)).bindM (λal S T o D=>?_);have:=(c.mono o).modify g (f:=λh=>{h with key:=S,val:=v}) (f':=λh=>{h with key:=T,val:=j}) (λh X F=>⟨D,C.mono (f.trans o),F.born⟩);exact .setObj (o _ _ B) (.map this.1 this.2 _) (.pure Y)
   |_=>exact aq.stuck
  |_=>exact aq.stuck
 |_=>exact aq.stuck
def Cr{v a:U}(h:ax ρ v a):aq P P' (iZ (α:=Nat)) ρ (Ym v) (Ym a):=by
 cases h using ax.ind<;>first|exact .aC rfl|exact aq.stuck
def N8(s:ByteArray):bf ρ (s.data.map λb=>.int .u8 b.toNat) (s.data.map λb=>.int .u8 b.toNat):=
 ⟨rfl,λd a c=>by simp only[Array.getElem_map];exact .int _ _⟩
def j3(a n:Nat){v b:U}(h:ax ρ v b):aq P P' bf ρ (Xn a n v) (Xn a n b):=by
 cases h using ax.ind with
 |sl d m c=>exact vO _ d
 |jW m c=>exact .aC (bf.nil _)
 |string s=>exact .aC (N8 _)
 |_=>exact aq.stuck
def SG(L:Alike G P P')(j:Array Ui)(t:Ui){vs m:Array U}(h:bf ρ vs m):aq P P' ax ρ (Builtin.len_ j t vs) (Builtin.len_ j t m):=by
 unfold Builtin.len_;cases j[0]? with
 |none=>rcases h.get 0 with⟨b,c⟩|⟨v,A,b,c,d⟩<;>(rw[b,c];exact aq.stuck)
 |some y=>
  rcases h.get 0 with⟨b,c⟩|⟨v,A,b,c,d⟩
  ·rw[b,c];exact aq.stuck
  ·rw[b,c];dsimp only;refine(aU L.S y).bindM (λB k z l e=>?_);obtain⟨rfl,e⟩:=e;have d:=d.mono l;cases k with
   |pointer o=>
    refine(aU L.S o).bindM (λB k z l e=>?_);obtain⟨rfl,e⟩:=e;cases k<;>first|exact .aC (.int _ _)|exact aq.stuck
   |array x D=>exact .aC (.int _ _)
   |map n p=>
    cases d using ax.ind with
    |map f=>
     refine aq.bindM (A:=dL) (.getObj f (λg i a=>.pure a)) (λC g i u a=>?_);cases a using dL.ind with
     |map w E q=>dsimp only;rw[w];exact .aC (.int _ _)
     |_=>exact aq.stuck
    |kF=>exact .aC (.int _ _)
    |_=>exact aq.stuck
   |chan n p=>
    cases d using ax.ind with
    |chan f=>
     refine aq.bindM (A:=dL) (.getObj f (λg i a=>.pure a)) (λC g i u a=>?_);cases a using dL.ind with
     |chan x r q s F H=>dsimp only;rw[r.1];exact .aC (.int _ _)
     |_=>exact aq.stuck
    |iN=>exact .aC (.int _ _)
    |_=>exact aq.stuck
   |_=>cases d using ax.ind<;>first|exact .aC (.int _ _)|exact aq.stuck
def RA(L:Alike G P P')(n:Array Ui)(t:Ui){vs q:Array U}(h:bf ρ vs q):aq P P' ax ρ (Builtin.copy_ n t vs) (Builtin.copy_ n t q):=by
 unfold Builtin.copy_;cases n[0]? with
 |none=>exact aq.stuck
 |some x=>
  rcases h.get 0 with⟨k,l⟩|⟨v,D,k,l,m⟩
  ·rw[k,l];exact aq.stuck
  ·rw[k,l];rcases h.get 1 with⟨i,j⟩|⟨E,F,i,j,e⟩
   ·rw[i,j];exact aq.stuck
   ·rw[i,j];dsimp only;refine(aU L.S x).bindM (λH y C d p=>?_);obtain⟨rfl,p⟩:=p;cases y with
    |slice o=>
     have m:=m.mono d;cases m using ax.ind with
     |jW w r=>
      refine(Cr (e.mono d)).bindM (λz b c f a=>?_);cases a;refine(de L.S o).bindM (λA b c g a=>?_);cases a;exact(j3 _ _ (e.mono (d.trans (f.trans g)))).bindM (λB b c _ _=>.aC (.int _ _))
     |sl s w r=>
      refine(Cr (e.mono d)).bindM (λz b c f a=>?_);cases a;refine(de L.S o).bindM (λA b c g a=>?_);cases a;refine(j3 _ _ (e.mono (d.trans (f.trans g)))).bindM (λB b c u a=>?_);exact(j4 _ _ 0 (s.mono (f.trans (g.trans u))) a.toList).bindM (λI b c _ _=>.aC (.int _ _))
     |_=>exact aq.stuck
    |_=>exact aq.stuck
def tA{a a':UK}(n:Nat)(h:cO ρ a a'):aq P P' (iZ (α:=Bool)) ρ (Xo a n) (Xo a' n):=by
 unfold Xo;refine(oI h.1).bindM (λf d e c b=>?_);cases b;rw[h.2.1,h.2.2]
 split<;>exact .aC Y
def fU (ρ:aT G)(d:Option UK)(e:Option UK):Prop:=∀a:Option UK->Option UK->Prop,(a K K)->(∀{b c:UK} (f:cO ρ b c),a (I b) (I c))->a d e
def fU.none{ρ:aT G}:fU ρ K K:=λb a c=>a
def fU.some{ρ:aT G}{a a':UK}(h:cO ρ a a'):fU ρ (I a) (I a'):=λc d b=>b h
def fU.ind{ρ:aT G}{d:∀(b:Option UK) (c:Option UK),fU ρ b c->Prop}(none:d _ _ (fU.none))(some:∀{a a':UK} (h:cO ρ a a'),d _ _ (fU.some h)){b:Option UK}{c:Option UK}(h:fU ρ b c):d b c h:=(h (λb c=>fU ρ b c/\∀h,d b c h) (⟨fU.none,λ_=>none⟩) (λh=>⟨fU.some h,λ_=>some h⟩)).2 h
def vQ(k:Nat){o o':Option UK}(g:fU ρ o o'):∀{σ:aT G} {x a:U},ρ.le σ->ax σ x a->aq P P' (iZ (α:=Bool)) σ (match x with| .slice (I b) _ _=>do pure (!(<-Xo b k)||o.any (·.block==b.block))|_=>pure T8) (match a with| .slice (I b) _ _=>do pure (!(<-Xo b k)||o'.any (·.block==b.block))|_=>pure T8):=by
 intro σ x a f h;cases h using ax.ind with
 |sl c m i=>
  refine(tA _ c).bindM (λn x l j e=>?_);cases e;cases g using fU.ind with
  |none=>exact .aC Y
  |some d=>
   refine .aC ?_;simp only[Option.any_some,r8 (d.mono f) c];rfl
 |_=>exact .aC Y
def Gr(h sl n:Nat){o o':Option UK}{x i:U}(e:fU ρ o o')(g:ax ρ x i):aq P P' (iZ (α:=Bool)) ρ (Yc h sl n o x) (Yc h sl n o' i):=by
 unfold Yc;have f:=e;cases e using fU.ind with
 |none=>exact vQ _ f (aT.le.refl _) g
 |some c=>
  refine(tA _ c).bindM (λp j l b a=>?_);cases a;refine(qh ((c.mono b).add _)).bindM (λq k m d a=>?_);cases a;cases j<;>cases k<;>first|exact aq.aC (A:=iZ (α:=Bool)) rfl|exact vQ _ f (b.trans d) (g.mono (b.trans d))
def N9{z a:Array U}(h:bf ρ z a)(n:Nat):bf ρ (Builtin.zeroCells z n) (Builtin.zeroCells a n):=by
 unfold Builtin.zeroCells;rw[<-h.1];have:=lY h (n*z.size);rw[<-h.1] at this;exact this
end
end
section
variable {G:mo}
section
variable {P P':Ug}{ρ:aT G}
def yu (a:Ui)(d m n c:Nat)(o:Option UK)(x:U):Wv U:=do
 let b <-choose (Question.appendCap (m+n) c a);let f <-XE a
 askRoom (b*f.bytes)
 let h <-Xn d m (Vc o m c);let g <-Xn d n x;let i <-Wo a;let e <-newRow a (h++g++Builtin.zeroCells i.cells (b-(m+n)))
 pure (Vc (I e) (m+n) b)
def yt (a:Ui)(b m n c:Nat)(o:Option UK)(x:U):Wv U:=do
 let e <-XE a
 if Builtin.nextslicecap (m+n) c*e.bytes>2^48 then
  (do
    let d <-Yc b m n o x
    if (!d)=Z then do
     mark Mark.noRoom
     unsupported (YI "append: a slice or a string whose bytes no memory bears")
    else unsupported (YI "append: a slice or a string whose bytes no memory bears"):Wv PUnit) >>= λ_=>yu a b m n c o x
 else yu a b m n c o x
def m9 (b:Ui)(a m n c:Nat)(o:Option UK)(x:U):Wv U:=
 if m+n<=c then do
  let f <-Xn a n x
  match o with
   |some d=>do
    storeCells (d.add (m*a)) f.toList
    pure (Vc o (m+n) c)
   |_=>pure (Vc o (m+n) c)
 else do
  let e <-XE b
  if ((m+n:Nat):Int)>XO.max/\(False\/e.bytes=0) then do
   runtimePanic (Y2 "growslice: len out of range")
   yt b a m n c o x
  else yt b a m n c o x
def fU.mono{σ:aT G}(a:ρ.le σ){o o':Option UK}(h:fU ρ o o'):fU σ o o':=by
 cases h using fU.ind with
 |none=>exact .none
 |some h=>exact .some (h.mono a)
def fU.slice{o o':Option UK}(h:fU ρ o o')(m c:Nat):ax ρ (.slice o m c) (.slice o' m c):=by
 cases h using fU.ind with
 |none=>exact .jW _ _
 |some h=>exact .sl h _ _
def PO(L:Alike G P P')(a:Ui)(b m n c:Nat){o o':Option UK}{x f:U}(t:fU ρ o o')(u:ax ρ x f):aq P P' ax ρ (yu a b m n c o x) (yu a b m n c o' f):=by
 unfold yu;refine qf _ (λB=>?_);refine(fS L.S a).bindM (λE z A p l=>?_);obtain⟨rfl,-⟩:=l;refine(A5 _).bindM (λF _ _ q _=>?_);have e:=p.trans q;refine(j3 b m ((t.mono e).slice m c)).bindM (λH g w r j=>?_);refine(j3 b n (u.mono (e.trans r))).bindM (λI h y s k=>?_);refine(jM L.S a).bindM (λJ C D d v=>?_);exact(qi a (((j.mono (s.trans d)).append (k.mono d)).append (N9 v.cells _))).bindM (λK g h _ i=>.aC (.sl i _ _))
def PN(L:Alike G P P')(a:Ui)(d m n c:Nat){o o':Option UK}{x g:U}(e:fU ρ o o')(f:ax ρ x g):aq P P' ax ρ (yt a d m n c o x) (yt a d m n c o' g):=by
 unfold yt;refine(fS L.S a).bindM (λs q r b k=>?_);obtain⟨rfl,-⟩:=k
 split
 ·refine aq.bindM (A:=λ_ (_ _:PUnit)=>False) ?_ (λ_ _ _ _ i=>i.elim);refine(Gr _ _ _ (e.mono b) (f.mono b)).bindM (λt h l p j=>?_);cases j;cases h
  ·exact aq.room (.halt (.same _ Y))
  ·exact aq.dB
 ·exact PO L a d m n c (e.mono b) (f.mono b)
def J5(L:Alike G P P')(b:Ui)(d m n c:Nat){o o':Option UK}{x h:U}(f:fU ρ o o')(g:ax ρ x h):aq P P' ax ρ (m9 b d m n c o x) (m9 b d m n c o' h):=by
 unfold m9
 split
 ·refine(j3 d n g).bindM (λl p q a i=>?_);cases f using fU.ind with
  |none=>exact .aC (.jW _ _)
  |some e=>exact(j4 _ _ 0 ((e.mono a).add _) i.toList).bindM (λt _ _ k _=>.aC (.sl (e.mono (a.trans k)) _ _))
 ·refine(fS L.S b).bindM (λl r s a j=>?_);obtain⟨rfl,-⟩:=j
  split
  ·exact uK L _ (by simp) (by simp) (by simp)
  ·exact PN L b d m n c (f.mono a) (g.mono a)
def M9(L:Alike G P P')(e:Array Ui)(t:Ui){vs D:Array U}(Q:∀f,e[1]? =I f->∀k,P.underlying f≠I (.int k))(h:bf ρ vs D):aq P P' ax ρ (XY e t vs) (XY e t D):=by
 unfold XY;cases e[0]? with
 |none=>exact aq.stuck
 |some R=>
  rcases h.get 0 with⟨p,q⟩|⟨v,C,p,q,j⟩
  ·rw[p,q];exact aq.stuck
  ·rw[p,q];rcases h.get 1 with⟨n,o⟩|⟨E,F,n,o,i⟩
   ·rw[n,o];exact aq.stuck
   ·rw[n,o];dsimp only;refine(aU L.S R).bindM (λH S X x A=>?_);obtain⟨rfl,A⟩:=A;cases S with
    |slice g=>
     have j:=j.mono x;have i:=i.mono x;obtain⟨b,l,m,a,rfl,rfl,N⟩|M:(∃b l m a,v= .slice b m a/\C= .slice l m a/\fU H b l)\/((∀b m a,v≠.slice b m a)/\∀b m a,C≠.slice b m a):=by
      cases j using ax.ind with
      |jW m a=>exact .inl ⟨_,_,_,_,rfl,rfl,.none⟩
      |sl K m a=>exact .inl ⟨_,_,_,_,rfl,rfl,.some K⟩
      |_=>exact .inr ⟨by simp,by simp⟩
     ·dsimp only;refine(de L.S g).bindM (λY u T y r=>?_);cases r;have B:∀{w:aT G},H.le w->aq P P' ax w (Ym E >>= λd=>m9 g u m d a b E) (Ym F >>= λd=>m9 g u m d a l F):=λc=>
       (Cr (i.mono c)).bindM (λZ d W z r=>by
         cases r;exact J5 L g u m d a (N.mono (c.trans z)) (i.mono (c.trans z)))
      cases O:e[1]? with
      |none=>
       simp only[pure_bind,UC,if_false,Bool.not_false,if_true];exact B y
      |some f=>
       refine(aU L.S f).bindM (λw J V c s=>?_);obtain⟨rfl,s⟩:=s;cases J with
       |int k=>exact absurd s (Q f O k)
       |_=>
        simp only[pure_bind,UC,if_false,Bool.not_false,if_true];exact B (y.trans c)
     ·cases j using ax.ind<;>first|exact aq.stuck|exact absurd rfl (M.1 _ _ _)
    |_=>exact aq.stuck
end
end
end Rl
namespace Cc
open Go
section
variable {P P':Ug}{O:Xx->Prop}{α β:Type}
def Av(s:FloatKind)(b:Nat)(d:Wy):St P P' O (Conv.floatToInt s b d):=by
 unfold Conv.floatToInt
 (try dsimp only)
 repeat' first|exact aA _|exact cX _|refine ag ?_ (λ_=>?_)|split|dsimp only|exact trivial
def zB(n:Int):St P P' O (Conv.intToString n):=by
 unfold Conv.intToString;exact trivial
def uZ(b:Twin P P')(a:Plain O)(e:Ui)(s:ByteArray):St P P' O (Conv.stringToBytes e s):=by unfold Conv.stringToBytes;((try dsimp only);repeat' first|exact cX _|exact jO a _ _|exact oo b a _|assumption|(refine ag ?_ (λ_=>?_))|intro _|split|(dsimp only)|exact trivial)
def u7(b:Twin P P')(a:Plain O)(e:Ui)(s:ByteArray):St P P' O (Conv.stringToRunes e s):=by unfold Conv.stringToRunes;((try dsimp only);repeat' first|exact cX _|exact jO a _ _|assumption|(refine ag ?_ (λ_=>?_))|intro _|split|(dsimp only)|exact trivial)
def GU(a:Twin P P')(b:Plain O)(s d:Ui)(x:U)(h:FO P s d=Z):St P P' O (convert s d x):=by
 unfold convert;refine iP (xz a s) λm i=>?_;refine iP (xz a d) λf k=>?_;unfold FO at h;rw[i,k] at h;cases m<;>first|(simp at h;done)|skip
 ·rename_i p;cases f<;>first|(simp at h;done)|skip
  cases x<;>first|exact trivial|exact aY _ rfl|(rename_i c;cases c<;>exact aY _ rfl)|skip
  exact Av _ _ _
 ·rename_i g;cases f<;>first|(simp at h;done)|skip
  ·cases x<;>first|exact trivial|skip
   all_goals first
    |exact zB _
    |(refine iP (xz a g) λe j=>?_;dsimp only at h;rw[j] at h;cases e<;>first|(simp at h;done)|skip
      rename_i l;cases l<;>first|(simp at h;done)|exact uT a b _)
  ·cases x with
   |string s=>
    refine ag (aI a _) λe=>?_
    split
    ·exact uZ a b _ _
    ·exact u7 a b _ _
    ·exact aA _
   |slice c q o=>
    cases c with
    |none=>exact aY _ Y
    |some n=>
     refine ag (aI a _) λe=>?_
     split
     ·exact ag (oo a b _) λ_=>trivial
     ·exact aY _ Y
   |_=>exact aY _ Y
def ET(a:Twin P P')(b:Plain O)(e:Ui)(s m n c:Nat)(o:Option UK)(x:U):St P P' O (Rl.yu e s m n c o x):=by
 unfold Rl.yu;exact ag (cX _) λ_=>ag (bM a _) λ_=>ag (zv _) λ_=>ag (kR _ _ _) λ_=>ag (kR _ _ _) λ_=>ag (fK a _) λ_=>ag (jO b _ _) λ_=>trivial
def ES(a:Twin P P')(b:Plain O)(e:Ui)(s m n c:Nat)(o:Option UK)(x:U):St P P' O (Rl.yt e s m n c o x):=by
 unfold Rl.yt;refine ag (bM a _) λf=>?_
 split
 ·refine ag (ag (EX a b _ _ _ _ _) λd=>?_) λ_=>ET a b _ _ _ _ _ _ _
  split
  ·exact ag Bq λ_=>aY _ Y
  ·exact aY _ Y
 ·exact ET a b _ _ _ _ _ _ _
def GQ(a:Twin P P')(b:Plain O)(e:Ui)(s m n c:Nat)(o:Option UK)(x:U):St P P' O (Rl.m9 e s m n c o x):=by
 unfold Rl.m9
 split
 ·refine ag (kR _ _ _) λd=>?_
  split
  ·exact ag (js _ _ _) λ_=>trivial
  ·exact trivial
 ·refine ag (bM a _) λf=>?_
  split
  ·exact ag (bP a b _) λ_=>ES a b _ _ _ _ _ _ _
  ·exact ES a b _ _ _ _ _ _ _
def Lx (P:Ug)(a:Array Ui):Bool:=match a[1]? with
 |some b=>match P.underlying b with|some (.int _)=>T8|_=>Z
 |none=>Z
def KE(a:Twin P P')(k:Plain O)(b:Array Ui)(t:Ui)(f:Array U)(h:Lx P b=Z):St P P' O (XY b t f):=by
 unfold XY
 split
 ·refine ag (aI a _) λs=>?_
  split
  ·split
   ·rename_i e _ j _ o m g _;refine ag (bV a _) λp=>?_;have d:St P P' O (Ym e >>= λc=>Rl.m9 j p m c g o e):=ag (EV _) λc=>GQ a k _ _ _ _ _ _ _;unfold Lx at h;cases n:b[1]? with
    |none=>
     simp only[pure_bind,UC,if_false,Bool.not_false,if_true];exact d
    |some q=>
     rw[n] at h;refine iP (xz a q) λi l=>?_;dsimp only at h;rw[l] at h;cases i with
     |int r=>simp at h
     |_=>
      simp only[pure_bind,UC,if_false,Bool.not_false,if_true];exact d
   ·exact aA _
  ·exact aA _
 ·exact aA _
end
def Du (P:Ug)(b:Builtin)(a:Array Ui):Bool:=match b with
 | .len| .copy| .min| .unsafeString=>Z
 | .append=>Lx P a
 |_=>T8
def mE (P:Ug)(b:Bool):Op->Bool
 | .move _| .assign _| .pick _ _ _| .alloc _| .box _ _| .build _ _| .buildSlice _ _ _| .load _ _| .store _ _ _| .nilCheck _| .binOp _ _ _ _ _| .unOp _ _ _| .makeInterface _ _| .makeFunc _ _ _| .makeMap _ _| .makeSlice _ _ _| .slice _ _ _ _ _| .fieldAddr _ _ _| .field _ _ _| .indexAddr _ _ _| .index _ _ _| .lookup _ _ _ _| .mapUpdate _ _ _ _| .extract _ _| .panic _=>Z
 | .convert s d _=>FO P s d
 | .call a=>match a.callee with
  | .builtin .recover=> !b
  | .builtin c=>Du P c a.argTypes
  |_=>Z
 | .defer a=> !b&&(match a.callee with| .builtin _=>T8|_=>Z)
 |_=>T8
def bn (P:Ug)(b:Bool):WX->Bool
 | .region _ e _=>e.toList.all λd=>mE P b d.op
 | .seq a c=>bn P b a&&bn P b c
 | .cond _ a c=>bn P b a&&bn P b c
 | .block _ a| .loop a=>bn P b a
 | .rangeFunc _ _ a c=>bn P Z a&&bn P Z c
 | .skip| .exit _| .ret| .refuse _=>Z
 | .goto _| .label _| .scope _=>T8
def lM:Target->Bool
 | .nil| .fn _ _| .collected _=>Z
 |_=>T8
def bk (P:Ug):Xx->Prop
 | .loop a=>bn P Z a.assign=Z/\bn P Z a.body=Z/\∀b,a.pending=I b->bn P Z b=Z
 | .deferred (I d)=>∀c∈d,lM c.target=Z
 | .pending _ _=>False
 | .coro _=>False
 |_=>True
def eB(P:Ug):Plain (bk P):=⟨λ_ _ _=>trivial,λ_ _ a=>a,λa=>a,⟨{state:=.ready,pending:=K,fn:=0,tmps:= #[],params:= #[],assign:=.skip,body:=.skip,defers:=0},rfl,rfl,λb a=>by cases a⟩⟩
def pF (P:Ug)(d:Bool):Next->Prop
 | .value _| .skip| .enter _ _=>True
 | .recover=>d=T8
 | .defer c=>lM c.target=Z
 | .round _ _ _ a b=>bn P Z a=Z/\bn P Z b=Z
 |_=>False
structure Ext(P P':Ug):Prop where
 named:∀(f:Nat) (fn:WD),P.funcs[f]? =I fn->(fn.name == "runtime.NumGoroutine")=T8
 next:∀(f:Nat) (fn:WD),P.funcs[f]? =I fn->fn.body.isNone=Z->Extern.findNext fn=K
 find:∀(f:Nat) (fn:WD) (e:Array U->Wv U),P.funcs[f]? =I fn->fn.body.isNone=Z->YC fn=I e->∀args,St P P' (bk P) (e args)
section
variable {P P':Ug}{O:Xx->Prop}{α β:Type}
def qx(a:Twin P P')(t:Ui)(x:Place):St P P' O (x.get t):=by
 cases x with
 |val v=>exact trivial
 |var b=>exact oT a _ _
theorem uV(a:Twin P P')(b:Plain O):∀(l:List FieldStep) (t:Ui) (x:Place),St P P' O (follow l t x)
 | [],t,x=>trivial
 |s::d,t,x=>by
  have c:=uV a b d;unfold follow
  ((try dsimp only);repeat' first|exact aI a _|exact aA _|exact oh a b _|exact gX a _ _ _|exact c _ _|exact qx a _ _|exact rO a b _ _|assumption|(refine ag ?_ (λ_=>?_))|(refine bW ?_ ?_)|intro _|split|(dsimp only)|exact trivial)
def G5(c:Twin P P')(d:Plain O)(g:Array Ui)(t:Ui)(x:U)(a b:ByteArray):St P P' O (Builtin.ssaWrapNilChk_ g t #[x,.string a,.string b]):=by
 have e:∀s:String,St P P' O (stuck s:Wv U):=λs=>aA s;unfold Builtin.ssaWrapNilChk_;cases x with
 |pointer f=>
  cases f with
  |some a=>exact trivial
  |none=>
   refine ag (cX _) λh=>?_
   ((try dsimp only);repeat' first|exact bM c _|exact aI c _|exact aA _|exact bP c d _|exact cX _|(refine aY _ ?_;rfl)|assumption|(refine ag ?_ (λ_=>?_))|(refine bW ?_ ?_)|intro _|split|(dsimp only)|exact trivial)
 |_=>exact e _
def rR(a:Twin P P')(b:Plain O)(t:Ui)(x:Place)(p:Bool)(w:Option String):St P P' O (receiverAt t x p w):=by
 unfold receiverAt
 ((try dsimp only);repeat' first|exact aI a _|exact aA _|exact oh a b _|exact oT a _ _|exact qx a _ _|exact G5 a b _ _ _ _ _|assumption|(refine ag ?_ (λ_=>?_))|intro _|split|(dsimp only)|exact trivial)
def zC(c:Twin P P')(a:Plain O)(t:Ui)(v:U)(p:Array FieldStep)(b:Bool):St P P' O (receiverVia t v p b):=by
 unfold receiverVia
 ((try dsimp only);repeat' first|exact uV c a _ _ _|exact rR c a _ _ _ _|assumption|(refine ag ?_ (λ_=>?_))|intro _|split|(dsimp only)|exact trivial)
theorem Bo(a:Twin P P')(b:Plain O):∀(n:Nat) (t:Ui) (v:U) (s:String),St P P' O (Go.method n t v s)
 |0,t,v,s=>aY _ Y
 |n+1,t,v,s=>by
  have c:=Bo a b n;unfold Go.method
  ((try dsimp only);repeat' first|exact bM a _|exact aA _|exact bP a b _|(refine aY _ ?_;rfl)|exact c _ _ _|exact uV a b _ _ _|exact rR a b _ _ _ _|exact qx a _ _|assumption|(refine ag ?_ (λ_=>?_))|intro _|split|(dsimp only)|exact trivial)
theorem qu(a:Twin P P')(b:Plain O):∀(l:List FieldStep) (t:Ui) (x:Option U),St P P' O (followBlind l t x)
 | [],t,x=>trivial
 |s::d,t,x=>by
  have c:=qu a b d;unfold followBlind
  ((try dsimp only);repeat' first|exact aI a _|exact aA _|exact gX a _ _ _|exact c _ _|assumption|(refine ag ?_ (λ_=>?_))|intro _|split|(dsimp only)|exact trivial)
theorem vZ(a:Twin P P')(b:Plain O):∀(n:Nat) (t:Ui) (v:U) (s:String),St P P' O (nilAhead n t v s)
 |0,t,v,s=>trivial
 |n+1,t,v,s=>by
  have c:=vZ a b n;unfold nilAhead
  ((try dsimp only);repeat' first|exact bM a _|exact aI a _|exact aA _|exact c _ _ _|exact qu a b _ _ _|assumption|(refine ag ?_ (λ_=>?_))|intro _|split|(dsimp only)|exact trivial)
def qs(l:Twin P P')(c:Ext P P')(n:Bool)(f:V2)(args:Array U):Still P P' (bk P) (pF P n) (callFunc f args):=by
 unfold callFunc;refine cD ?_ ?_
 ·rcases l.Ra f with b|⟨a,o,g,h,i,j,k⟩
  ·rw[b]
  ·rw[g,h];simp only[i,j,k,UC,if_false]
 ·cases d:P.funcs[f]? with
  |none=>exact aA _
  |some a=>
   dsimp only;rw[if_neg (by rw[c.named f a d];simp)]
   split
   ·rename_i e;refine ag ⟨.inr ⟨_,rfl⟩,trivial⟩ λ_=>?_;rw[c.next f a d e];dsimp only;cases m:YC a with
    |some b=>exact ag (c.find f a b d e m args) λ_=>trivial
    |none=>exact bW trivial (aY _ Y)
   ·exact trivial
def rN(a:Twin P P')(d:Ext P P')(c:Bool)(v:U)(s:String)(args:Array U):Still P P' (bk P) (pF P c) (callMethod v s args):=by
 have b:=eB P;unfold callMethod
 split
 ·refine cD (by rw[a.TQ]) ?_;exact ag (Bo a b _ _ _ _) λ_=>qs a d c _ _
 ·exact bP a b _
 ·exact aA _
def mT(l:Nat):Still P P' (bk P) (λr=>bk P (.loop r)) (Instr.getLoop l):=by
 unfold Instr.getLoop;refine jF l (λb a=>?_) (pV Y)
 split
 ·exact a
 ·exact aA _
def NQ(b:Bool)(l:Nat)(args:Array U):Still P P' (bk P) (pF P b) (Instr.yield l args):=by
 unfold Instr.yield;refine iP (mT l) λc a=>?_;dsimp only
 split
 ·exact ag (aA _) λ_=>⟨a.1,a.2.1⟩
 ·exact⟨a.1,a.2.1⟩
def GS(c:Twin P P')(b:Builtin)(d:Array Ui)(t:Ui)(cs:Array Bool)(args:Array U)(h:Du P b d=Z)(e:Bool):Still P P' (bk P) (pF P e) (builtin b d t cs args):=by
 have a:=eB P;unfold builtin;cases b<;>first|(simp[Du] at h;done)|skip
 ·exact ag (KE c a _ _ _ h) λ_=>trivial
 ·exact ag (PZ c a _ _ _) λ_=>trivial
 ·exact ag (RJ c a _ _ _) λ_=>trivial
 ·exact ag (RK _ _ _) λ_=>trivial
 ·exact ag (xa c a _ _ _) λ_=>trivial
def yz (P:Ug)(b:Bool):Target->Bool
 | .builtin .recover _ _ _=> !b
 | .builtin a c _ _=>Du P a c
 | .coroexit _=>T8
 |_=>Z
def uX(a:Twin P P')(c:Ext P P')(b:Bool)(t:Target)(args:Array U)(h:yz P b t=Z):Still P P' (bk P) (pF P b) (invoke t args):=by
 have e:=eB P;unfold invoke
 split
 ·exact bP a e _
 ·rename_i d i t g;by_cases f:d= .recover
  ·subst f;simp only[yz,Bool.not_eq_true'] at h;exact h
  ·exact GS a d i t g args (by cases d<;>first|exact absurd Y f|exact h) b
 ·exact qs a c b _ _
 ·split
  ·exact rN a c b _ _ _
  ·exact aA _
 ·split
  ·refine ag (aI a _) λj=>?_;exact rN a c b _ _ _
  ·exact aA _
 ·split
  ·exact ag (zC a e _ _ _ _) λ_=>qs a c b _ _
  ·exact aA _
 ·exact NQ b _ _
 ·exact aA _
 ·simp[yz] at h
def zD(P P':Ug)(a:Bool)(ρ:U7->U)(c:Call)(t:Ui)(h:(match c.callee with| .builtin .recover=> !a| .builtin b=>Du P b c.argTypes|_=>Z)=Z):Still P P' (bk P) (λd=>yz P a d.target=Z) (X7 ρ c t):=by
 unfold X7;dsimp only
 split
 ·rename_i b e;rw[e] at h;show yz P a (.builtin b c.argTypes t _)=Z;unfold yz;cases b<;>first|exact h|rfl
 ·exact rfl
 ·unfold XP
  split
  ·exact rfl
  ·exact rfl
  ·exact aA _
def EZ(P P':Ug)(ρ:U7->U)(c:Call)(t:Ui)(h:(match c.callee with| .builtin _=>T8|_=>Z)=Z):Still P P' (bk P) (λd=>lM d.target=Z) (X7 ρ c t):=by
 unfold X7;dsimp only
 split
 ·rename_i b a;rw[a] at h;cases h
 ·exact rfl
 ·unfold XP
  split
  ·exact rfl
  ·exact rfl
  ·exact aA _
def P3(a:Twin P P')(l:Ext P P')(d:Bool)(ρ:U7->U)(o:Oper)(h:mE P d o.op=Z):Still P P' (bk P) (pF P d) (execOp ρ o):=by
 have b:=eB P;have m:∀g i,bk P (.number g i):=λ_ _=>trivial;have f:∀k c,bk P (.map k c):=λ_ _=>trivial;unfold execOp;cases n:o.op<;>rw[n] at h<;>first|(simp[mE] at h;done)|skip
 all_goals dsimp only
 case move=>exact trivial
 case assign=>exact trivial
 case pick=>exact ag (uS _) λ_=>trivial
 case alloc=>exact ag (NE a b _ _ _) λ_=>trivial
 case box=>exact ag (RI a b _ _) λ_=>trivial
 case build=>exact ag (NG a b _ _) λ_=>trivial
 case buildSlice=>exact ag (Au a b _ _ _) λ_=>trivial
 case load=>exact ag (KH a b _ _) λ_=>trivial
 case store=>exact ag (G3 a b _ _ _) λ_=>trivial
 case nilCheck=>
  split
  all_goals first
   |exact bP a b _
   |exact trivial
   |skip
  split
  ·exact bP a b _
  ·refine cD (by rw[a.TQ]) ?_;refine ag (vZ a b _ _ _ _) λp=>?_
   split
   ·exact ag (aY _ Y) λ_=>trivial
   ·exact trivial
  ·exact trivial
 case binOp=>exact ag (ag (GW a b _ _ _ _ _ _) λ_=>NF a b m _ _ _ _) λ_=>trivial
 case unOp=>exact ag (NP _ _) λ_=>trivial
 case convert=>exact ag (GU a b _ _ _ h) λ_=>trivial
 case makeInterface=>exact ag (uY a b _ _) λ_=>trivial
 case makeFunc=>exact trivial
 case makeMap=>exact ag (G1 a b f _ _) λ_=>trivial
 case makeSlice=>exact ag (CN a b _ _ _) λ_=>trivial
 case slice=>exact ag (G2 a b _ _ _ _ _) λ_=>trivial
 case fieldAddr=>exact ag (GY a b _ _ _) λ_=>trivial
 case field=>exact ag (NJ a b _ _ _) λ_=>trivial
 case indexAddr=>exact ag (GZ a b _ _ _) λ_=>trivial
 case index=>exact ag (NK a b _ _ _) λ_=>trivial
 case lookup=>exact ag (KI a b _ _ _ _) λ_=>trivial
 case mapUpdate=>exact ag (CO a b f _ _ _ _) λ_=>trivial
 case extract=>exact ag (GX _ _) λ_=>trivial
 case panic=>exact ag (NL a b _) λ_=>trivial
 case call c=>exact iP (zD P P' d ρ c o.type h) λj e=>uX a l d _ _ e
 case defer c=>
  simp only[mE,Ux] at h;exact iP (EZ P P' ρ c o.type h.2) λj e=>e
end
structure o4(P P':Ug):Prop where
 T:Twin P P'
 E:Ext P P'
 quiet:∀f:Nat,(P'.funcs[f]?).any (·.norace)=(P.funcs[f]?).any (·.norace)
 mixed:P'.follows .mixedOrders=P.follows .mixedOrders
 bad:∀f:Nat,P'.funcs[f]? =P.funcs[f]? \/∃fn s,P.funcs[f]? =I fn/\fn.body=I (.refuse s)
 FC:∀(f:Nat) (fn:WD) (c:WX),P.funcs[f]? =I fn->fn.body=I c->bn P T8 c=Z
 view:Views P P'
def bY (P:Ug)(a:Bool):WO->Prop
 | .code b| .inLoop b=>bn P a b=Z
 | .inBlock _| .inRangeFunc _| .endRangeFunc _=>True
 | .beginRound=>a=Z
 | .inRegion d _=>(d.toList.all λc=>mE P a c.op)=Z
 |_=>False
structure mZ(P:Ug)(fr:Uu):Prop where
 todo:∀i∈fr.todo,bY P fr.roundOf.isSome i
 defers:∀d∈fr.defers,lM d.target=Z
 kind:fr.kind= .normal\/fr.kind= .deferred
def cZ:Uu->List Uu->Prop
 |fr,[]=>fr.kind= .normal
 |_,f::a=>cZ f a
structure eO(P:Ug)(fr:Uu)(aF:List Uu):Prop where
 top:mZ P fr
 rest:∀f∈aF,mZ P f
 bot:cZ fr aF
def IX (fr:Uu):Prop:=fr.mode= .run/\∃s,fr.todo=[.code (.refuse s)]
def C8 (n:Nat)(e:Vn):Prop:=match e.loc with
 | .obj b=>b<n
 | .cell a=>a.block<n
 | .mark m=>Conc.Neutral m
 |_=>True
def C8.mono{n m:Nat}(h:n<=m){e:Vn}(a:C8 n e):C8 m e:=by
 unfold C8 at*
 split<;>simp_all<;>omega
def CF(h:V2->Bool):∀(l:List Vn) (q:Bool) (kept:Array Vn),(∀e∈kept,∀f,e.loc≠.mark (.extern f))->∀e∈(l.foldl (Conc.seenStep h) (q,kept)).2,∀f,e.loc≠.mark (.extern f):=by
 intro l
 induction l with
 |nil=>exact λ_ _ a=>a
 |cons i l c=>
  intro q kept a;simp only[List.foldl_cons,Conc.seenStep]
  split
  ·exact c _ _ a
  ·rename_i g;refine c _ _ ?_
   split
   ·exact a
   ·intro e b;rcases Array.mem_push.1 b with b|rfl
    ·exact a e b
    ·exact λf d=>g f d
def EH{P:Ug}{fn:V2}{es:Array Vn}{n:Nat}(h:∀e∈es,zU n e):∀e∈seen P fn es,C8 n e:=by
 intro e c;have a:=h e (Conc.mem_seen c);have d:∀f,e.loc≠.mark (.extern f):=by
  rw[Conc.seen_def] at c;exact CF _ _ _ _ (λe h=>by simp at h) e c
 unfold zU at a;unfold C8;cases b:e.loc with
 |mark m=>
  rw[b] at a;rcases a with a|⟨f,rfl⟩
  ·exact a
  ·exact absurd b (d f)
 |cell g=>rw[b] at a;exact a
 |obj i=>rw[b] at a;exact a
 |_=>trivial
structure Dc(P P':Ug)(w:F)(F0:Ug->Bool->List Uu->F->Yu)(fr':Uu)(tops':List Uu)(w':F)(es:Array Vn):Prop where
 eq:∀m cs,F0 P m cs w= .go (Uh fr' (tops'++cs)) w' es
 ok:eO P fr' tops'
 hp:Hp (bk P) w'
 tape:w'.tape=w.tape
 drawn:w.drawn<=w'.drawn
 size:w.heap.size<=w'.heap.size
 os:w'.os=w.os
 output:w'.output=w.output
 evs:∀e∈es,C8 w'.heap.size e
 twin:(P≠P'/\IX fr')\/∀ τ d u,Un w u->Al w.tape w.drawn τ d (w'.drawn-w.drawn)->∃u',rY w u w' u'/\∀m cs,F0 P' m cs (sh τ d u)= .go (Uh fr' (tops'++cs)) (sh τ (d+(w'.drawn-w.drawn)) u') es
def BE (P P':Ug)(w:F)(c:Ug->Bool->List Uu->F->Yu):Prop:=
 (∀m d,∃f b a,c P m d w= .ended f b a)\/∃e g b a,Dc P P' w c e g b a
section
variable {P P':Ug}{w:F}
def iB(b:Hp (bk P) w)(fr':Uu)(tops':List Uu)(ok:eO P fr' tops'):BE P P' w (λR m cs w=>.go (Uh fr' (tops'++cs)) w):=
 .inr ⟨fr',tops',w,#[],λ_ _=>rfl,ok,b,rfl,T9 _,T9 _,rfl,rfl,λf a=>by simp at a,.inr λg e d c _=>⟨d,c.two,λm cs=>by simp⟩⟩
def Bb(v:Hp (bk P) w)(h:o4 P P')(f:V2)(args:Array U)(kind:CallKind)(u:kind= .normal\/kind= .deferred)(tops':List Uu)(x:∀f∈tops',mZ P f)(p:cZ (UZ P f args kind) tops'):
 BE P P' w (λR m cs w=>.go (Uh (UZ R f args kind) (tops'++cs)) w):=by
 have t:mZ P (UZ P f args kind):=by
  refine⟨λz i=>?_,λe q=>by simp[UZ] at q,u⟩;simp only[UZ,WJ] at i;subst i;show bn P T8 _=Z;cases r:P.funcs[f]? with
  |none=>rfl
  |some a=>
   cases b:a.body with
   |none=>simp[b,bn]
   |some k=>simpa [b] using h.FC f a k r b
 refine .inr ⟨UZ P f args kind,tops',w,#[],λ_ _=>rfl,⟨t,x,p⟩,v,rfl,T9 _,T9 _,rfl,rfl,λg l=>by simp at l,?_⟩;rcases h.bad f with g|⟨a,s,n,o⟩
 ·refine .inr λy e d c _=>⟨d,c.two,λm cs=>?_⟩;have:UZ P' f args kind=UZ P f args kind:=by unfold UZ;rw[g]
  simp[this]
 ·by_cases j:P=P'
  ·subst j;exact .inr λy e d c _=>⟨d,c.two,λm cs=>by simp⟩
  ·refine .inl ⟨j,rfl,s,?_⟩;simp[UZ,n,o]
def Kx(a:o4 P P')(f:V2)(es:Array Vn):seen P' f es=seen P f es:=by
 unfold seen;simp only[a.quiet]
def oK{α:Type}(t:o4 P P')(E:Hp (bk P) w)(f:V2){s:Wv α}{Q:α->Prop}(G:Still P P' (bk P) Q s){q:Ug->Bool->List Uu->F->Yu}(j:Ug->Bool->List Uu->XX α->Yu)
 (hF:∀R,R=P\/R=P'->∀m cs w,(∀h w',(s.runT R w #[]).1= .halt h w'->pp h=Z)->(∀a w',(s.runT R w #[]).1= .ok a w'->Q a)->q R m cs w=WS (seen R f (s.runT R w #[]).2) (j R m cs (s.runT R w #[]).1))
 (D:∀a w',Q a->Hp (bk P) w'->BE P P' w' (λR m cs w=>j R m cs (.ok a w)))
 (C:∀h w',pp h=Z->Hp (bk P) w'->BE P P' w' (λR m cs w=>j R m cs (.halt h w)))
 (I:∀y w' m cs,∃o p es,j P m cs (.halt (.stuck y) w')= .ended o p es):BE P P' w q:=by
 have b:=Nr (eB P) t.view s w #[] G E;rcases b.shift with⟨y,w',L⟩|H
 ·refine .inl λm cs=>?_;obtain⟨o,p,es,h⟩:=I y w' m cs;refine⟨o,p,seen P f (s.runT P w #[]).2++es,?_⟩;rw[hF P (.inl Y) _ _ _ b.halt b.ok,L,h];rfl
 have d:BE P P' (rW (s.runT P w #[]).1) (λR m cs n=>j R m cs (Om n (s.runT P w #[]).1)):=by
  cases h:(s.runT P w #[]).1 with
  |ok a e=>exact D a e (b.ok a e h) (by have:=b.hp;rw[h] at this;exact this)
  |halt i e=>exact C i e (b.halt i e h) (by have:=b.hp;rw[h] at this;exact this)
 have v:Om (rW (s.runT P w #[]).1) (s.runT P w #[]).1=(s.runT P w #[]).1:=by cases(s.runT P w #[]).1<;>rfl
 rcases d with d|⟨A,O,w',es,d⟩
 ·refine .inl λm cs=>?_;obtain⟨o,w',es,h⟩:=d m cs;dsimp only at h;rw[v] at h;refine⟨o,w',seen P f (s.runT P w #[]).2++es,?_⟩;rw[hF P (.inl Y) _ _ _ b.halt b.ok,h];rfl
 ·refine .inr ⟨A,O,w',seen P f (s.runT P w #[]).2++es,λm cs=>?_,d.ok,d.hp,d.tape.trans b.tape,Uz b.drawn d.drawn,Uz b.size d.size,d.os.trans b.os,d.output.trans b.output,λc B=>?_,?_⟩
  ·have:=d.eq m cs
   try dsimp only at this
   rw[v] at this;rw[hF P (.inl Y) _ _ _ b.halt b.ok,this];rfl
  ·rcases Array.mem_append.1 B with h|h
   ·refine C8.mono d.size (EH (λi g=>?_) c h);rcases b.evs i g with h|h
    ·simp at h
    ·exact h
   ·exact d.evs c h
  ·rcases d.twin with h|h
   ·exact .inl h
   ·refine .inr λz r n K u=>?_;have S:=b.drawn;have T:=d.drawn;obtain⟨u1,x,l⟩:=H z r n K (u.sub (by omega));obtain⟨u2,J,k⟩:=h z (r+((rW (s.runT P w #[]).1).drawn-w.drawn)) u1 x.un (by
     intro M N U;have:=u ((rW (s.runT P w #[]).1).drawn-w.drawn+M) N (by omega);rw[U6,b.tape,this];congr 1;omega)
    refine⟨u2,x.trans J,λm cs=>?_⟩;replace k:=k m cs;rw[hF P' (.inr Y) _ _ _ (λh w' c=>by
     rw[l] at c;cases g:(s.runT P w #[]).1 with
     |ok a e=>rw[g] at c;simp[Om] at c
     |halt i e=>
      rw[g] at c;simp only[Om,Y5] at c;rw[<-c.1];exact b.halt i e g) (λa w' c=>by
     rw[l] at c;cases g:(s.runT P w #[]).1 with
     |halt a e=>rw[g] at c;simp[Om] at c
     |ok i e=>
      rw[g] at c;simp only[Om,Result.ok.injEq] at c;rw[<-c.1];exact b.ok i e g),l]
    dsimp only at k ⊢;rw[k,Kx t];show GStep.go _ _ _=GStep.go _ _ _;congr 2;omega
end
def dQ (fr:Uu)(aF:List Uu)(R:Ug)(m:Bool)(cs:List Uu)(w:F):Yu:=UN R m (Uh fr (aF++cs)) w
section
variable {P P':Ug}{w:F}
def gI{b F':Ug->Bool->List Uu->F->Yu}(h:∀R,R=P\/R=P'->∀m cs w,b R m cs w=F' R m cs w)(a:BE P P' w F'):BE P P' w b:=by
 rcases a with a|⟨f,l,p,e,a⟩
 ·exact .inl λm cs=>by rw[h P (.inl Y)];exact a m cs
 ·exact .inr ⟨f,l,p,e,λm cs=>by rw[h P (.inl Y)];exact a.eq m cs,a.ok,a.hp,a.tape,a.drawn,a.size,a.os,a.output,a.evs,a.twin.imp id λg q c n k i=>by
  obtain⟨o,j,d⟩:=g q c n k i;exact⟨o,j,λm cs=>by rw[h P' (.inr Y)];exact d m cs⟩⟩
def uy{fr:Uu}(h:mZ P fr){k:List WO}(a:∀i∈k,bY P fr.roundOf.isSome i):mZ P {fr with todo:=k}:=⟨a,h.defers,h.kind⟩
theorem xT{fr b:Uu}(h:b.kind=fr.kind):∀{l:List Uu},cZ fr l->cZ b l
 | [],a=>h.trans a
 |_::_,a=>a
def iQ{fr a:Uu}{aF:List Uu}(h:eO P fr aF)(b:mZ P a)(c:a.kind=fr.kind):eO P a aF:=⟨b,h.rest,xT c h.bot⟩
def Jd{c:WX}(h:bn P Z c=Z):bn P T8 c=Z:=by
 have k:∀a,mE P Z a=Z->mE P T8 a=Z:=by
  intro a b;cases a<;>first|exact b|skip
  ·rename_i c;obtain⟨j,_,_⟩:=c;cases j with
   |builtin e=>cases e<;>first|rfl|exact b
   |_=>rfl
  ·simp[mE] at b
 induction c with
 |region _ l _=>
  simp only[bn,UA] at h ⊢;exact λa b=>k _ (h a b)
 |seq d e g i=>simp only[bn,Ux] at h ⊢;exact⟨g h.1,i h.2⟩
 |cond _ d e g i=>simp only[bn,Ux] at h ⊢;exact⟨g h.1,i h.2⟩
 |block _ d f=>exact f h
 |loop d f=>exact f h
 |rangeFunc _ _ d e _ _=>exact h
 |_=>first|rfl|(simp[bn] at h)
def OA{a:Bool}{c:WX}(h:bn P Z c=Z):bn P a c=Z:=by
 cases a
 ·exact Jd h
 ·exact h
theorem sg{c:Bool}{id:Nat}:∀{l k:List WO},(∀i∈l,bY P c i)->Yi id l=I k->∀i∈k,bY P c i
 | [],k,_,a=>by simp[Yi] at a
 |i::l,k,d,a=>by
  have b:∀i∈l,bY P c i:=λf e=>d f (by simp[e]);cases i<;>simp only[Yi] at a
  case inBlock g=>
   split at a
   ·cases a;exact b
   ·exact sg b a
  all_goals exact sg b a
def fC{fr:Uu}(h:mZ P fr)(v:U):mZ P (fr.finish v)/\(fr.finish v).kind=fr.kind:=by
 unfold VX;have a:=h.todo
 split
 ·rename_i g f i e b;rw[b] at a;exact⟨⟨λd c=>by
   rcases VN.1 c with rfl|c
   ·exact a (.inRegion g (f::i)) (by simp)
   ·exact a d (by simp[c]),h.defers,h.kind⟩,rfl⟩
 ·rename_i j e b;rw[b] at a;exact⟨⟨λd c=>by
   rcases VN.1 c with rfl|c
   ·exact trivial
   ·exact a d (by simp[c]),h.defers,h.kind⟩,rfl⟩
 ·rename_i e b;rw[b] at a;exact⟨⟨λd c=>a d (by simp[c]),h.defers,h.kind⟩,rfl⟩
 ·rename_i b;rw[b] at a;exact(a _ (Xu ..)).elim
 ·rename_i b;rw[b] at a;exact(a _ (Xu ..)).elim
 ·exact⟨h,rfl⟩
def k8{fr:Uu}(h:mZ P fr)(c:List Vs):mZ P (fr.raise c)/\(fr.raise c).kind=fr.kind:=by
 unfold Frame.raise
 split<;>exact⟨⟨h.todo,h.defers,h.kind⟩,rfl⟩
def Ew(l:Nat)(f:V2)(tmps:Array U)(a b:WX)(k:CallKind)(h:k= .normal\/k= .deferred)(d:bn P Z a=Z)(e:bn P Z b=Z):mZ P (WZ l f tmps a b k):=by
 refine⟨λj c=>?_,λi g=>by simp[WZ] at g,h⟩;simp only[WZ,VN,List.not_mem_nil,or_false] at c;rcases c with rfl|rfl|rfl
 ·exact d
 ·rfl
 ·exact e
def Gv{fr:Uu}{aF:List Uu}(h:eO P fr aF):
 (∀cs,Xr fr (aF++cs)=K)\/∃v tops',(∀cs,Xr fr (aF++cs)=I (v,tops'++cs))/\(∀f∈tops',mZ P f)/\cZ fr tops':=by
 obtain⟨l,j,e⟩:=h;rcases l.kind with a|a
 ·exact .inl λcs=>by unfold Xr;rw[a]
 ·cases aF with
  |nil=>exact absurd (e.symm.trans a) (by simp)
  |cons d i=>
   by_cases c:∃v b,d.mode= .panicking ({v,recovered:=T8,goexit:=T8}::b)
   ·obtain⟨v,b,c⟩:=c;refine .inr ⟨v,{d with mode:=.panicking ({v,recovered:=Z}::b)}::i,λcs=>?_,λf g=>?_,?_⟩
    ·unfold Xr;simp[a,c]
    ·rcases VN.1 g with rfl|g
     ·have:=j d (by simp);exact⟨this.todo,this.defers,this.kind⟩
     ·exact j f (by simp[g])
    ·cases i with
     |nil=>exact e
     |cons m i=>exact e
   ·refine .inl λcs=>?_;unfold Xr;simp only[a,We]
    split
    ·rename_i v b k;exact absurd ⟨v,b,k⟩ c
    ·rfl
def fO(a:Yu):WS #[] a=a:=by cases a<;>simp[WS]
def seen_none(R:Ug)(f:V2):seen R f #[]=#[]:=by simp[seen]
def uM(z:o4 P P')(J:Hp (bk P) w){fr:Uu}{aF:List Uu}(h:eO P fr aF){s:Wv Next}(L:Still P P' (bk P) (pF P fr.roundOf.isSome) s)(I:∀d wr M N k,fr.todo≠.call d wr M N::k):
 BE P P' w (λR m cs w=>VO R Z fr (aF++cs) K s w):=by
 have e:(fr.kind == .early)=T8:=by rcases h.top.kind with n|n<;>rw[n]<;>rfl
 have H:(match fr.todo with| .call _ Z _ _::_=>CallKind.wrapped|_=>.normal)= .normal:=by
  split
  ·rename_i n;exact absurd n (I _ _ _ _ _)
  ·rfl
 refine oK z J fr.fn L (λR m cs u=>match u with
  | .ok c w=>VO R Z fr (aF++cs) K (.pure c) w
  | .halt a w=>VO R Z fr (aF++cs) K (.halt a) w) (λR S m cs w o _=>?_) (λc y i g=>?_) (λa y b g=>?_) (λT y m cs=>⟨_,_,_,by simp only[VO,U5,seen_none,e,fO,if_true,UC,if_false];rfl⟩)
 ·unfold VO;simp only[if_true,e,UC,if_false];generalize E:s.runT R w #[]=D;obtain⟨u,Q⟩:=D;rw[E] at o;cases u with
  |ok c C=>simp[U5,fO,seen_none]
  |halt a C=>
   have:=o a C Y;cases a<;>first|(simp[pp] at this;done)|(simp[U5,fO,seen_none];done)|skip
   rename_i x;cases x<;>first|(simp[pp] at this;done)|(simp[U5,fO,seen_none];done)
 ·have r:∀v:U,BE P P' y (λR m cs w=>.go (Uh (fr.finish v) (aF++cs)) w):=λv=>iB g _ _ (iQ h (fC h.top v).1 (fC h.top v).2);have j:∀(R:Ug) (cs:List Uu) (w:F),VO R Z fr (aF++cs) K (.pure c) w=(match c with
   | .value v=>GStep.go (Uh (fr.finish v) (aF++cs)) w
   | .skip=>.go (Uh (fr.finish Vl) (aF++cs)) w
   | .enter f args=>.go (Uh (UZ R f args .normal) (fr::(aF++cs))) w
   | .round p f q a l=>.go (Uh (WZ p f q a l .normal) (fr::(aF++cs))) w
   | .defer d=>.go (Uh ({fr with defers:=d::fr.defers}.finish Vl) (aF++cs)) w
   |_=>VO R Z fr (aF++cs) K (.pure c) w):=by
   intro R cs w;cases c<;>first|rfl|skip
   all_goals simp[VO,U5,seen_none,e,fO,Uh]
   exact congrArg (UZ R _ _) H
  cases c with
  |value v=>exact gI (λR _ m cs w=>j R cs w) (r v)
  |skip=>exact gI (λR _ m cs w=>j R cs w) (r Vl)
  |enter f args=>exact gI (λR _ m cs w=>j R cs w) (Bb g z f args .normal (.inl Y) (fr::aF) (λa b=>by
   rcases VN.1 b with rfl|b
   ·exact h.top
   ·exact h.rest a b) h.bot)
  |round p f q a l=>exact gI (λR _ m cs w=>j R cs w) (iB g (WZ p f q a l .normal) (fr::aF) ⟨Ew p f q a l .normal (.inl Y) i.1 i.2,λa b=>by
   rcases VN.1 b with rfl|b
   ·exact h.top
   ·exact h.rest a b,h.bot⟩)
  |defer d=>
   have A:mZ P {fr with defers:=d::fr.defers}:=⟨h.top.todo,λa b=>by
    rcases VN.1 b with rfl|b
    ·exact i
    ·exact h.top.defers a b,h.top.kind⟩
   exact gI (λR _ m cs w=>j R cs w) (iB g _ _ (iQ h (fC A Vl).1 (fC A Vl).2))
  |recover=>
   have B:fr.roundOf=K:=by
    have:fr.roundOf.isSome=T8:=i;simpa using this
   rcases Gv h with t|⟨v,O,t,o,G⟩
   ·exact gI (λR _ m cs w=>by simp[VO,U5,seen_none,e,fO,Uh,B,t]) (r .nilIface)
   ·exact gI (λR _ m cs w=>by simp[VO,U5,seen_none,e,fO,Uh,B,t]) (iB g (fr.finish v) O ⟨(fC h.top v).1,o,xT (fC h.top v).2 G⟩)
  |_=>exact i.elim
 ·cases a with
  |panic v=>
   refine gI (F':=λR m cs w=>.go (Uh (fr.raise [{v,recovered:=T8}]) (aF++cs)) w) (λR _ m cs w=>?_) (iB g _ _ (iQ h (k8 h.top _).1 (k8 h.top _).2));simp[VO,U5,seen_none,e,fO,Uh]
  |stuck s=>exact .inl λm cs=>⟨_,_,_,by simp only[VO,U5,seen_none,e,fO,if_true,UC,if_false];rfl⟩
  |unsupported x=>
   refine .inl λm cs=>?_;cases x<;>first|(simp[pp] at b;done)|exact⟨_,_,_,by simp only[VO,U5,seen_none,e,fO,if_true,UC,if_false];rfl⟩
  |_=>simp[pp] at b
def oZ (fr:Uu)(aF:List Uu):Prop:=aF=[]->(fr.mode≠.run->fr.defers≠[])/\(fr.mode= .run->fr.roundOf=K\/(fr.todo≠[]/\(∀a,fr.todo≠.code .ret::a)/\∀id a,fr.todo= .code (.exit id)::a->Yi id a≠K))
def sw(A:o4 P P')(k:Hp (bk P) w){fr c:Uu}{aF:List Uu}(h:eO P fr (c::aF))(v:U):BE P P' w (λR m cs w=>Xb R m fr (c::aF++cs) K v w):=by
 have a:mZ P c:=h.rest c (by simp);have l:∀f∈aF,mZ P f:=λf p=>h.rest f (by simp[p]);have i:cZ c aF:=h.bot;rcases h.top.kind with b|b
 ·refine gI (F':=λR m cs w=>.go (Uh (c.finish v) (aF++cs)) w) (λR _ m cs w=>?_) (iB k _ _ ⟨(fC a v).1,l,xT (fC a v).2 i⟩);simp[Xb,b,Uh]
 ·obtain⟨e,n,q,o⟩:∃e:Uu,mZ P e/\e.kind=c.kind/\∀(R:Ug) (m:Bool) (cs:List Uu) (w:F),Xb R m fr (c::aF++cs) K v w= .go (Uh e (aF++cs)) w:=by
   cases d:c.mode with
   |run=>exact⟨c,a,rfl,λR m cs w=>by simp[Xb,b,d,Uh]⟩
   |returning=>exact⟨c,a,rfl,λR m cs w=>by simp[Xb,b,d,Uh]⟩
   |panicking r=>
    cases r with
    |nil=>exact⟨c,a,rfl,λR m cs w=>by simp[Xb,b,d,Uh]⟩
    |cons g s=>
     obtain⟨y,u,z⟩:=g;cases u with
     |false=>exact⟨c,a,rfl,λR m cs w=>by simp[Xb,b,d,Uh]⟩
     |true=>
      cases j:s.dropWhile (λg:Vs=> !g.goexit) with
      |nil=>exact⟨{c with mode:=.returning},⟨a.todo,a.defers,a.kind⟩,rfl,λR m cs w=>by simp[Xb,b,d,Uh,j]⟩
      |cons x t=>exact⟨{c with mode:=.panicking (x::t)},⟨a.todo,a.defers,a.kind⟩,rfl,λR m cs w=>by simp[Xb,b,d,Uh,j]⟩
  exact gI (λR _ m cs w=>o R m cs w) (iB k _ _ ⟨n,l,xT q i⟩)
end
section
variable {P P':Ug}{w:F}
def EO(l:Nat)(j:Option WX)(b:∀c,j=I c->bn P Z c=Z):St P P' (bk P) (Yd l j):=by
 unfold Yd;exact iP (mT l) λd a=>ag (mb _ ⟨a.1,a.2.1,b⟩) λ_=>trivial
def At(b:Twin P P')(l:Nat):St P P' (bk P) (Instr.beginRound l):=by
 unfold Instr.beginRound;refine iP (mT l) λc a=>ag (mb _ ⟨a.1,a.2.1,a.2.2⟩) λ_=>?_
 split
 ·exact trivial
 all_goals exact bP b (eB P) _
def GV(b:Twin P P')(l:Nat):Still P P' (bk P) (λj=>∀c,j=I c->bn P Z c=Z) (Instr.endLoop l):=by
 unfold Instr.endLoop;refine iP (mT l) λd a=>?_;dsimp only
 split
 ·exact ag (bP b (eB P) _) λ_=>ag (mb _ ⟨a.1,a.2.1,a.2.2⟩) λ_=>a.2.2
 ·exact ag (mb _ ⟨a.1,a.2.1,a.2.2⟩) λ_=>a.2.2
def CK(f:V2)(tmps:Array U)(ps:Array Tmp)(a b:WX)(h:Option Nat)(k:bn P Z a=Z)(l:bn P Z b=Z):Still P P' (bk P) (λp=>∀d∈p.2,lM d.target=Z) (Instr.enterLoop f tmps ps a b h):=by
 unfold Instr.enterLoop;have i:∀(e:Nat),bk P (.loop {state:=.ready,pending:=K,fn:=f,tmps,params:=ps,assign:=a,body:=b,defers:=e}):=λe=>⟨k,l,λr j=>by cases j⟩;cases h with
 |some m=>
  refine ag (TB (mT m)) λq=>iP (Q:=λp:Nat×List Wl=>∀d∈p.2,lM d.target=Z) (λd c=>by simp at c) λp g=>?_;obtain⟨e,n⟩:=p;exact ag (l9 (i _)) λo=>g
 |none=>
  refine ag (l9 (λd c=>by simp at c)) λq=>iP (Q:=λp:Nat×List Wl=>∀d∈p.2,lM d.target=Z) (λd c=>by
   simp only[WJ] at c;subst c;rfl) λp g=>?_
  obtain⟨e,n⟩:=p;exact ag (l9 (i _)) λo=>g
def wZ(b:Nat):Still P P' (bk P) (λds=>∀d∈ds,lM d.target=Z) (Instr.takeDeferred b):=by
 unfold Instr.takeDeferred;refine jF b (λc a=>?_) (pV Y)
 split
 ·exact ag (mb _ trivial) λ_=>a
 ·exact aA _
def uN(f:o4 P P')(g:Hp (bk P) w){fr:Uu}{aF:List Uu}(h:eO P fr aF)(q:aF=[]->fr.roundOf=K)(j:Option WX)(p:∀c,j=I c->bn P Z c=Z)
 {b:Ug->Bool->List Uu->F->Yu} (k:fr.roundOf=K->(∀m cs,∃o w' es,b P m cs w= .ended o w' es)\/∀R,R=P\/R=P'->∀m cs w,b R m cs w= .go (Uh {fr with mode:=.returning} (aF++cs)) w)
 (n:∀l,fr.roundOf=I l->∀R m cs w,b R m cs w=WS (seen R fr.fn ((Yd l j).runT R w #[]).2) (match ((Yd l j).runT R w #[]).1 with
   | .ok v w=>Xb R m fr (aF++cs) K v w
   | .halt _ w=>.ended (.stuck "range over a function: no such loop" (fr.pos R)) w)):BE P P' w b:=by
 cases d:fr.roundOf with
 |none=>
  rcases k d with e|e
  ·exact .inl e
  ·exact gI e (iB g _ _ (iQ h ⟨h.top.todo,h.top.defers,h.top.kind⟩ Y))
 |some l=>
  cases aF with
  |nil=>rw[q Y] at d;cases d
  |cons c aF=>
   refine oK f g fr.fn (EO l j p) (λR m cs r=>match r with
    | .ok v w=>Xb R m fr (c::aF++cs) K v w
    | .halt _ w=>.ended (.stuck "range over a function: no such loop" (fr.pos R)) w) (λR s m cs w _ _=>n l d R m cs w) (λa w' _ i=>?_) (λu w' t i=>?_) (λx w' m cs=>⟨_,_,_,rfl⟩)
   ·exact sw f i h a
   ·exact .inl λm cs=>⟨_,_,_,rfl⟩
def Nl(k:o4 P P')(u:Hp (bk P) w){fr:Uu}{aF:List Uu}(h:eO P fr aF)(V:oZ fr aF)(d:fr.mode= .run):BE P P' w (dQ fr aF):=by
 have X:=h.top.todo;have W:aF=[]->fr.roundOf=K\/(fr.todo≠[]/\(∀e,fr.todo≠.code .ret::e)/\∀id e,fr.todo= .code (.exit id)::e->Yi id e≠K):=λj=>(V j).2 d;cases b:fr.todo with
 |nil=>
  refine uN k u h (λj=>(W j).elim id λn=>absurd b n.1) K (λq j=>by cases j) (λJ=>.inr λc _ m a w=>?_) (λi x c m a w=>?_)
  ·simp[dQ,Uh,UN,UJ,d,b,J]
  ·simp only[dQ,Uh,UN,UJ,d,b,x];rfl
 |cons aa e=>
  rw[b] at X;have D:=X aa (by simp);have o:∀l∈e,bY P fr.roundOf.isSome l:=λl t=>X l (by simp[t]);have move:∀(M:List WO),(∀l∈M,bY P fr.roundOf.isSome l)->(∀c m a w,dQ fr aF c m a w= .go (Uh {fr with todo:=M} (aF++a)) w)->BE P P' w (dQ fr aF):=λM k j=>gI (λc _ m a w=>j c m a w) (iB u _ _ (iQ h (uy h.top k) Y));have r:∀{l:WO} {i:List WO},bY P fr.roundOf.isSome l->(∀l∈i,bY P fr.roundOf.isSome l)->∀n∈l::i,bY P fr.roundOf.isSome n:=λt x n y=>by
   rcases VN.1 y with rfl|y
   ·exact t
   ·exact x n y
  have T:(∀m a,∃N E ad,dQ fr aF P m a w= .ended N E ad)->BE P P' w (dQ fr aF):=λj=>.inl j;cases aa with
  |inBlock l=>exact move e o λc m a w=>by simp[dQ,Uh,UN,UJ,d,b]
  |inLoop q=>exact move (.code q :: .inLoop q::e) (r D (r D o)) λc m a w=>by simp[dQ,Uh,UN,UJ,d,b]
  |inScope q=>exact D.elim
  |call _ _ _ _=>exact D.elim
  |extern _ _=>exact D.elim
  |inRangeFunc i=>exact T λm a=>by simp[dQ,Uh,UN,UJ,d,b]
  |beginRound=>
   have V:Still P P' (bk P) (pF P fr.roundOf.isSome) (do fr.roundOf.elim (stuck "beginRound: no round") Instr.beginRound;pure .skip):=by
    refine ag ?_ λ_=>trivial;cases fr.roundOf with
    |none=>exact aA _
    |some i=>exact At k.T i
   refine gI (λc _ m a w=>?_) (uM k u h V (by simp[b]));simp only[dQ,Uh,UN,UJ,d,b]
  |endRangeFunc i=>
   refine oK k u fr.fn (GV k.T i) (λc m a R=>match R with
    | .ok an w=>.go (Uh {fr with todo:=(an.map Item.code).toList++e} (aF++a)) w
    | .halt (.panic v) w=>.go (Uh (fr.raise [{v,recovered:=T8}]) (aF++a)) w
    | .halt _ w=>.ended (.stuck "range over a function: no such loop" (fr.pos c)) w) (λc ae m a w _ _=>?_) (λp E H G=>?_) (λn E y G=>?_) (λS E m a=>⟨_,_,_,rfl⟩)
   ·simp only[dQ,Uh,UN,UJ,d,b];rfl
   ·refine iB G _ _ (iQ h (uy h.top λl t=>?_) Y);rcases U2.1 t with t|t
    ·cases p with
     |none=>simp at t
     |some q=>
      simp at t;subst t;exact OA (H q Y)
    ·exact o l t
   ·cases n with
    |panic v=>exact iB G _ _ (iQ h (k8 h.top _).1 (k8 h.top _).2)
    |_=>exact .inl λm a=>⟨_,_,_,rfl⟩
  |inRegion z ar=>
   cases ar with
   |nil=>exact move e o λc m a w=>by simp[dQ,Uh,UN,UJ,d,b]
   |cons l R=>
    by_cases L:((z[l]?).map (UG · (yielded z fr.tmps))).getD T8=Z
    ·cases O:z[l]? with
     |none=>rw[O] at L;simp at L
     |some N=>
      have U:mE P fr.roundOf.isSome N.op=Z:=by
       have:=UA.1 D N (by
        have:=Uc.1 O;obtain⟨t,rfl⟩:=this;simp)
       exact this
      refine gI (λc _ m a w=>?_) (uM k u h (P3 k.T k.E fr.roundOf.isSome fr.eval N U) (by simp[b]));rw[O] at L;simp only[dQ,Uh,UN,UJ,d,b,O,L,if_true,stepG.oper,Frame.oper?]
      split
      ·rename_i i q x g;rw[x,g] at U;simp[mE] at U
      ·rfl
    ·refine gI (F':=λc m a w=>.go (Uh (fr.finish Vl) (aF++a)) w) (λc _ m a w=>?_) (iB u _ _ (iQ h (fC h.top Vl).1 (fC h.top Vl).2));simp only[dQ,Uh,UN,UJ,d,b,L,if_false];rfl
  |code q=>
   have g:bn P fr.roundOf.isSome q=Z:=D;cases q with
   |skip=>exact move e o λc m a w=>by simp[dQ,Uh,UN,UJ,d,b]
   |label i=>simp[bn] at g
   |scope i=>simp[bn] at g
   |goto i=>simp[bn] at g
   |refuse s=>exact T λm a=>by simp[dQ,Uh,UN,UJ,d,b]
   |seq p F=>
    simp only[bn,Ux] at g;exact move (.code p :: .code F::e) (r g.1 (r g.2 o)) λc m a w=>by simp[dQ,Uh,UN,UJ,d,b]
   |block id p=>exact move (.code p :: .inBlock id::e) (r g (r trivial o)) λc m a w=>by simp[dQ,Uh,UN,UJ,d,b]
   |loop p=>exact move (.code p :: .inLoop p::e) (r g (r g o)) λc m a w=>by simp[dQ,Uh,UN,UJ,d,b]
   |cond n p F=>
    simp only[bn,Ux] at g;cases y:fr.eval n with
    |bool S=>
     refine move (.code (if S then p else F)::e) (r ?_ o) λc m a w=>by simp[dQ,Uh,UN,UJ,d,b,y]
     cases S
     ·exact g.2
     ·exact g.1
    |_=>exact T λm a=>by simp[dQ,Uh,UN,UJ,d,b,y]
   |ret=>
    refine uN k u h (λj=>(W j).elim id λn=>absurd b (n.2.1 e)) (I .ret) (λq j=>by cases j;rfl) (λJ=>.inr λc _ m a w=>?_) (λi x c m a w=>?_)
    ·simp[dQ,Uh,UN,UJ,d,b,J]
    ·simp only[dQ,Uh,UN,UJ,d,b,x];rfl
   |exit id=>
    cases C:Yi id e with
    |some M=>exact move M (sg o C) λc m a w=>by simp[dQ,Uh,UN,UJ,d,b,C]
    |none=>
     refine uN k u h (λj=>(W j).elim (λn=>n) λn=>absurd C (n.2.2 id e b)) (I (.exit id)) (λq j=>by cases j;rfl) (λJ=>.inl λm a=>?_) (λi x c m a w=>?_)
     ·simp[dQ,Uh,UN,UJ,d,b,C,J]
     ·simp only[dQ,Uh,UN,UJ,d,b,C,x];rfl
   |region id z ab=>
    cases ab with
    |false=>exact move (.inRegion z (List.range z.size)::e) (r g o) λc m a w=>by simp[dQ,Uh,UN,UJ,d,b]
    |true=>
     refine .inr ⟨{fr with todo:=.inRegion z (X3 (P.follows .mixedOrders) z (w.tape w.drawn (.order fr.fn id)))::e},aF,{w with drawn:=w.drawn+1},#[],λm a=>?_,iQ h (uy h.top (r g o)) Y,u,rfl,Nat.le_succ _,T9 _,rfl,rfl,λj C=>by simp at C,.inr λaw A av Q H=>⟨av,⟨⟨Q.size,Q.at_,Q.os,Q.output⟩,λF al=>⟨al,rfl⟩⟩,λm a=>?_⟩⟩
     ·simp[dQ,Uh,UN,UJ,d,b,choose,Wu,Question.forced,Question.cut]
     ·have:=H 0 (.order fr.fn id) (by simp);simp only[Nat.add_zero] at this;simp[dQ,Uh,UN,UJ,d,b,choose,Wu,Question.forced,Question.cut,k.mixed,sh,this]
   |rangeFunc f ap p F=>
    simp only[bn,Ux] at g;refine oK k u fr.fn (CK fr.fn fr.tmps ap p F fr.roundOf g.1 g.2) (λc m a R=>match R with
     | .ok (i,mark) w=>VO c Z {fr with todo:=.inRangeFunc i::e,defers:=mark++fr.defers} (aF++a) K (do let A <-X7 fr.eval {callee:=.value f,args:= #[.const (.func (.yield i) #[] #[])],argTypes:= #[]} 0;invoke A.target A.args) w
     | .halt _ w=>.ended (.stuck "range over a function: no such loop" (fr.pos c)) w) (λc ae m a w _ _=>?_) (λao E H G=>?_) (λn E y G=>?_) (λS E m a=>⟨_,_,_,rfl⟩)
    ·simp only[dQ,Uh,UN,UJ,d,b];rfl
    ·obtain⟨i,mark⟩:=ao;have am:mZ P {fr with todo:=.inRangeFunc i::e,defers:=mark++fr.defers}:=⟨r trivial o,λA B=>by
      rcases U2.1 B with B|B
      ·exact H A B
      ·exact h.top.defers A B,h.top.kind⟩
     exact uM k G (iQ h am Y) (iP (zD P P' fr.roundOf.isSome _ _ _ Y) λA B=>uX k.T k.E _ _ _ B) (by simp)
    ·exact .inl λm a=>⟨_,_,_,rfl⟩
def Mu{a:Bool}{t:Target}(h:lM t=Z):yz P a t=Z:=by
 cases t<;>first|rfl|(simp[lM] at h)
def Cv(j:o4 P P')(F:Hp (bk P) w){fr:Uu}{aF:List Uu}(h:eO P fr aF)(d:Wl)(E:lM d.target=Z)(J:fr.mode≠.run):BE P P' w (λR m cs w=>callDeferred R fr (aF++cs) K d w):=by
 obtain⟨o,u⟩:=d;by_cases y:o= .nil/\∃x,fr.mode= .panicking x
 ·obtain⟨rfl,x,D⟩:=y;refine .inl λm cs=>?_;dsimp only;unfold callDeferred;rw[if_pos ?hP]
  case hP=>simp[D]
  exact⟨_,_,_,rfl⟩
 ·have r:∀e,Hp (bk P) e->BE P P' e (λR m cs w=>.go (Uh fr (aF++cs)) w):=λe b=>iB b _ _ h;refine oK j F fr.fn (uX j.T j.E Z o u (Mu E)) (λR m cs q=>match q with
   | .ok (.enter f args) w=>.go (Uh (UZ R f args .deferred) (fr::aF++cs)) w
   | .ok (.round n f p g i) w=>.go (Uh (WZ n f p g i .deferred) (fr::aF++cs)) w
   | .ok _ w=>.go (Uh fr (aF++cs)) w
   | .halt (.panic v) w=>.go (Uh (fr.raise [{v,recovered:=T8}]) (aF++cs)) w
   | .halt a w=>.ended (match a with| .unsupported A=>.unsupported A (fr.pos R)| .stuck s=>.stuck s (fr.pos R)|_=>.stuck "" "") w) (λR H m cs w z l=>?_) (λg e k b=>?_) (λa e c b=>?_) (λL e m cs=>⟨_,_,_,rfl⟩)
  ·unfold callDeferred;rw[if_neg ?hL]
   case hL=>
    intro C;apply y;cases o<;>cases l:fr.mode<;>simp[l] at C ⊢
   generalize I:(invoke o u).runT R w #[]=B at z l;obtain⟨q,G⟩:=B;dsimp only;cases q with
   |ok g t=>
    have:=l g t Y;cases g<;>first|exact absurd this (λh=>h)|(cases this;done)|rfl
   |halt a t=>
    have:=z a t Y;cases a<;>first|(simp[pp] at this;done)|rfl
  ·cases g with
   |value v=>exact r e b
   |skip=>exact r e b
   |enter f args=>exact Bb b j f args .deferred (.inr Y) (fr::aF) (λa c=>by
    rcases VN.1 c with rfl|c
    ·exact h.top
    ·exact h.rest a c) h.bot
   |round n f p a i=>exact iB b (WZ n f p a i .deferred) (fr::aF) ⟨Ew n f p a i .deferred (.inr Y) k.1 k.2,λa c=>by
    rcases VN.1 c with rfl|c
    ·exact h.top
    ·exact h.rest a c,h.bot⟩
   |defer d=>exact r e b
   |recover=>cases k
   |_=>exact k.elim
  ·cases a with
   |panic v=>exact iB b _ _ (iQ h (k8 h.top _).1 (k8 h.top _).2)
   |stuck s=>exact .inl λm cs=>⟨_,_,_,rfl⟩
   |unsupported A=>exact .inl λm cs=>⟨_,_,_,rfl⟩
   |_=>simp[pp] at c
def zE(a:Twin P P')(fn:WD)(tmps:Array U):St P P' (bk P) (UY fn tmps):=by
 unfold UY;refine ag (IE _ _ λb=>?_) λe=>trivial;cases b with
 |tmp c=>exact trivial
 |cell d c=>exact ag (oh a (eB P) _) λ_=>oT a _ _
def Gw(i:o4 P P')(j:∀f:Nat,(P'.funcs[f]? =K↔P.funcs[f]? =K)/\∀fn c:WD,P.funcs[f]? =I fn->P'.funcs[f]? =I c->c.results=fn.results)(l:Hp (bk P) w){fr:Uu}{aF:List Uu}(h:eO P fr aF)(R:oZ fr aF)(u:fr.mode≠.run):BE P P' w (dQ fr aF):=by
 have J:∀a m b w,dQ fr aF a m b w=Yj a m fr (aF++b) K w:=λa m b w=>by
  unfold dQ;cases o:fr.mode<;>first|exact absurd o u|simp[Uh,UN,o]
 refine gI (λa _ m b w=>J a m b w) ?_;cases e:fr.defers with
 |cons r A=>
  have Q:lM r.target=Z:=h.top.defers r (by simp[e]);have D:mZ P {fr with defers:=A}:=⟨h.top.todo,λg d=>h.top.defers g (by simp[e,d]),h.top.kind⟩;have T:=Cv i l (iQ h D Y) r Q u;obtain⟨U,W⟩:=r;cases U with
  |collected E=>
   refine oK i l fr.fn (wZ E) (λa m b y=>match y with
    | .ok F w=>.go (Uh {fr with defers:=F++A} (aF++b)) w
    | .halt _ w=>.ended (.stuck "the deferred calls of a range-over-func loop have been taken" (fr.pos a)) w) (λa t m b w _ _=>?_) (λz p B n=>?_) (λg p d n=>?_) (λV p m b=>⟨_,_,_,rfl⟩)
   ·unfold Yj;rw[e];rfl
   ·exact iB n _ _ (iQ h ⟨h.top.todo,λg d=>by
     rcases U2.1 d with d|d
     ·exact B g d
     ·exact D.defers g d,h.top.kind⟩ Y)
   ·exact .inl λm b=>⟨_,_,_,rfl⟩
  |_=>
   refine gI (λa _ m b w=>?_) T;unfold Yj;rw[e]
 |nil=>
  cases aF with
  |nil=>exact absurd e ((R Y).1 u)
  |cons q aF=>
   have C:mZ P q:=h.rest q (by simp);have S:∀f∈aF,mZ P f:=λf j=>h.rest f (by simp[j]);cases x:fr.mode with
   |run=>exact absurd x u
   |panicking G=>
    have O:∀a,fr.catches a=T8:=λa=>by
     unfold Frame.catches
     split
     ·rename_i H;exact Yr (h.top.todo (Item.call _ _ _ _) (by rw[H];exact Xu ..))
     ·rfl
    refine gI (F':=λa m b w=>.go (Uh (q.raise G) (aF++b)) w) (λa _ m b w=>?_) (iB l _ _ ⟨(k8 C _).1,S,xT (k8 C _).2 h.bot⟩);unfold Yj;rw[e];simp[x,O,Uh]
   |returning=>
    cases k:P.funcs[fr.fn]? with
    |none=>
     have X:=(j fr.fn).1.2 k;refine gI (λa t m b w=>?_) (sw i l h (fr.tmps.getD 0 Vl));have:a.funcs[fr.fn]? =K:=by rcases t with rfl|rfl<;>assumption
     unfold Yj;rw[e];simp[x,this]
    |some fn=>
     refine oK i l fr.fn (zE i.T fn fr.tmps) (λa m b y=>match y with
      | .ok v w=>Xb a m fr (q::aF++b) K v w
      | .halt (.stuck s) w=>.ended (.stuck s (fr.pos a)) w
      | .halt _ w=>.ended (.stuck "return: the result variables cannot be read" (fr.pos a)) w) (λa t m b w _ _=>?_) (λz p B n=>?_) (λg p d n=>?_) (λV p m b=>⟨_,_,_,rfl⟩)
     ·have:∃c,a.funcs[fr.fn]? =I c/\c.results=fn.results:=by
       rcases t with rfl|rfl
       ·exact⟨fn,k,rfl⟩
       ·cases o:a.funcs[fr.fn]? with
        |none=>rw[(j fr.fn).1.1 o] at k;cases k
        |some c=>exact⟨c,rfl,(j fr.fn).2 fn c k o⟩
      obtain⟨c,L,M⟩:=this;have N:UY c fr.tmps=UY fn fr.tmps:=by unfold UY;rw[M]
      unfold Yj;rw[e];simp only[x,L,N];rfl
     ·exact sw i n h z
     ·cases g<;>exact .inl λm b=>⟨_,_,_,rfl⟩
def zg(b:o4 P P')(g:∀f:Nat,(P'.funcs[f]? =K↔P.funcs[f]? =K)/\∀fn a:WD,P.funcs[f]? =I fn->P'.funcs[f]? =I a->a.results=fn.results)(d:Hp (bk P) w){fr:Uu}{aF:List Uu}(h:eO P fr aF)(e:oZ fr aF):BE P P' w (dQ fr aF):=by
 by_cases c:fr.mode= .run
 ·exact Nl b d h e c
 ·exact Gw b g d h e c
end
structure Twins(P P':Ug):Prop where
 A:o4 P P'
 R:∀f:Nat,(P'.funcs[f]? =K↔P.funcs[f]? =K)/\∀fn fn':WD,P.funcs[f]? =I fn->P'.funcs[f]? =I fn'->fn'.results=fn.results
def Still.self{P P':Ug}{h:Xx->Prop}{α:Type}{Q:α->Prop}:∀{s:Wv α},Still P P' h Q s->Still P P h Q s:=by
 intro s
 induction s with
 |pure e=>intro a;exact a
 |load m e c b=>intro a v;exact b v (a v)
 |store m e v c b=>intro a;exact b a
 |new f c b=>intro a;exact⟨a.1,λd=>b d (a.2 d)⟩
 |shape d c b=>intro a s;exact b s (a s)
 |freeze e g c b=>intro a;exact b a
 |frozen e c b=>intro a i;exact b i (a i)
 |getObj d c b=>intro a;exact⟨λf j=>b f (a.1 f j),a.2⟩
 |setObj d f c b=>intro a;exact⟨a.1,b a.2⟩
 |choose l c b=>intro a g;exact b g (a g)
 |sys k c b=>intro a;exact⟨a.1,λd=>b d (a.2 d)⟩
 |program c b=>intro a;exact⟨rfl,b P a.2⟩
 |mark m c b=>intro a;exact⟨a.1,b a.2⟩
 |halt a=>intro a;exact a
def Views.self{P P':Ug}(h:Views P P'):Views P P:=by
 have i:∀(a:F) c d b m,a.viewLoad P' c d b m=a.viewLoad P c d b m:=λa c d b m=>h.load a a c d b m λ_ _ _=>Iff.rfl;have s:∀(a:F) c d b v m,a.viewStore P' c d b v m=a.viewStore P c d b v m:=λa c d b v m=>by
  rcases h.store a a c d b v m λ_ _ _=>Iff.rfl with⟨o,j,k⟩|⟨l,i,f,n,j,k,-⟩<;>rw[j,k]
 refine⟨λa e c d b m g=>(i e c d b m).symm.trans (h.load a e c d b m g),h.touch,λa e c d b v m g=>?_⟩;rw[<-s e];exact h.store a e c d b v m g
def Twins.self{P P':Ug}(h:Twins P P'):Twins P P:=
 ⟨⟨⟨λ_=>rfl,λ_=>rfl,rfl,λ_=>rfl,λ_=>rfl,rfl,λ_ _ _ _ _ _=>rfl,λ_ _ _ _ _=>rfl,λ_ _ _=>rfl,λ_ _=>rfl,λ_=>rfl,λ_ _=>rfl,rfl,rfl,rfl,λ_=>.inl Y⟩,
  ⟨h.A.E.named,h.A.E.next,λf c d b a e args=>(h.A.E.find f c d b a e args).self⟩,λ_=>rfl,rfl,λ_=>.inl Y,h.A.FC,h.A.view.self⟩,λf=>⟨Iff.rfl,λc g b a=>by rw[b] at a;cases a;rfl⟩⟩
structure BD(P:Ug)(w w':F)(es:Array Vn):Prop where
 hp:Hp (bk P) w'
 tape:w'.tape=w.tape
 drawn:w.drawn<=w'.drawn
 size:w.heap.size<=w'.heap.size
 os:w'.os=w.os
 output:w'.output=w.output
 evs:∀e∈es,C8 w'.heap.size e
def Fin (P P':Ug)(Stop:Uu->List Uu->F->Prop)(fr:Uu)(aF:List Uu)(w u:F):Prop:=
 ∀d:Uu->List Uu->F->F->Prop,(∀fr aF w u,Stop fr aF w->d fr aF w u)->
  (∀fr aF w u (c:Tp->Nat->Uu×List Uu×F×F×Array Vn),(∀b a m e,UN P' m (Uh fr (aF++e)) (sh b a u)= .go (Uh (c b a).1 ((c b a).2.1++e)) (c b a).2.2.2.1 (c b a).2.2.2.2)->
    (∀b a,BD P (sh b a w) (c b a).2.2.1 (c b a).2.2.2.2)->(∀b a,rY (sh b a w) (sh b a u) (c b a).2.2.1 (c b a).2.2.2.1/\(c b a).2.2.2.1.tape=(c b a).2.2.1.tape)->(∀b a,eO P (c b a).1 (c b a).2.1)->oZ fr aF->
    (∀b a,d (c b a).1 (c b a).2.1 (c b a).2.2.1 (c b a).2.2.2.1)->d fr aF w u)->d fr aF w u
def Fin.stop{P P':Ug}{Stop:Uu->List Uu->F->Prop}{fr:Uu}{aF:List Uu}{w u:F}(h:Stop fr aF w):Fin P P' Stop fr aF w u:=λb a _=>a _ _ _ _ h
def Fin.step{P P':Ug}{Stop:Uu->List Uu->F->Prop}{fr:Uu}{aF:List Uu}{w u:F}(b:Tp->Nat->Uu×List Uu×F×F×Array Vn)(go:∀a d m cs,UN P' m (Uh fr (aF++cs)) (sh a d u)= .go (Uh (b a d).1 ((b a d).2.1++cs)) (b a d).2.2.2.1 (b a d).2.2.2.2)
 (g:∀a d,BD P (sh a d w) (b a d).2.2.1 (b a d).2.2.2.2) (j:∀a d,rY (sh a d w) (sh a d u) (b a d).2.2.1 (b a d).2.2.2.1/\(b a d).2.2.2.1.tape=(b a d).2.2.1.tape) (ok:∀a d,eO P (b a d).1 (b a d).2.1) (i:oZ fr aF) (h:∀a d,Fin P P' Stop (b a d).1 (b a d).2.1 (b a d).2.2.1 (b a d).2.2.2.1):Fin P P' Stop fr aF w u:=
 λe f c=>c _ _ _ _ b go g j ok i λa d=>h a d e f c
def bF:Uu:={(default:Uu) with todo:=[.code (.refuse "")],defers:=[{target:=.nil,args:= #[]}],mode:=.run,kind:=.normal}
section
variable {P P':Ug}
def CS(c:Option (List Vs))(w:F):∃o w' es,UN P Z (Uh ((c.map bF.raise).getD bF) []) w= .ended o w' es:=by
 cases c with
 |none=>simp[Uh,UN,UJ,bF]
 |some a=>simp[Uh,UN,bF,Frame.raise,Yj,callDeferred]
def Tx(N:Twins P P'){fr:Uu}{w:F}(Q:Hp (bk P) w)(h:eO P fr [])(t:¬oZ fr []):(∃o w' es,UN P Z (Uh fr [bF]) w= .ended o w' es)\/∃c w' es,UN P Z (Uh fr [bF]) w= .go (Uh (((c:Option (List Vs)).map bF.raise).getD bF) []) w' es:=by
 have E:fr.kind= .normal:=h.bot;have q:∀v w,Xb P Z fr [bF] K v w= .go (Uh bF []) w:=λv w=>by simp[Xb,E,Uh,VX,bF]
 have r:∀es g,((∃o w' es,g=GStep.ended o w' es)\/∃c w' es,g=GStep.go (Uh (((c:Option (List Vs)).map bF.raise).getD bF) []) w' es)->(∃o w' j,WS es g=GStep.ended o w' j)\/∃c w' j,WS es g=GStep.go (Uh (((c:Option (List Vs)).map bF.raise).getD bF) []) w' j:=by
  rintro es g (⟨o,w',j,rfl⟩|⟨c,w',j,rfl⟩)
  ·exact .inl ⟨_,_,_,rfl⟩
  ·exact .inr ⟨c,_,_,rfl⟩
 by_cases e:fr.mode= .run
 ·
  have M:∃b p,fr.roundOf=I b/\∀w,UN P Z (Uh fr [bF]) w=WS (seen P fr.fn ((Yd b p).runT P w #[]).2) (match ((Yd b p).runT P w #[]).1 with
   | .ok v w=>Xb P Z fr [bF] K v w
   | .halt _ w=>.ended (.stuck "range over a function: no such loop" (fr.pos P)) w):=by
   have:¬(fr.roundOf=K\/(fr.todo≠[]/\(∀a,fr.todo≠.code .ret::a)/\∀id a,fr.todo= .code (.exit id)::a->Yi id a≠K)):=λD=>t λ_=>⟨λh=>absurd e h,λ_=>D⟩;rw[not_or] at this;obtain⟨J,n⟩:=this;obtain⟨b,d⟩:∃b,fr.roundOf=I b:=by
    cases L:fr.roundOf with
    |none=>exact absurd L J
    |some b=>exact⟨b,rfl⟩
   by_cases s:fr.todo=[]
   ·exact⟨b,K,d,λw=>by simp only[Uh,UN,UJ,e,s,d];rfl⟩
   ·by_cases k:∃a,fr.todo= .code .ret::a
    ·obtain⟨a,k⟩:=k;exact⟨b,I .ret,d,λw=>by simp only[Uh,UN,UJ,e,k,d];rfl⟩
    ·by_cases l:∃id a,fr.todo= .code (.exit id)::a/\Yi id a=K
     ·obtain⟨id,a,l,A⟩:=l;exact⟨b,I (.exit id),d,λw=>by simp only[Uh,UN,UJ,e,l,A,d];rfl⟩
     ·exact absurd ⟨s,λa i=>k ⟨a,i⟩,λid a i H=>l ⟨id,a,i,H⟩⟩ n
  obtain⟨b,p,d,C⟩:=M;rw[C];refine r _ _ ?_;cases((Yd b p).runT P w #[]).1 with
  |ok v f=>exact .inr ⟨K,f,_,q v f⟩
  |halt u f=>exact .inl ⟨_,_,_,rfl⟩
 ·have m:fr.defers=[]:=by
   by_cases m:fr.defers=[]
   ·exact m
   ·exact absurd (λ_=>⟨λ_=>m,λh=>absurd h e⟩) t
  have y:∀w,UN P Z (Uh fr [bF]) w=Yj P Z fr [bF] K w:=λw=>by
   cases n:fr.mode<;>first|exact absurd n e|simp[Uh,UN,n]
  rw[y];unfold Yj;rw[m];cases G:fr.mode with
  |run=>exact absurd G e
  |panicking x=>
   have B:fr.catches P=T8:=by
    unfold Frame.catches
    split
    ·rename_i i;exact Yr (h.top.todo (Item.call _ _ _ _) (by rw[i];exact Xu ..))
    ·rfl
   exact .inr ⟨I x,w,#[],by simp[B,Uh]⟩
  |returning=>
   dsimp only;cases O:P.funcs[fr.fn]? with
   |none=>exact .inr ⟨K,w,_,q _ w⟩
   |some z=>
    dsimp only;refine r _ _ ?_;cases((UY z fr.tmps).runT P w #[]).1 with
    |ok v f=>exact .inr ⟨K,f,_,q v f⟩
    |halt u f=>cases u<;>exact .inl ⟨_,_,_,rfl⟩
end
section
variable {P P':Ug}
def kS(a:P'.toTables=P.toTables)(t:Ui):P'.info? t=P.info? t:=by rw[a]
def jG(a:P'.toTables=P.toTables)(t:Ui):P'.underlying t=P.underlying t:=by unfold Program.underlying;simp only[kS a]
def ki(a:P'.toTables=P.toTables)(t:Ui):P'.cellsOf t=P.cellsOf t:=by unfold Program.cellsOf;simp only[kS a]
def lz(a:P'.toTables=P.toTables)(t:Ui):P'.bytesOf t=P.bytesOf t:=by unfold Program.bytesOf;simp only[kS a]
def lA(a:P'.toTables=P.toTables):P'.depth=P.depth:=by unfold Program.depth;rw[a]
def tJ(a:P'.toTables=P.toTables)(t:Ui):P'.underlyingId t=P.underlyingId t:=by unfold Program.underlyingId;simp only[kS a]
def sC(a:P'.toTables=P.toTables)(d:Nat):∀t o,byteOfCell P' d t o=byteOfCell P d t o:=by
 induction d with
 |zero=>intro t o;rfl
 |succ d b=>intro t o;simp only[byteOfCell,jG a,ki a,lz a,b]
def Ay(a:P'.toTables=P.toTables)(d:Nat):∀t o,cellOfByte P' d t o=cellOfByte P d t o:=by
 induction d with
 |zero=>intro t o;rfl
 |succ d b=>intro t o;simp only[cellOfByte,jG a,ki a,lz a,b]
def KR(a:P'.toTables=P.toTables)(d:Nat)(e:Ui)(c o:Nat)(b:Int):cellAtBytes P' d e c o b=cellAtBytes P d e c o b:=by
 simp only[cellAtBytes,ki a,lz a,sC a,Ay a]
def wj(a:P'.toTables=P.toTables)(d:Nat):∀t u,P'.alikeButTags d t u=P.alikeButTags d t u:=by
 induction d with
 |zero=>intro t u;rfl
 |succ d b=>intro t u;simp only[Program.alikeButTags,jG a,tJ a,kS a,b]
def Hf(a:P'.toTables=P.toTables)(t:Ui):P'.stoodInAs t=P.stoodInAs t:=by
 simp only[Program.stoodInAs,Program.ownRow,jG a,tJ a,kS a,wj a,lA a,a]
def tI(a:P'.toTables=P.toTables)(t:Ui):P'.stoodInHeld t=P.stoodInHeld t:=by
 simp only[Program.stoodInHeld,Hf a,kS a]
def KS(a:P'.toTables=P.toTables)(t:Ui):P'.packed t=P.packed t:=by
 simp only[Program.packed,Program.packedAs,Program.ownRow,jG a,tJ a,kS a,wj a,lA a,a]
def N0(a:P'.toTables=P.toTables)(d:Nat):∀t,P'.holdsPacked d t=P.holdsPacked d t:=by
 induction d with
 |zero=>intro t;rfl
 |succ d b=>intro t;simp only[Program.holdsPacked,KS a,jG a,b]
def NZ(a:P'.toTables=P.toTables)(d:Nat):∀t,P'.eqGuardType d t=P.eqGuardType d t:=by
 induction d with
 |zero=>intro t;rfl
 |succ d b=>intro t;simp only[Program.eqGuardType,jG a,b]
def N2(a:P'.toTables=P.toTables)(d:Nat):∀t u,sameLayout P' d t u=sameLayout P d t u:=by
 induction d with
 |zero=>intro t u;rfl
 |succ d b=>intro t u;simp only[sameLayout,jG a,tJ a,tI a,b]
def N1(a:P'.toTables=P.toTables)(f:Ui->Bool)(d:Nat):∀e c o n,rowAt P' f d e c o n=rowAt P f d e c o n:=by
 induction d with
 |zero=>intro e c o n;rfl
 |succ d b=>intro e c o n;simp only[rowAt,jG a,ki a,tI a,b]
def P9(a:P'.toTables=P.toTables)(d:Nat):∀e c o u n,liesAt P' d e c o u n=liesAt P d e c o u n:=by
 induction d with
 |zero=>intro e c o u n;rfl
 |succ d b=>intro e c o u n;simp only[liesAt,jG a,lA a,N1 a,N2 a,b]
def CX(a:P'.toTables=P.toTables)(d:Nat):∀t o,plainCell P' d t o=plainCell P d t o:=by
 induction d with
 |zero=>intro t o;rfl
 |succ d b=>intro t o;simp only[plainCell,jG a,ki a,b]
def He(a:P'.toTables=P.toTables)(d:Nat):∀t b,cellHolding P' d t b=cellHolding P d t b:=by
 induction d with
 |zero=>intro t b;rfl
 |succ d c=>intro t b;simp only[cellHolding,jG a,ki a,lz a,c]
def N3(a:P'.toTables=P.toTables)(d:Nat):∀t,tight P' d t=tight P d t:=by
 induction d with
 |zero=>intro t;rfl
 |succ d b=>intro t;simp only[tight,jG a,lz a,b]
def CY(a:P'.toTables=P.toTables)(c:Array U)(e:Ui)(f:Nat):∀x s,seenCells P' c e f x s=seenCells P c e f x s:=by
 induction f with
 |zero=>intro x s;rfl
 |succ f b=>intro x s;simp only[seenCells,He a,lA a,ki a,lz a,b]
def IJ(b:P'.toTables=P.toTables){w u:F}{a:UK}(h:∀c e f,w.heap[a.block]? =I (.cells c e f)↔u.heap[a.block]? =I (.cells c e f))(t:Ui)(k:UK)(m:Bool):u.seen P' a t k m=w.seen P a t k m:=by
 have j:(∃c e f,w.heap[a.block]? =I (.cells c e f)/\u.heap[a.block]? =I (.cells c e f))\/((∀c e f,w.heap[a.block]? ≠I (.cells c e f))/\∀c e f,u.heap[a.block]? ≠I (.cells c e f)):=by
  by_cases d:∃c e f,w.heap[a.block]? =I (.cells c e f)
  ·obtain⟨c,e,f,d⟩:=d;exact .inl ⟨c,e,f,d,(h c e f).1 d⟩
  ·exact .inr ⟨λc e f l=>d ⟨c,e,f,l⟩,λc e f l=>d ⟨c,e,f,(h c e f).2 l⟩⟩
 unfold World.seen;simp only[CX b,sC b,ki b,lz b,lA b,CY b];rcases j with⟨c,e,f,g,i⟩|⟨g,i⟩
 ·rw[g,i]
 ·cases j:w.heap[a.block]? with
  |none=>cases n:u.heap[a.block]? with
   |none=>rfl
   |some o=>cases o<;>first|exact absurd n (i _ _ _)|rfl
  |some p=>cases n:u.heap[a.block]? with
   |none=>cases p<;>first|exact absurd j (g _ _ _)|rfl
   |some o=>cases p<;>first|exact absurd j (g _ _ _)|(cases o<;>first|exact absurd n (i _ _ _)|rfl)
def IA{P:Ug}{w:F}{a:UK}{t:Ui}{k:UK}{m:Bool}{r:_}(h:w.seen P a t k m= .ok r):a.block<w.heap.size:=by
 rcases Vz a.block w.heap.size with b|b
 ·exact b
 ·have c:w.heap[a.block]? =K:=Vm b;unfold World.seen at h;rw[c] at h;simp only[bind,Except.bind,throw,throwThe,YG,pure,Except.pure] at h
  repeat' first|(cases h;done)|split at h
def N6(q:P'.toTables=P.toTables):Views P P':=by
 refine⟨λc k b j p m a=>?_,λc b j p m v s a y w=>?_,λc k b j p v m a=>?_⟩
 ·unfold World.viewLoad;rw[IJ q a]
 ·unfold World.viewLoad at a;cases h:c.seen P b j p m with
  |error e=>rw[h] at a;cases a
  |ok C=>
   have u:=IA h;rw[h] at a;simp only[bind,Except.bind,throw,throwThe,YG,pure,Except.pure] at a
   split at a
   ·cases a;obtain⟨e,_,rfl⟩:=U8.1 w;exact u
   ·cases a
 ·unfold World.viewStore;rw[IJ q a,N3 q,lA q];cases H:tight P P.depth j with
  |false=>exact .inl ⟨_,rfl,rfl⟩
  |true=>
   cases h:c.seen P b j p m with
   |error e=>exact .inl ⟨e,rfl,rfl⟩
   |ok C=>
    have u:=IA h;obtain⟨t,d,f,first,i,z⟩:=C;cases G:v.bytes? with
    |none=>exact .inl ⟨_,rfl,rfl⟩
    |some bytes=>
     by_cases r:I bytes.length≠i.bytes?.map (·.length)
     ·refine .inl ⟨ "memory seen as another type: a value of another size",?_,?_⟩
      ·show(if I bytes.length≠i.bytes?.map (·.length) then _ else _)=_;rw[if_pos r];rfl
      ·show(if I bytes.length≠i.bytes?.map (·.length) then _ else _)=_;rw[if_pos r];rfl
     ·have E:∀(l n:Except String (F×List UK)) (o:Except String (Array U)),l=o.bind (λg=>.ok ({c with heap:=c.heap.setIfInBounds b.block (.cells g d f)},z.map λx=>({block:=b.block,off:=x.1}:UK)))->n=o.bind (λg=>.ok ({k with heap:=k.heap.setIfInBounds b.block (.cells g d f)},z.map λx=>({block:=b.block,off:=x.1}:UK)))->
       (∃D,l= .error D/\n= .error D)\/∃t d f s,l= .ok ({c with heap:=c.heap.setIfInBounds b.block (.cells t d f)},s)/\n= .ok ({k with heap:=k.heap.setIfInBounds b.block (.cells t d f)},s)/\∀y∈s,y.block<c.heap.size:=by
       intro l n o A B;cases o with
       |error e=>exact .inl ⟨e,A,B⟩
       |ok g=>
        refine .inr ⟨g,d,f,_,A,B,λy w=>?_⟩;obtain⟨e,_,rfl⟩:=U8.1 w;exact u
      apply E
      ·show(if I bytes.length≠i.bytes?.map (·.length) then _ else _)=_;rw[if_neg r];rfl
      ·show(if I bytes.length≠i.bytes?.map (·.length) then _ else _)=_;rw[if_neg r];rfl
def Qa(a:P'.toTables=P.toTables)(d:∀f:Nat,P'.funcs[f]? =P.funcs[f]? \/∃fn c:WD,P.funcs[f]? =I fn/\P'.funcs[f]? =I c/\c.name=fn.name/\fn.body.isNone=T8/\c.body.isNone=T8):Twin P P':=
 ⟨kS a,jG a,by rw[a],ki a,lz a,lA a,λb=>P9 a b,λb=>KR a b,λb=>sC a b,λb=>NZ a b,tI a,λb=>N0 a b,by rw[a],by rw[a],by rw[a],d⟩
end
end Cc
end Go.Proofs.YtjidbonhhpkljaaGreat
namespace Go.Proofs
def ay.cut (fn:WD):WD:={fn with body:=I (.refuse "")}
def aB (P:Ug):Ug:={P with funcs:=((P.funcs.modify 78 ay.cut).modify 116 ay.cut).modify 117 ay.cut}
def ay.tables(P:Ug):P.toTables=(aB P).toTables:=rfl
namespace YtjidbonhhpkljaaGreat.Cc
open Go
def SD(P:Ug)(f:Nat):(aB P).funcs[f]? =if f=78\/f=116\/f=117 then(P.funcs[f]?).map ay.cut else P.funcs[f]? :=by
 show(((P.funcs.modify 78 ay.cut).modify 116 ay.cut).modify 117 ay.cut)[f]? =_;simp only[VW];by_cases b:f=78
 ·subst b;simp
 ·by_cases c:f=116
  ·subst c;simp
  ·by_cases d:f=117
   ·subst d;simp
   ·simp only[b,c,d,or_self,if_false];rw[if_neg (λa=>d a.symm),if_neg (λa=>c a.symm),if_neg (λa=>b a.symm)]
def Iw(f:Nat):(aB T5).funcs[f]? =if f=78\/f=116\/f=117 then(T5.funcs[f]?).map ay.cut else T5.funcs[f]? :=SD _ f
def jY{f:Nat}(h1:(f==78)=T8)(b:(f==116)=T8)(c:(f==117)=T8):(aB T5).funcs[f]? =T5.funcs[f]? :=by
 rw[Iw,if_neg];simp at h1 b c;rintro(a|a|a)
 ·exact h1 a
 ·exact b a
 ·exact c a
def oE(f:Nat):T5.funcs[f]? =(aB T5).funcs[f]? \/∃fn:WD,fn.body.isNone=T8/\T5.funcs[f]? =I fn/\(aB T5).funcs[f]? =I (ay.cut fn):=by
 rw[Iw];by_cases a:f=78\/f=116\/f=117
 ·rw[if_pos a]
  right
  rcases a with rfl|rfl|rfl
  ·exact⟨_,rfl,Tryz.func78,by rw[Tryz.func78];rfl⟩
  ·exact⟨_,rfl,Tryz.func116,by rw[Tryz.func116];rfl⟩
  ·exact⟨_,rfl,Tryz.func117,by rw[Tryz.func117];rfl⟩
 ·rw[if_neg a];exact .inl rfl
def M8:Twin (aB T5) T5:=Qa (ay.tables _) λf=>by
 rcases oE f with a|⟨b,c,d,e⟩
 ·exact .inl a
 ·exact .inr ⟨_,b,e,d,rfl,rfl,c⟩
def jH{P:Ug}{p:WD->Bool}(h:P.funcs.toList.all p=Z){f:Nat}{fn:WD}(a:P.funcs[f]? =I fn):p fn=Z:=by
 obtain⟨b,rfl⟩:=Uc.1 a;exact UA.1 h _ (by simp)
def tP:(T5.funcs.toList.all λfn=> !(fn.name == "runtime.NumGoroutine"))=Z:=by kernel_rfl
def R1:(T5.funcs.toList.all λfn=> !fn.body.isNone||(Extern.findNext fn).isNone)=Z:=by kernel_rfl
def Rz:((aB T5).funcs.toList.all λfn=>match fn.body with|some c=>bn (aB T5) T8 c|none=>Z)=Z:=by kernel_rfl
end YtjidbonhhpkljaaGreat.Cc
end Go.Proofs
namespace Go.Proofs.YtjidbonhhpkljaaGreat
abbrev bG(f:V2)(a:Array U)(w:F)(R:Go.Ending->F->Prop):Prop:=Go.Calls (aB T5) f a w R
end Go.Proofs.YtjidbonhhpkljaaGreat
namespace Go.Proofs
namespace ay
def tK(P:Ug)(t:Ui):(aB P).underlying t=P.underlying t:=YtjidbonhhpkljaaGreat.Cc.jG (ay.tables P).symm t
def bC{f:Nat}{x:Option WD}(h:T5.funcs[f]? =x)(h1:(f==78||(f==116||f==117))=T8):(aB T5).funcs[f]? =x:=(YtjidbonhhpkljaaGreat.Cc.jY (Bool.or_eq_false_iff.1 h1).1 (Bool.or_eq_false_iff.1 (Bool.or_eq_false_iff.1 h1).2).1 (Bool.or_eq_false_iff.1 (Bool.or_eq_false_iff.1 h1).2).2).trans h
def info(P:Ug)(t:Ui):(aB P).info? t=P.info? t:=YtjidbonhhpkljaaGreat.Cc.kS (ay.tables P).symm t
@[simp,go_sem] theorem vV (P:Ug) (t:Ui) (w:F):Wu (aB P) (XE t) w=Wu P (XE t) w:=by
 unfold XE program;simp only[bind,Sem.bind,Wu,info];generalize P.info? t=a;cases a<;>rfl
@[simp,go_sem] theorem RG (P:Ug) (t:Ui) (w:F):Wu (aB P) (Xs t) w=Wu P (Xs t) w:=by
 unfold Xs program;simp only[bind,Sem.bind,Wu,tK];generalize P.underlying t=a;cases a<;>rfl
def zeroOf (P:Ug) (x:Option U) (w:F):Wu (aB P) (match x with|some v=>pure v|none=>unsupported (.resourceLimit "a value of more than 2^22 cells")) w=Wu P (match x with|some v=>pure v|none=>unsupported (.resourceLimit "a value of more than 2^22 cells")) w:=by
 cases x with
 |some v=>exact(Sem.run_pure _ _ _).trans (Sem.run_pure _ _ _).symm
 |none=>exact Eq.refl (Result.halt _ w)
@[simp,go_sem] theorem SX (P:Ug) (t:Ui) (w:F):Wu (aB P) (Wo t) w=Wu P (Wo t) w:=by
 unfold Wo;rw[WK,WK,vV];generalize Wu P (XE t) w=d;cases d with
 |ok c a=>exact zeroOf P c.zero a
 |halt b a=>exact Eq.refl (Result.halt b a)
@[simp,go_sem] theorem SW (P:Ug) (t:Ui) (w:F):Wu (aB P) (sizeOf t) w=Wu P (sizeOf t) w:=by
 unfold sizeOf;rw[WK,WK,vV];cases Wu P (XE t) w with
 |ok c a=>rfl
 |halt b a=>rfl
def O3(P:Ug)(d:TypeDesc)(w:F):Wu (aB P) (match d with| .struct _| .array _ _=>pure Z|_=>pure T8) w=Wu P (match d with| .struct _| .array _ _=>pure Z|_=>pure T8) w:=by
 cases d<;>exact(Sem.run_pure _ _ _).trans (Sem.run_pure _ _ _).symm
@[simp,go_sem] theorem SI (P:Ug) (t:Ui) (w:F):Wu (aB P) (isAgg t) w=Wu P (isAgg t) w:=by
 unfold isAgg;rw[WK,WK,RG];generalize Wu P (Xs t) w=d;cases d with
 |ok c a=>exact O3 P c a
 |halt b a=>exact Eq.refl (Result.halt b a)
@[simp,go_sem] theorem SR (P:Ug) (d:Nat) (t:Ui):(aB P).eqGuardType d t=P.eqGuardType d t:=YtjidbonhhpkljaaGreat.Cc.NZ (ay.tables P).symm d t
@[simp,go_sem] theorem depth (P:Ug):(aB P).depth=P.depth:=YtjidbonhhpkljaaGreat.Cc.lA (ay.tables P).symm
@[simp,go_sem] theorem II (P:Ug) (t:Ui):(aB P).stoodInHeld t=P.stoodInHeld t:=YtjidbonhhpkljaaGreat.Cc.tI (ay.tables P).symm t
def Nq {P:Ug} {f:Nat} {fn:WD} (h:P.funcs[f]? =I fn) (b:(fn.name == "runtime.NumGoroutine")=T8) (a:fn.body.isNone=T8) (args:Array U) (w:F):Wu P (callFunc f args) w= .ok (.enter f args) w:=by
 unfold callFunc program;simp only[bind,pure,Sem.bind,Wu,h,b,a,UC,if_false]
def aD{f:Nat}{fn:WD}(h:(aB T5).funcs[f]? =I fn)(e:fn.body.isNone=T8)(args:Array U)(w:F):Wu (aB T5) (callFunc f args) w= .ok (.enter f args) w:=by
 refine Nq h ?_ e args w;rcases YtjidbonhhpkljaaGreat.Cc.oE f with a|⟨b,g,c,d⟩
 ·rw[<-a] at h;simpa using YtjidbonhhpkljaaGreat.Cc.jH YtjidbonhhpkljaaGreat.Cc.tP h
 ·rw[d] at h;cases h;exact(by simpa using YtjidbonhhpkljaaGreat.Cc.jH YtjidbonhhpkljaaGreat.Cc.tP c:(b.name == "runtime.NumGoroutine")=T8)
def func8:=bC Tryz.func8 rfl
def func9:=bC Tryz.func9 rfl
def func14:=bC Tryz.func14 rfl
def func19:=bC Tryz.func19 rfl
def func20:=bC Tryz.func20 rfl
def func21:=bC Tryz.func21 rfl
def func22:=bC Tryz.func22 rfl
def func23:=bC Tryz.func23 rfl
def func24:=bC Tryz.func24 rfl
def func25:=bC Tryz.func25 rfl
def func28:=bC Tryz.func28 rfl
def func29:=bC Tryz.func29 rfl
def func31:=bC Tryz.func31 rfl
def func32:=bC Tryz.func32 rfl
def func36:=bC Tryz.func36 rfl
def func38:=bC Tryz.func38 rfl
def func39:=bC Tryz.func39 rfl
def func40:=bC Tryz.func40 rfl
def func41:=bC Tryz.func41 rfl
def func42:=bC Tryz.func42 rfl
def func43:=bC Tryz.func43 rfl
def func44:=bC Tryz.func44 rfl
def func45:=bC Tryz.func45 rfl
def func48:=bC Tryz.func48 rfl
def func53:=bC Tryz.func53 rfl
def func55:=bC Tryz.func55 rfl
def func56:=bC Tryz.func56 rfl
def func57:=bC Tryz.func57 rfl
def func58:=bC Tryz.func58 rfl
def func59:=bC Tryz.func59 rfl
def func60:=bC Tryz.func60 rfl
def func61:=bC Tryz.func61 rfl
def func62:=bC Tryz.func62 rfl
def func63:=bC Tryz.func63 rfl
def func64:=bC Tryz.func64 rfl
def func65:=bC Tryz.func65 rfl
def func66:=bC Tryz.func66 rfl
def func68:=bC Tryz.func68 rfl
def func69:=bC Tryz.func69 rfl
def func70:=bC Tryz.func70 rfl
def func71:=bC Tryz.func71 rfl
def func76:=bC Tryz.func76 rfl
def func77:=bC Tryz.func77 rfl
def func80:=bC Tryz.func80 rfl
def func81:=bC Tryz.func81 rfl
def func82:=bC Tryz.func82 rfl
def func83:=bC Tryz.func83 rfl
def func84:=bC Tryz.func84 rfl
def func85:=bC Tryz.func85 rfl
def func86:=bC Tryz.func86 rfl
def func87:=bC Tryz.func87 rfl
def func88:=bC Tryz.func88 rfl
def func89:=bC Tryz.func89 rfl
def func90:=bC Tryz.func90 rfl
def func91:=bC Tryz.func91 rfl
def func92:=bC Tryz.func92 rfl
def func93:=bC Tryz.func93 rfl
def func94:=bC Tryz.func94 rfl
def func95:=bC Tryz.func95 rfl
def func96:=bC Tryz.func96 rfl
def func97:=bC Tryz.func97 rfl
def func98:=bC Tryz.func98 rfl
def func106:=bC Tryz.func106 rfl
def func107:=bC Tryz.func107 rfl
def func110:=bC Tryz.func110 rfl
def func114:=bC Tryz.func114 rfl
def func115:=bC Tryz.func115 rfl
def func118:=bC Tryz.func118 rfl
def func119:=bC Tryz.func119 rfl
def func120:=bC Tryz.func120 rfl
def func121:=bC Tryz.func121 rfl
def func122:=bC Tryz.func122 rfl
def func123:=bC Tryz.func123 rfl
def func124:=bC Tryz.func124 rfl
def func125:=bC Tryz.func125 rfl
def func126:=bC Tryz.func126 rfl
def func127:=bC Tryz.func127 rfl
def func128:=bC Tryz.func128 rfl
def func129:=bC Tryz.func129 rfl
def func130:=bC Tryz.func130 rfl
def func131:=bC Tryz.func131 rfl
def func133:=bC Tryz.func133 rfl
def func135:=bC Tryz.func135 rfl
def func139:=bC Tryz.func139 rfl
def func140:=bC Tryz.func140 rfl
def func141:=bC Tryz.func141 rfl
def func142:=bC Tryz.func142 rfl
def func143:=bC Tryz.func143 rfl
def func144:=bC Tryz.func144 rfl
def func145:=bC Tryz.func145 rfl
def func146:=bC Tryz.func146 rfl
def func147:=bC Tryz.func147 rfl
def func148:=bC Tryz.func148 rfl
def func149:=bC Tryz.func149 rfl
def func150:=bC Tryz.func150 rfl
def func151:=bC Tryz.func151 rfl
def func152:=bC Tryz.func152 rfl
def func153:=bC Tryz.func153 rfl
def func154:=bC Tryz.func154 rfl
def func155:=bC Tryz.func155 rfl
def func156:=bC Tryz.func156 rfl
def func157:=bC Tryz.func157 rfl
def func158:=bC Tryz.func158 rfl
def func159:=bC Tryz.func159 rfl
def func160:=bC Tryz.func160 rfl
def func161:=bC Tryz.func161 rfl
def func162:=bC Tryz.func162 rfl
def func163:=bC Tryz.func163 rfl
def func164:=bC Tryz.func164 rfl
def func165:=bC Tryz.func165 rfl
def func166:=bC Tryz.func166 rfl
def func167:=bC Tryz.func167 rfl
def func168:=bC Tryz.func168 rfl
def func169:=bC Tryz.func169 rfl
def func170:=bC Tryz.func170 rfl
def func171:=bC Tryz.func171 rfl
def func172:=bC Tryz.func172 rfl
def func173:=bC Tryz.func173 rfl
def func175:=bC Tryz.func175 rfl
def func176:=bC Tryz.func176 rfl
def func177:=bC Tryz.func177 rfl
def func178:=bC Tryz.func178 rfl
@[simp,go_sem] def call14:=aD func14 rfl
@[simp,go_sem] def call19:=aD func19 rfl
@[simp,go_sem] def call20:=aD func20 rfl
@[simp,go_sem] def call22:=aD func22 rfl
@[simp,go_sem] def call23:=aD func23 rfl
@[simp,go_sem] def call24:=aD func24 rfl
@[simp,go_sem] def call25:=aD func25 rfl
@[simp,go_sem] def call28:=aD func28 rfl
@[simp,go_sem] def call29:=aD func29 rfl
@[simp,go_sem] def call38:=aD func38 rfl
@[simp,go_sem] def call39:=aD func39 rfl
@[simp,go_sem] def call40:=aD func40 rfl
@[simp,go_sem] def call41:=aD func41 rfl
@[simp,go_sem] def call42:=aD func42 rfl
@[simp,go_sem] def call43:=aD func43 rfl
@[simp,go_sem] def call44:=aD func44 rfl
@[simp,go_sem] def call45:=aD func45 rfl
@[simp,go_sem] def call48:=aD func48 rfl
@[simp,go_sem] def call53:=aD func53 rfl
@[simp,go_sem] def call55:=aD func55 rfl
@[simp,go_sem] def call56:=aD func56 rfl
@[simp,go_sem] def call57:=aD func57 rfl
@[simp,go_sem] def call58:=aD func58 rfl
@[simp,go_sem] def call59:=aD func59 rfl
@[simp,go_sem] def call60:=aD func60 rfl
@[simp,go_sem] def call61:=aD func61 rfl
@[simp,go_sem] def call62:=aD func62 rfl
@[simp,go_sem] def call63:=aD func63 rfl
@[simp,go_sem] def call64:=aD func64 rfl
@[simp,go_sem] def call65:=aD func65 rfl
@[simp,go_sem] def call66:=aD func66 rfl
@[simp,go_sem] def call68:=aD func68 rfl
@[simp,go_sem] def call69:=aD func69 rfl
@[simp,go_sem] def call70:=aD func70 rfl
@[simp,go_sem] def call71:=aD func71 rfl
@[simp,go_sem] def call80:=aD func80 rfl
@[simp,go_sem] def call81:=aD func81 rfl
@[simp,go_sem] def call82:=aD func82 rfl
@[simp,go_sem] def call83:=aD func83 rfl
@[simp,go_sem] def call84:=aD func84 rfl
@[simp,go_sem] def call85:=aD func85 rfl
@[simp,go_sem] def call86:=aD func86 rfl
@[simp,go_sem] def call87:=aD func87 rfl
@[simp,go_sem] def call88:=aD func88 rfl
@[simp,go_sem] def call89:=aD func89 rfl
@[simp,go_sem] def call90:=aD func90 rfl
@[simp,go_sem] def call91:=aD func91 rfl
@[simp,go_sem] def call92:=aD func92 rfl
@[simp,go_sem] def call93:=aD func93 rfl
@[simp,go_sem] def call94:=aD func94 rfl
@[simp,go_sem] def call95:=aD func95 rfl
@[simp,go_sem] def call96:=aD func96 rfl
@[simp,go_sem] def call97:=aD func97 rfl
@[simp,go_sem] def call98:=aD func98 rfl
@[simp,go_sem] def call106:=aD func106 rfl
@[simp,go_sem] def call107:=aD func107 rfl
@[simp,go_sem] def call114:=aD func114 rfl
@[simp,go_sem] def call115:=aD func115 rfl
@[simp,go_sem] def call120:=aD func120 rfl
@[simp,go_sem] def call121:=aD func121 rfl
@[simp,go_sem] def call122:=aD func122 rfl
@[simp,go_sem] def call123:=aD func123 rfl
@[simp,go_sem] def call124:=aD func124 rfl
@[simp,go_sem] def call125:=aD func125 rfl
@[simp,go_sem] def call126:=aD func126 rfl
@[simp,go_sem] def call127:=aD func127 rfl
@[simp,go_sem] def call128:=aD func128 rfl
@[simp,go_sem] def call129:=aD func129 rfl
@[simp,go_sem] def call130:=aD func130 rfl
@[simp,go_sem] def call131:=aD func131 rfl
@[simp,go_sem] def call135:=aD func135 rfl
@[simp,go_sem] def call140:=aD func140 rfl
@[simp,go_sem] def call141:=aD func141 rfl
@[simp,go_sem] def call142:=aD func142 rfl
@[simp,go_sem] def call143:=aD func143 rfl
@[simp,go_sem] def call144:=aD func144 rfl
@[simp,go_sem] def call145:=aD func145 rfl
@[simp,go_sem] def call146:=aD func146 rfl
@[simp,go_sem] def call147:=aD func147 rfl
@[simp,go_sem] def call148:=aD func148 rfl
@[simp,go_sem] def call149:=aD func149 rfl
@[simp,go_sem] def call150:=aD func150 rfl
@[simp,go_sem] def call151:=aD func151 rfl
@[simp,go_sem] def call152:=aD func152 rfl
@[simp,go_sem] def call153:=aD func153 rfl
@[simp,go_sem] def call154:=aD func154 rfl
@[simp,go_sem] def call155:=aD func155 rfl
@[simp,go_sem] def call156:=aD func156 rfl
@[simp,go_sem] def call157:=aD func157 rfl
@[simp,go_sem] def call158:=aD func158 rfl
@[simp,go_sem] def call159:=aD func159 rfl
@[simp,go_sem] def call160:=aD func160 rfl
@[simp,go_sem] def call161:=aD func161 rfl
@[simp,go_sem] def call162:=aD func162 rfl
@[simp,go_sem] def call163:=aD func163 rfl
@[simp,go_sem] def call164:=aD func164 rfl
@[simp,go_sem] def call165:=aD func165 rfl
@[simp,go_sem] def call166:=aD func166 rfl
@[simp,go_sem] def call167:=aD func167 rfl
@[simp,go_sem] def call169:=aD func169 rfl
@[simp,go_sem] def call170:=aD func170 rfl
@[simp,go_sem] def call171:=aD func171 rfl
@[simp,go_sem] def call172:=aD func172 rfl
@[simp,go_sem] def call173:=aD func173 rfl
@[simp,go_sem] def call175:=aD func175 rfl
@[simp,go_sem] def call176:=aD func176 rfl
@[simp,go_sem] def call177:=aD func177 rfl
@[simp,go_sem] def call178:=aD func178 rfl
@[simp,go_sem] def underlying2:=(tK _ _).trans Tryz.underlying2
@[simp,go_sem] def underlying3:=(tK _ _).trans Tryz.underlying3
@[simp,go_sem] def underlying4:=(tK _ _).trans Tryz.underlying4
@[simp,go_sem] def underlying5:=(tK _ _).trans Tryz.underlying5
@[simp,go_sem] def underlying9:=(tK _ _).trans Tryz.underlying9
@[simp,go_sem] def underlying20:=(tK _ _).trans Tryz.underlying20
@[simp,go_sem] def underlying22:=(tK _ _).trans Tryz.underlying22
@[simp,go_sem] def underlying23:=(tK _ _).trans Tryz.underlying23
@[simp,go_sem] def underlying26:=(tK _ _).trans Tryz.underlying26
@[simp,go_sem] def underlying43:=(tK _ _).trans Tryz.underlying43
@[simp,go_sem] def underlying44:=(tK _ _).trans Tryz.underlying44
@[simp,go_sem] def underlying59:=(tK _ _).trans Tryz.underlying59
@[simp,go_sem] def underlying63:=(tK _ _).trans Tryz.underlying63
@[simp,go_sem] def underlying103:=(tK _ _).trans Tryz.underlying103
@[simp,go_sem] def underlying133:=(tK _ _).trans Tryz.underlying133
@[simp,go_sem] def underlying137:=(tK _ _).trans Tryz.underlying137
@[simp,go_sem] def underlying141:=(tK _ _).trans Tryz.underlying141
@[simp,go_sem] def underlying160:=(tK _ _).trans Tryz.underlying160
@[simp,go_sem] def underlying170:=(tK _ _).trans Tryz.underlying170
@[simp,go_sem] def underlying176:=(tK _ _).trans Tryz.underlying176
@[simp,go_sem] def underlying205:=(tK _ _).trans Tryz.underlying205
@[simp,go_sem] def underlying206:=(tK _ _).trans Tryz.underlying206
@[simp,go_sem] def underlying229:=(tK _ _).trans Tryz.underlying229
end ay
end Go.Proofs
namespace Go.Proofs.YtjidbonhhpkljaaGreat
namespace Pk
open Go.RowKit
def Iy{k:Wy}{a b:Int}(h:a=b):Ending.returned (.int k a)= .returned (.int k b):=by rw[h]
def pw (n:Nat):Int:=((2^n:Nat):Int)
def Cn(n:Nat):0<pw n:=by
 have:0<2^n:=Nat.pow_pos (by omega);unfold pw;omega
def SC(n m:Nat)(h:n<=m):pw n<=pw m:=by
 have:=VP (show 0<2 by omega) h;unfold pw;omega
def PG(n:Nat):pw (n+1)=2*pw n:=by
 unfold pw;rw[WM];omega
def Iv(n:Nat)(h:n<=16):pw n<=65536:=SC n 16 h
def J4(n:Nat)(j:n<=16)(w:F):
 bG 135 #[.int .i64 n] w λe w'=>e= .returned (.int .i64 (pw n))/\w'=w:=by
 go_enter ay.func135,Tryz.ntmps135;go_wp2
 go_loop [3,4] (λd b=>∃a:Nat,a<=n/\b= .int .i64 a/\d= .int .i64 (pw a)) (λ_ b=>n-(UT b).toNat)
 case atStart=>exact⟨0,UF _,rfl,rfl⟩
 case round=>
  obtain⟨a,h,rfl,rfl⟩:=hrel;have f:=Cn a;have g:=Iv a (by omega);by_cases i:a<n
  ·go_wp2
   go_round
   case rel=>exact⟨a+1,by omega,by go_num,by rw[PG]⟩
   case measure=>simp[UT];omega
  ·have c:a=n:=by omega
   subst c;go_wp2;go_ret;exact⟨rfl,rfl⟩
def FJ (n:Int):Int:=if n<0\/100<n then 6 else 0
def pO(n:Int)(w:F):
 bG 141 #[.int .i64 n] w λe w'=>e= .returned (.int .i64 (FJ n))/\w'=w:=by
 by_cases a:n<0
 ·go_enter ay.func141,Tryz.ntmps141;go_wp2
  all_goals go_ret
  all_goals exact⟨Iy (by simp[FJ,a]),rfl⟩
 ·by_cases b:100<n
  all_goals
   go_enter ay.func141,Tryz.ntmps141;go_wp2
   all_goals go_ret
   all_goals exact⟨Iy (by simp[FJ,a,b]),rfl⟩
end Pk
namespace Pm
def V:List Nat->Nat
 | []=>0
 |b::a=>b+256*V a
def N (w:Nat):List Nat->Nat
 | []=>0
 |x::a=>x+2^w*N w a
def Dj(a b:List Nat):V (a++b)=V a+256^a.length*V b:=by
 induction a with
 |nil=>simp[V]
 |cons e d c=>simp only[We,V,c,VJ,WM];rw[Yf,Xz (256^d.length) 256,Nat.mul_assoc,U6]
def S5(a:List Nat)(h:∀x∈a,x<256):V a<256^a.length:=by
 induction a with
 |nil=>simp[V]
 |cons x g c=>
  have e:=h x (by simp);have f:=c (λd b=>h d (by simp[b]));simp only[V,VJ,WM];omega
def Sj(a b:List Nat)(g:∀x∈a,x<256)(i:∀x∈b,x<256)(c:a.length=b.length)(h:V a=V b):a=b:=by
 induction a generalizing b with
 |nil=>cases b with
  |nil=>rfl
  |cons e s=>simp at c
 |cons x m l=>cases b with
  |nil=>simp at c
  |cons e s=>
   simp only[V] at h;have n:=g x (by simp);have o:=i e (by simp);have j:x=e:=by omega
   have k:V m=V s:=by omega
   rw[j,l s (λf d=>g f (by simp[d])) (λf d=>i f (by simp[d])) (by simpa using c) k]
def QT(a:List Nat)(n:Nat)(h:∀x∈a,x<256):V (a.take n)=V a%256^n:=by
 induction a generalizing n with
 |nil=>simp[V]
 |cons b c g=>
  cases n with
  |zero=>simp[V,Nat.mod_one]
  |succ d=>
   have j:=h b (by simp);have e:=g d (λi f=>h i (by simp[f]));simp only[List.take_succ_cons,V,e,WM];rw[Xz (256^d) 256,Nat.mod_mul,show(b+256*V c)%256=b by omega,show(b+256*V c)/256=V c by omega]
def Si(a:List Nat)(j:Nat)(h:∀x∈a,x<256):(a[j]?.getD 0)=V a/256^j%256:=by
 induction a generalizing j with
 |nil=>simp[V]
 |cons d c g=>
  have k:=h d (by simp);cases j with
  |zero=>simp[V];omega
  |succ b=>
   have e:=g b (λi f=>h i (by simp[f]));simp only[List.getElem?_cons_succ,e,V,WM];rw[Xz (256^b) 256,<-Nat.div_div_eq_div_mul,show(d+256*V c)/256=V c by omega]
def Lm(w:Nat)(l:List Nat)(x:Nat):N w (l++[x])=N w l+2^(w*l.length)*x:=by
 induction l with
 |nil=>simp[N]
 |cons c a b=>
  simp only[We,N,b,VJ];rw[Yf,<-Nat.mul_assoc,<-Xm,U6,show w+w*a.length=w*(a.length+1) by rw[Nat.mul_succ];omega]
def S3(w:Nat)(l:List Nat)(h:∀x∈l,x<2^w):N w l<2^(w*l.length):=by
 induction l with
 |nil=>simp[N]
 |cons f a e=>
  have i:=h f (by simp);have b:=e (λg d=>h g (by simp[d]));simp only[N,VJ];rw[show w*(a.length+1)=w+w*a.length by rw[Nat.mul_succ];omega,Xm];have c:2^w*(N w a+1)<=2^w*2^(w*a.length):=Xk _ b;rw[Yf] at c;omega
def D (w v:Nat):Nat->List Nat
 |0=>[]
 |n+1=>D w v n++[v/2^(w*n)%2^w]
def px(w v n:Nat):(D w v n).length=n:=by
 induction n with
 |zero=>rfl
 |succ b a=>simp[D,a]
def QK(w v n:Nat):∀x∈D w v n,x<2^w:=by
 induction n with
 |zero=>simp[D]
 |succ c b=>
  intro x a;simp only[D,U2,WJ] at a;rcases a with a|a
  ·exact b x a
  ·rw[a];exact Nat.mod_lt _ (Nat.pow_pos (by omega))
def SP(w v n:Nat):N w (D w v n)=v%2^(w*n):=by
 induction n with
 |zero=>simp[D,N,Nat.mod_one]
 |succ a b=>
  rw[D,Lm,b,px,show w*(a+1)=w*a+w by rw[Nat.mul_succ],Xm,Nat.mod_mul]
def Cl(n:Nat):256^n=2^(8*n):=by rw[Nat.pow_mul]
def De(a:Nat)(l:List Nat)(k:Nat)(b:k<l.length):N a (l.take (k+1))=N a (l.take k)+2^(a*k)*l[k]:=by
 rw[Up b,Lm,List.length_take,Nat.min_eq_left (by omega)]
end Pm
namespace Pk
open Go.RowKit Pm
def ay.rH:((aB T5).info? 5).map (λi=>(i.zero,i.size,i.bytes))=I (I (.int .u8 0),1,1):=by kernel_rfl
def ay.vE:((aB T5).info? 3).map (λi=>(i.zero,i.size,i.bytes))=I (I (.int .i64 0),1,8):=by kernel_rfl
def aG (b:List Nat):List U:=b.map fun(a:Nat)=>VZ .u8 (a:Int)
def Fz(a:List Nat)(i:Nat)(h:i<a.length):(aG a)[i]? =I (.int .u8 ((a[i]:Nat):Int)):=by
 simp[aG,h]
def I7{w:F}{base g n cap:Nat}{a:List Nat}(h:w.ownsRow base 5 1 (.slice (I ⟨g,0,K⟩) n cap) n (aG a))(c:a.length=n):
 ∀i,i<n->w.cell? ⟨g,0+i,K⟩=I (.int .u8 ((a.map (fun(n:Nat)=>(n:Int))).getD i 0)):=by
 intro i b;rw[Nat.zero_add,h.cellAt i (by omega),Fz a i (by omega)];simp[Yx,show i<a.length by omega]
def Ht{x:Int}(a:0<=x)(h1:x<256):Yv.wrap x=x:=by
 simp[IntKind.wrap,XV,Yh];omega
def below_drewN{B:Nat}{a w:F}(h:WN B a w)(n:Nat):WN B a (w.drewN n):=h.trans ⟨rfl,rfl,rfl,T9 _,λ_ _=>rfl⟩
def rK{w:F}{base:Nat}{e:Ui}{a:Nat}{v:U}{n:Nat}{b:List U}(h:w.ownsRow base e a v n b)(k:Nat):(w.drewN k).ownsRow base e a v n b:=by
 induction k with
 |zero=>exact h
 |succ k c=>exact c.drew
def bL{w:F}{base B:Nat}{e:Ui}{b:Nat}{v:U}{n:Nat}{c:List U}(h:w.ownsRow base e b v n c)(k:B<=base):w.ownsRow B e b v n c:=by
 refine⟨h.1,?_⟩;rcases h.2 with a|⟨g,d,f,a,i,j⟩
 ·exact .inl a
 ·exact .inr ⟨g,d,f,a,Uz k i,j⟩
def aK{w w':F}{base:Nat}{e:Ui}{d:Nat}{v:U}{n:Nat}{f:List U}(h:w.ownsRow base e d v n f)(l:aP w w'):w'.ownsRow base e d v n f:=by
 refine⟨h.1,?_⟩;rcases h.2 with a|⟨b,g,i,a,j,c,k⟩
 ·exact .inl a
 ·exact .inr ⟨b,g,i,a,j,by rw[l.block b (Uf c)];exact c,k⟩
def aS{P:Ug}(w:F){ops:Array Oper}{rest:List Oper}{o:Oper}{a:Act}{Q:Exit->Act->F->Prop}
 (D:o.guard=K) (s x:U7) (t:Ui) (G:o.op=Op.call {callee:=Callee.builtin Builtin.append,args:= #[s,x],argTypes:= #[t,t]})
 (base:Nat) (e:Ui) (i:TypeInfo) (z:U) (b bytes:Nat) (h1:P.underlying t=I (.slice e)) (A:P.info? e=I i) (M:i.zero=I z) (B:i.size=b) (N:i.bytes=bytes) (O:z.cells.size=b) (R:0<b)
 (v:U) (n:Nat) (g:List U) (H:a.eval s=v) (l:w.ownsRow base e b v n g)
 (h:UK) (m c:Nat) (news:List U) (J:a.eval x= .slice (I h) m c) (al:0<m) (E:news.length=m*b) (hc:∀j u,news[j]? =I u->w.cell? (h.add j)=I u) (y:∀u∈news,u.oneCell'=Z)
 (b1:n+m<=Ur) (b2:(n+m)*bytes<=140737488355328) (L:base<=w.heap.size)
 (C:∀d w',w'.ownsRow base e b d (n+m) (g++news)->((w.grownBy w' K/\w'.ownsRow w.heap.size e b d (n+m) (g++news))\/(d.ownBlock=v.ownBlock/\w.grownBy w' v.ownBlock))->wpList P ops Q rest (a.put o.dst d) w'):
 wpList P ops Q (o::rest) a w:=by
 rcases l.2 with⟨rfl,rfl⟩|⟨q,p,X,rfl,aa,ae,am,ab,ad,an⟩
 ·have W:g=[]:=Vi (by simpa using l.1);subst W;exact wpList_append_grows w D s x t G e i z b bytes h1 A M B N O R K 0 0 [] H (λ_=>⟨rfl,rfl⟩) (by simp) (λS r=>by cases r) h m c news J E hc y (by omega) b1 b2
   λd w' f k=>C d w' (bL f L) (.inl ⟨k,f⟩)
 ·by_cases V:n+m<=p
  ·exact wpList_append_fits w D s x t G base e i b h1 A B q n p g H l h m c news J E hc y V λw' f k=>C _ w' f (.inr ⟨rfl,k⟩)
  ·exact wpList_append_grows w D s x t G e i z b bytes h1 A M B N O R (I ⟨q,0,K⟩) n p g H (λr=>by cases r) l.1 (λS T=>by cases T;exact l.cells (g:=q) Y) h m c news J E hc y (by omega) b1 b2
    λd w' f k=>C d w' (bL f L) (.inl ⟨k,f⟩)
def fj{a:List Int}{k:Nat}(h:k<a.length):a.getD k 0=a[k]:=by simp[Yx,h]
def bw (a:List Int):List U:=a.map (VZ .i64)
def z4{w:F}{base g n:Nat}{e:Ui}{b:List U}(h:w.ownsRow base e 1 (.slice (I ⟨g,0,K⟩) n n) n b):w.heap[g]? =I (.cells b.toArray e (0,0)):=by
 rcases h.2 with⟨a,_⟩|⟨k,j,c,a,_,d,_,_,f,i⟩
 ·simp at a
 ·simp only[VB,U9,Wi,and_true,true_and] at a;obtain⟨rfl,rfl⟩:=a;rw[d];have:c.toList=b:=by rw[<-i];exact(UP (by simp[f])).symm
  rw[<-this]
def F7(a:List Int)(i:Nat)(h:i<a.length):(bw a)[i]? =I (.int .i64 a[i]):=by simp[bw,h]
def Bz(n:Int)(a:0<=n)(b:n<2^62):XO.wrap n=n:=by rw[Xa];omega
def M1(b x a:Nat)(f:a<=16)(h:x<65536)(e:b<2^a):bits .or .i64 (b:Int) (Vd ((x:Int)*2^a))=((b+2^a*x:Nat):Int):=by
 have d:2^a<=2^16:=VP (by omega) f;have g:2^a*x<=2^16*65536:=Nat.mul_le_mul d (by omega);have c:Vd ((x:Int)*2^a)=((2^a*x:Nat):Int):=by
  rw[show(x:Int)*2^a=((2^a*x:Nat):Int) from by push_cast;rw[Int.mul_comm]];generalize 2^a*x=i at*;unfold Vd;omega
 rw[c,(bits_nat .i64 62 (by decide) Bz b (2^a*x) (by omega) (by omega)).2,Nat.or_comm,<-Nat.two_pow_add_eq_or_of_lt e x,Nat.add_comm]
def O0(n b k a:Nat)(h:8*n+b=k*a):8*n+(b+a)=(k+1)*a:=by rw[Nat.add_mul k 1 a,Nat.one_mul];omega
def eS(a:List Nat)(x:Nat):aG a++[.int .u8 (x:Int)]=aG (a++[x]):=by simp[aG]
def IC(b:List Nat)(x:Nat)(h:∀y∈b,y<256)(d:x<256):∀y∈b++[x],y<256:=by
 intro y c;rcases U2.1 c with a|a
 ·exact h y a
 ·simp at a;omega
def QS(b:List Nat)(a A:Nat)(h:V b+256^b.length*a=A):V (b++[a%256])+256^(b++[a%256]).length*(a/256)=A:=by
 rw[Dj,Ub,List.length_singleton,WM,Nat.mul_assoc,<-h];have:V [a%256]=a%256:=by simp[V]
 rw[this,U6,<-Yf];congr 2;omega
def FW(b a:Nat)(c:8<=a)(h:b<2^a):b/256<2^(a-8):=by
 rw[Nat.div_lt_iff_lt_mul (by omega),show(256:Nat)=2^8 by rfl,<-Xm,show a-8+8=a by omega];exact h
def Fv(c x a b:Nat)(h:c<2^a)(d:x<2^b):c+2^a*x<2^(a+b):=by
 rw[Xm];have:2^a*(x+1)<=2^a*2^b:=Xk _ d;rw[Yf] at this;omega
def QO(a:List Nat)(c x d b k:Nat)(l:List Nat)(e:k<l.length)(g:l[k]=x)(f:8*a.length+d=k*b)(h:V a+256^a.length*c=N b (l.take k)):
 V a+256^a.length*(c+2^d*x)=N b (l.take (k+1)):=by
 rw[De b l k e,g,<-h,Yf,<-Nat.mul_assoc,Cl,<-Xm,f,Xz k b,U6]
end Pk
end Go.Proofs.YtjidbonhhpkljaaGreat
namespace Go.Proofs.YtjidbonhhpkljaaGreat.Pm
def Lq(l:List Nat):V l=N 8 l:=by
 induction l with
 |nil=>rfl
 |cons c b a=>simp only[V,N,a]
def cK (a:Nat)(l:List Nat):List Nat:=D 8 (N a l) ((l.length*a+7)/8)
def tj(b:Nat)(l:List Nat):∀x∈cK b l,x<256:=λx a=>QK 8 _ _ x a
def fc(a:Nat)(l:List Nat):(cK a l).length=(l.length*a+7)/8:=px _ _ _
def tq(b:Nat)(l a:List Nat)(h1:a.length=(l.length*b+7)/8)(c:∀x∈a,x<256)(d:V a=N b l):a=cK b l:=by
 refine Sj a _ c (tj b l) (by rw[fc,h1]) ?_;rw[Lq (cK b l),cK,SP,<-d,<-h1,<-Cl,Nat.mod_eq_of_lt (S5 a c)]
end Go.Proofs.YtjidbonhhpkljaaGreat.Pm
namespace Go.Proofs.YtjidbonhhpkljaaGreat.Pk
open Go.RowKit Go.Proofs.YtjidbonhhpkljaaGreat.Pm
def strOf(b:List Nat):ByteArray:=strOfNums (b.map (fun(a:Nat)=>(a:Int)))
def kL(a:List Nat):(strOf a).size=a.length:=by
 unfold strOf strOfNums;simp[ByteArray.size]
def Qz (b:Nat)(c:List Int):Bool:=c.all λa=>decide (0<=a)&&decide (a<pw b)
def Jx{a:Nat}{b:List Int}(h:Qz a b=Z):∀z∈b,0<=z/\z<pw a:=by
 intro z c;have:=UA.1 h z c;simpa using this
def toNat_lt{a:Nat}{b:List Int}(h:Qz a b=Z):∀x∈b.map Int.toNat,x<2^a:=by
 intro x c;obtain⟨e,d,rfl⟩:=U8.1 c;have:=Jx h e d;unfold pw at this;omega
def qj{w:F}{base n:Nat}{v:U}{a:List Nat}(h:w.ownsRow base 5 1 v n (aG a))(c:a.length=n):
 (convert 133 9 v).run (aB T5) w= .ok (.string (strOf a)) w:=by
 rcases h.2 with⟨b,i⟩|⟨e,d,g,b,_⟩
 ·have f:a=[]:=Vi (by omega);subst f;subst b;exact run_convert_bytes_nil w 133 5 ay.underlying133 ay.underlying5 0 0 9 ay.underlying9
 ·subst b;exact run_convert_bytes_arg w 133 5 ay.underlying133 ay.underlying5 e 0 n d _ (by simp[c]) (I7 h c) 9 ay.underlying9
end Go.Proofs.YtjidbonhhpkljaaGreat.Pk
namespace Go.Proofs.YtjidbonhhpkljaaGreat.Pm
end Go.Proofs.YtjidbonhhpkljaaGreat.Pm
namespace Go.Proofs.YtjidbonhhpkljaaGreat.Pk
open Go.RowKit Go.Proofs.YtjidbonhhpkljaaGreat.Pm
def bytesOf(s:ByteArray):List Nat:=s.data.toList.map UInt8.toNat
def jB(s:ByteArray):∀x∈bytesOf s,x<256:=by
 intro x a;obtain⟨b,_,rfl⟩:=U8.1 a;exact b.toNat_lt
def aj(s:ByteArray):(bytesOf s).length=s.size:=by simp[bytesOf]
def vw(s:ByteArray)(j:Nat)(h:j<s.size):(bytesOf s)[j]'(by rw[aj];exact h)=s[j].toNat:=by
 simp only[bytesOf,List.getElem_map];rfl
def jV (l:List Nat):List Int:=l.map (fun(a:Nat)=>(a:Int))
def eT(a:List Int)(x:Int):bw a++[.int .i64 x]=bw (a++[x]):=by simp[bw]
end Go.Proofs.YtjidbonhhpkljaaGreat.Pk
namespace Go.Proofs.YtjidbonhhpkljaaGreat
namespace Pk
open Go.RowKit Pm
def nH(a:List Nat)(h:∀x∈a,x<256):bytesOf (strOf a)=a:=by
 unfold bytesOf strOf strOfNums;simp only[List.map_map];have:∀x∈a,(UInt8.toNat ∘ (fun(b:Int)=>UInt8.ofNat b.toNat) ∘ fun(b:Nat)=>(b:Int)) x=x:=by
  intro x c;have:=h x c;simp;omega
 rw[List.map_congr_left this];simp
def ng{s t:ByteArray}(h:bytesOf s=bytesOf t):s=t:=by
 have a:s.data.toList=t.data.toList:=by
  unfold bytesOf at h;exact List.map_inj_right (λc d b=>UInt8.toNat_inj.1 b) |>.1 h
 cases s;cases t;simp at a;simp[a]
def toList_inj{s t:ByteArray}(h:s.toList=t.toList):s=t:=by
 have b:∀a:ByteArray,a.toList=a.data.toList:=λa=>XL a;rw[b,b] at h;cases s;cases t;simp at h;simp[h]
def DR(s:ByteArray)(p:Nat)(h:p<s.size):s.extract p (p+1)=⟨#[s[p]]⟩:=by
 apply ng;unfold bytesOf;congr 1;rw[ByteArray.data_extract];simp only[Array.toList_extract];have a:p<s.data.toList.length:=h;rw[show List.extract s.data.toList p (p+1)=(s.data.toList.drop p).take 1 from by simp[List.extract],Wp a];rfl
def cj (s:ByteArray)(p:Nat):Xx:=.cells #[.string s,.int .i64 (p:Int)] 182 (0,0)
def eE (p:Nat):List Vs:=[{v:=.iface 205 (.agg #[.int .i64 (p:Int)]),recovered:=T8}]
def kK{w:F}{r p:Nat}{s:ByteArray}(h:w.heap[r]? =I (cj s p)):
 w.cell? ⟨r,0,K⟩=I (.string s)/\w.cell? ⟨r,1,K⟩=I (.int .i64 (p:Int))/\w.frozen? ⟨r,0,K⟩=T8/\w.frozen? ⟨r,1,K⟩=T8:=by
 unfold cj at h;refine⟨?_,?_,?_,?_⟩
 ·simp[Ut,h]
 ·simp[Ut,h]
 ·simp[UR,h]
 ·simp[UR,h]
def DM(w:F)(a:UK)(v:U)(m n:Nat):((w.drewN m).setCell a v).drewN n=(w.setCell a v).drewN (m+n):=by
 rw[show(w.drewN m).setCell a v=(w.setCell a v).drewN m from by unfold Yb;rfl,Xj]
def b9(r p:Nat)(s:ByteArray)(w:F)(h:w.heap[r]? =I (cj s p)):
 bG 97 #[(bS r)] w λe w'=>e= .panicked (eE p)/\w'=w:=by
 obtain⟨a,b,c,d⟩:=kK h;go_enter ay.func97,Tryz.ntmps97;go_wp2;exact⟨rfl,rfl,rfl⟩
def NV(r p:Nat)(s:ByteArray)(w:F)(b:s.size<=Ur)(j:¬p<s.size)(k:p<=s.size)(h:w.heap[r]? =I (cj s p)):
 bG 128 #[(bS r),.int .i64 1] w λe w'=>e= .panicked (eE p)/\∃n,w'=w.drewN n:=by
 obtain⟨c,d,f,g⟩:=kK h;unfold Ur at b;have a:=af h;have i:decide ((s.size:Int)-(p:Int)<1)=Z:=by simp;omega
 go_enter ay.func128,Tryz.ntmps128
 go_wp2_with fail
 go_quiet (fail)
 go_wp2_with (go_at_call 97;refine(b9 r p s _ (by exact a.o)).mono ?_;rintro e w' ⟨rfl,rfl⟩)
 exact⟨rfl,rfl,nq,rfl⟩
def P6(r p:Nat)(s:ByteArray)(w:F)(a:s.size<=Ur)(b:p<s.size)(h:w.heap[r]? =I (cj s p)):
 bG 128 #[(bS r),.int .i64 1] w λe w'=>e= .returned (.string ⟨#[s[p]]⟩)/\∃n,w'=(w.setCell ⟨r,1,K⟩ (.int .i64 ((p+1:Nat):Int))).drewN n:=by
 obtain⟨c,d,f,g⟩:=kK h;unfold Ur at a;have i:decide ((s.size:Int)-(p:Int)<1)=T8:=by simp;omega
 have j:(0:Int)<=(p:Int)+1:=by omega
 have k:(p:Int)+1<=(s.size:Int):=by omega
 have l:(p:Int)<=(p:Int)+1:=by omega
 have o:((p:Int)+1).toNat=p+1:=by omega
 have q:=DR s p b;go_enter ay.func128,Tryz.ntmps128
 go_wp2_with fail
 go_quiet (fail)
 generalize nq=m at*
 go_wp2_with fail
 go_quiet (fail)
 go_wp2;go_ret;exact⟨rfl,m+nq,DM _ _ _ _ _⟩
def sN(r p:Nat)(s:ByteArray)(w:F)(b:s.size<=Ur)(c:¬p<s.size)(d:p<=s.size)(h:w.heap[r]? =I (cj s p)):
 bG 129 #[(bS r)] w λe w'=>e= .panicked (eE p)/\∃n,w'=w.drewN n:=by
 have a:=af h;go_enter ay.func129,Tryz.ntmps129
 go_wp2_with (go_at_call 128;refine(NV r p s _ b c d a.o).mono ?_;rintro e w' ⟨rfl,n,rfl⟩)
 exact⟨rfl,rfl,n,rfl⟩
def xg(r p:Nat)(s:ByteArray)(w:F)(b:s.size<=Ur)(c:p<s.size)(h:w.heap[r]? =I (cj s p)):
 bG 129 #[(bS r)] w λe w'=>e= .returned (.int .u8 (s[p].toNat:Int))/\∃n,w'=(w.setCell ⟨r,1,K⟩ (.int .i64 ((p+1:Nat):Int))).drewN n:=by
 have a:=af h;go_enter ay.func129,Tryz.ntmps129
 go_wp2_with (go_at_call 128;refine(P6 r p s _ b c a.o).mono ?_;rintro e w' ⟨rfl,n,rfl⟩)
 go_ret;exact⟨rfl,n,rfl⟩
def BY(r p:Nat)(s:ByteArray)(w:F)(b:s.size<=Ur)(j:p<s.size)(h:w.heap[r]? =I (cj s p)):
 bG 93 #[(bS r)] w λe w'=>e= .panicked (eE p)/\∃n,w'=w.drewN n:=by
 obtain⟨c,d,f,g⟩:=kK h;unfold Ur at b;have a:=af h;have i:decide ((p:Int)<(s.size:Int))=Z:=by simp;omega
 go_enter ay.func93,Tryz.ntmps93
 go_wp2_with fail
 go_quiet (fail)
 go_wp2_with (go_at_call 97;refine(b9 r p s _ (by exact a.o)).mono ?_;rintro e w' ⟨rfl,rfl⟩)
 exact⟨rfl,rfl,nq,rfl⟩
def FZ(r p:Nat)(s:ByteArray)(w:F)(a:s.size<=Ur)(i:¬p<s.size)(h:w.heap[r]? =I (cj s p)):
 bG 93 #[(bS r)] w λe w'=>e= .returned (.tuple #[])/\∃n,w'=w.drewN n:=by
 obtain⟨b,c,d,f⟩:=kK h;unfold Ur at a;have g:decide ((p:Int)<(s.size:Int))=T8:=by simp;omega
 go_enter ay.func93,Tryz.ntmps93
 go_wp2_with fail
 go_quiet (fail)
 go_wp2
 go_end0
 exact⟨rfl,nq,rfl⟩
def nN(s:ByteArray)(w:F):
 bG 65 #[.string s] w λe w'=>e= .returned (bS w.heap.size)/\w'=w.alloc (cj s 0):=by
 go_enter ay.func65,Tryz.ntmps65;go_wp2;go_ret;exact⟨rfl,rfl⟩
def lW{w:F}{r p q:Nat}{s:ByteArray}(h:w.heap[r]? =I (cj s p))(n:Nat):((w.setCell ⟨r,1,K⟩ (.int .i64 (q:Int))).drewN n).heap[r]? =I (cj s q):=by
 show(w.setCell ⟨r,1,K⟩ (.int .i64 (q:Int))).heap[r]? =_;unfold cj at*;rw[heap_setCell_same w r 1 _ _ _ h];rfl
def Kp (r:Nat)(w w':F):Prop:=w.grownBy w' (I r)
def Kp.refl(r:Nat)(w:F):Kp r w w:=YR w _
def Kp.size{r:Nat}{w w':F}(h:Kp r w w'):w.heap.size<=w'.heap.size:=Xq h
def Kp.trans{r:Nat}{w d e:F}(h:Kp r w d)(k:Kp r d e):Kp r w e:=
 ⟨k.os.trans h.os,k.tape.trans h.tape,k.output.trans h.output,Uz (Xq h) (Xq k),λc a b=>(Ww k c (Ue a (Xq h)) b).trans (Ww h c a b)⟩
def Kp.drewN{r:Nat}{w a:F}(h:Kp r w a)(n:Nat):Kp r w (a.drewN n):=Kp.trans h ⟨rfl,rfl,rfl,T9 _,λ_ _ _=>rfl⟩
def Kp.alloc{r:Nat}{w a:F}(h:Kp r w a)(o:Xx):Kp r w (a.alloc o):=Kp.trans h (World.grownBy_alloc a o _)
def Kp.grown{r:Nat}{w d e:F}{c:Option Nat}(h:Kp r w d)(k:d.grownBy e c)(j:∀g,c=I g->w.heap.size<=g):Kp r w e:=
 ⟨k.os.trans h.os,k.tape.trans h.tape,k.output.trans h.output,Uz (Xq h) k.size,λa b i=>(k.block a (Ue b (Xq h)) (λf=>by have:=j a f.symm;omega)).trans (Ww h a b i)⟩
def Kp.set{r:Nat}{w a:F}(h:Kp r w a)(o:Nat)(v:U)(n:Nat):Kp r w ((a.setCell ⟨r,o,K⟩ v).drewN n):=
 Kp.trans h ⟨rfl,rfl,rfl,by simp,λd e c=>by
  show(a.setCell ⟨r,o,K⟩ v).heap[d]? =_;exact heap_setCell_other _ _ _ _ (λb=>c (by cases b;rfl))⟩
def Kp.below{r:Nat}{w a:F}(h:Kp r w a)(e:r<=w.heap.size):WN r w a:=⟨h.os,h.tape,h.output,Xq h,λc d=>Ww h c (by omega) (λb=>by cases b;omega)⟩
def Kp.ct{r:Nat}{w a:F}(h:aP w a):Kp r w a:=⟨h.os,h.tape,h.output,h.size,λc b _=>h.block c b⟩
def Kp.own{r:Nat}{w b:F}{base e a n:Nat}{v:U}{c:List U}(k:Kp r w b)(h:w.ownsRow base e a v n c)(g:r<base):b.ownsRow base e a v n c:=
 h.kept k (by
  cases d:v.ownBlock with
  |none=>exact .inl Y
  |some f=>exact .inr (λe=>by cases e;have:=(h.lt r d).1;omega))
def Kp.block{r:Nat}{w a:F}(k:Kp r w a){i:Nat}{o:Xx}(h:w.heap[i]? =I o)(c:i≠r):a.heap[i]? =I o:=by
 rw[Ww k i (Uf h) (λb=>c (by cases b;rfl))];exact h
end Pk
namespace Ec
open Pk Pm
def iU:Nat->Nat->List Nat
 |0,a=>[]
 |f+1,a=>if a<128 then[a] else(a%128+128)::iU f (a/128)
def aL (n:Nat):List Nat:=iU 10 n
def fM(f n:Nat)(h:n<128):iU (f+1) n=[n]:=by simp[iU,h]
def iS(f n:Nat)(h:¬n<128):iU (f+1) n=(n%128+128)::iU f (n/128):=by simp[iU,h]
def N7(f n:Nat):∀x∈iU f n,x<256:=by
 induction f generalizing n with
 |zero=>simp[iU]
 |succ f d=>
  intro x a;by_cases b:n<128
  ·rw[fM f n b] at a;simp at a;omega
  ·rw[iS f n b] at a;rcases VN.1 a with c|c
   ·omega
   ·exact d _ x c
def cq(f n:Nat):(iU f n).length<=f:=by
 induction f generalizing n with
 |zero=>simp[iU]
 |succ f b=>
  by_cases a:n<128
  ·rw[fM f n a];simp
  ·rw[iS f n a];have:=b (n/128);simp;omega
def Rv(f:Nat)(n:Nat)(h:n<128^(f+1)):n/128<128^f:=by
 rw[WM] at h;exact Nat.div_lt_of_lt_mul (by rw[Xz];exact h)
def JQ(n:Nat)(h:n<18446744073709551616):n<128^10:=by
 have:(128:Nat)^10=1180591620717411303424:=by decide
 omega
def zz (n:Int):Nat:=if n<0 then(-2*n-1).toNat else(2*n).toNat
def BB(n:Int)(a: -9223372036854775808<=n)(h1:n<=9223372036854775807):zz n<18446744073709551616:=by
 unfold zz;split<;>omega
def SA:∀x,x<256->x|||128=x%128+128:=by decide +kernel
end Ec
end Go.Proofs.YtjidbonhhpkljaaGreat
namespace Go.Proofs.YtjidbonhhpkljaaGreat.Ec
open Go.RowKit Go.Proofs.YtjidbonhhpkljaaGreat.Pk
structure aE where
 null:Bool
 n:Int
 s:ByteArray
def aE.agg(v:aE):U:=.agg #[.bool v.null,.int .i64 v.n,.string v.s]
def aH (l:List aE):List U:=l.flatMap λv=>[.bool v.null,.int .i64 v.n,.string v.s]
structure sK(w:F)(ao:Option UK)(b off:Nat)(l:List aE):Prop where
 addr:0<l.length->ao=I ⟨b,off,K⟩
 lt:0<l.length->b<w.heap.size
 c0:∀j (h:j<l.length),w.cell? ⟨b,off+j*3,K⟩=I (.bool l[j].null)
 c1:∀j (h:j<l.length),w.cell? ⟨b,off+j*3+1,K⟩=I (.int .i64 l[j].n)
 c2:∀j (h:j<l.length),w.cell? ⟨b,off+j*3+2,K⟩=I (.string l[j].s)
def sK.below{w w':F}{e:Option UK}{b off:Nat}{l:List aE}(h:sK w e b off l)(d:aP w w'):sK w' e b off l:=
 ⟨h.addr,λf=>Ue (h.lt f) d.size,
  λa c=>(d.cell (p:=⟨b,off+a*3,K⟩) (h.lt (by omega))).trans (h.c0 a c),
  λa c=>(d.cell (p:=⟨b,off+a*3+1,K⟩) (h.lt (by omega))).trans (h.c1 a c),
  λa c=>(d.cell (p:=⟨b,off+a*3+2,K⟩) (h.lt (by omega))).trans (h.c2 a c)⟩
def Fj (x y:aE):Bool:=(x.null==y.null)&&(x.n==y.n)&&(x.s.toList==y.s.toList)
def nC{x y:aE}:Fj x y=Z↔x=y:=by
 unfold Fj;constructor
 ·intro a;simp only[Ux,beq_iff_eq] at a;obtain⟨⟨b,c⟩,d⟩:=a;cases x;cases y;simp only at b c d;rw[b,c,toList_inj d]
 ·rintro rfl;simp
def ED(w:F)(x y:aE):(binOp .neq 59 (.agg #[.bool x.null,.int .i64 x.n,.string x.s]) (.agg #[.bool y.null,.int .i64 y.n,.string y.s])).run (aB T5) w= .ok (.bool (!Fj x y)) w:=by
 go_simp;unfold Fj;by_cases a:x.null=y.null<;>by_cases b:x.n=y.n<;>by_cases c:x.s.toList=y.s.toList<;>simp[a,b,c]
def zk(c d:List aE)(v bo:Option UK)(b off cap b2 q H:Nat)(w:F)(I:c.length<=Ur)(J:d.length<=Ur)
 (h1:sK w v b off c) (j:sK w bo b2 q d):
 bG 29 #[.slice v c.length cap,.slice bo d.length H] w λe w'=>∃b,e= .returned (.bool b)/\(b=Z↔c=d)/\∃n,w'=w.drewN n:=by
 unfold Ur at I J;by_cases o:c.length=d.length
 ·have y:((c.length:Int) !=(d.length:Int))=T8:=by simp[o]
  have u:=af o;clear o;go_enter ay.func29,Tryz.ntmps29
  go_wp2_with fail
  clear y
  go_loopw [5] (λt wr=>∃a:Nat,a<=c.length/\t= .int .i64 a/\c.take a=d.take a/\∃n,wr=w.drewN n) (λt _=>c.length-(UT t).toNat)
  case atStart=>exact⟨0,UF _,rfl,rfl,0,rfl⟩
  case round=>
   obtain⟨a,K,rfl,A,n,f⟩:=hrel;have r:=af A;clear A;by_cases l:a<c.length
   ·have p:a<d.length:=by rw[<-u.o];exact l
    obtain rfl:=h1.addr (by omega);obtain rfl:=j.addr (by omega);have L:bU wr b (off+a*3) (.bool c[a].null):=by rw[f];exact h1.c0 a l
    have M:bU wr b (off+a*3+1) (.int .i64 c[a].n):=by rw[f];exact h1.c1 a l
    have N:bU wr b (off+a*3+2) (.string c[a].s):=by rw[f];exact h1.c2 a l
    have O:bU wr b2 (q+a*3) (.bool d[a].null):=by rw[f];exact j.c0 a p
    have P:bU wr b2 (q+a*3+1) (.int .i64 d[a].n):=by rw[f];exact j.c1 a p
    have Q:bU wr b2 (q+a*3+2) (.string d[a].s):=by rw[f];exact j.c2 a p
    have m:=af f;have i:X (c[a]≠d[a]->c≠d):=λg e=>g (by subst e;rfl);have s:X (c[a]=d[a]->c.take (a+1)=d.take (a+1)):=λg=>by rw[Up l,Up p,r.o,g]
    have z:=λw=>ED w c[a] d[a];clear f h1 j r;generalize c[a]=B at*;generalize d[a]=C at*;by_cases h:B=C
    ·have k:=nC.2 h;have G:=af (s.o h);rw[k] at z;clear s i h k
     go_wp2_with fail
     go_quiet (fail)
     go_wp2
     go_roundw
     case rel=>exact⟨a+1,by omega,by go_num,G.o,n+nq,by rw[m.o];exact Xj _ _ _⟩
     case measure=>simp[UT];omega
    ·have k:Fj B C=T8:=by rw[Bool.eq_false_iff];intro g;exact h (nC.1 g)
     have E:=af (i.o h);rw[k] at z;clear s i h k
     go_wp2_with fail
     go_quiet (fail)
     go_wp2;go_ret;exact⟨T8,rfl,by simp;exact E.o,n+nq,by rw[m.o];exact Xj _ _ _⟩
   ·have x:c=d:=by
     have:=r.o;rwa [UP (by omega),UP (by rw[<-u.o];omega)] at this
    have D:=af x;have m:=af f;clear x f;go_wp2;go_ret;exact⟨Z,rfl,by simp;exact D.o,n,m.o⟩
 ·have y:((c.length:Int) !=(d.length:Int))=Z:=by simp;omega
  have i:X (c≠d):=λg=>o (by rw[g]);go_enter ay.func29,Tryz.ntmps29;go_wp2;go_ret;exact⟨T8,rfl,by simp;exact i.o,0,rfl⟩
end Go.Proofs.YtjidbonhhpkljaaGreat.Ec
namespace Go.Proofs.YtjidbonhhpkljaaGreat
abbrev iG(x:Ec.aE):Array U:= #[.bool x.null,.int .i64 x.n,.string x.s]
end Go.Proofs.YtjidbonhhpkljaaGreat
namespace Go.Proofs.YtjidbonhhpkljaaGreat
namespace Ec
open Go.RowKit Pk Pm
structure aO(w w':F)(v v':U):Prop where
 fP:w.grownBy w' v.ownBlock
 at_:∀g,v'.ownBlock=I g->v.ownBlock=I g\/w.heap.size<=g
def aO.refl(w:F)(v:U):aO w w v v:=⟨YR w _,λ_ a=>.inl a⟩
def aO.trans{w g h:F}{v v1 v2:U}(h1:aO w g v v1)(b:aO g h v1 v2):aO w h v v2:=by
 refine⟨⟨b.fP.os.trans h1.fP.os,b.fP.tape.trans h1.fP.tape,b.fP.output.trans h1.fP.output,Uz h1.fP.size b.fP.size,?_⟩,?_⟩
 ·intro c e f;rw[b.fP.block c (Ue e h1.fP.size) (λj=>?_),h1.fP.block c e f];rcases h1.at_ c j.symm with a|a
  ·exact f a.symm
  ·omega
 ·intro d i;rcases b.at_ d i with a|a
  ·exact h1.at_ d a
  ·exact .inr (Uz h1.fP.size a)
def aO.alloc{w a:F}{v v1:U}(h:aO w a v v1)(o:Xx):aO w (a.alloc o) v v1:=
 h.trans ⟨World.grownBy_alloc a o _,λ_ h=>.inl h⟩
def aO.drewN{w a:F}{v v1:U}(h:aO w a v v1)(n:Nat):aO w (a.drewN n) v v1:=
 h.trans ⟨⟨rfl,rfl,rfl,T9 _,λ_ _ _=>rfl⟩,λ_ h=>.inl h⟩
def aO.below{w w':F}{v c:U}{base:Nat}(h:aO w w' v c)(b:∀g,v.ownBlock=I g->base<=g)(a:base<=w.heap.size):WN base w w':=
 (Uq base w).grown h.fP a b
def aO.append{w b:F}{v v1:U}{e k n:Nat}{l:List U}{o:Xx}
 (h:((w.alloc o).grownBy b K/\b.ownsRow (w.alloc o).heap.size e k v1 n l)\/(v1.ownBlock=v.ownBlock/\(w.alloc o).grownBy b v.ownBlock)):aO w b v v1:=by
 have g:=(aO.refl w v).alloc o;refine g.trans ?_;rcases h with⟨a,c⟩|⟨a,c⟩
 ·refine⟨⟨a.os,a.tape,a.output,a.size,λj i _=>a.block j i (by simp)⟩,λf d=>.inr (c.lt f d).1⟩
 ·exact⟨c,λf d=>.inl (by rw[<-a];exact d)⟩
def LR{w:F}{g:Nat}{x:Nat}(hc:w.cell? ⟨g,0,K⟩=I (.int .u8 (x:Int))):
 (convert 133 9 (.slice (I ⟨g,0,K⟩) 1 1)).run (aB T5) w= .ok (.string (strOf [x])) w:=
 run_convert_bytes_arg w 133 5 ay.underlying133 ay.underlying5 g 0 1 1 [(x:Int)] Y (λa b=>by
  have:a=0:=by omega
  subst this;exact hc) 9 ay.underlying9
def gT(w:F)(a:U)(t:Ui):∀(j:Nat) (u:U),[a][j]? =I u->(w.alloc (.cells #[a] t)).cell? ((⟨w.heap.size,0,K⟩:UK).add j)=I u:=by
 intro j u b
 match j,b with
 |0,b=>simp at b;subst b;simp[Ys]
def jo(x:Int):∀u∈[VZ .u8 x],u.oneCell'=Z:=by
 intro u a;simp at a;subst a;rfl
def DD(w:F)(x:Nat):(convert 133 9 (.slice (I ⟨w.heap.size,0,K⟩) 1 1)).run (aB T5) (w.alloc (.cells #[.int .u8 (x:Int)] 5))= .ok (.string (strOf [x])) (w.alloc (.cells #[.int .u8 (x:Int)] 5)):=
 LR (by simp)
def Qd(f n:Nat)(w:F)(h:n<128):bG 133 #[.int .u64 n] w λe w'=>e= .returned (.string (strOf (iU (f+1) n)))/\aP w w':=by
 rw[fM f n h];have a:=DD w n;go_enter ay.func133,Tryz.ntmps133;go_wp2;go_ret;exact⟨rfl,(Uq _ _).alloc (T9 _) _⟩
def SB(n:Nat):bits .or .u8 ((n:Int)%256) 128=((n%128+128:Nat):Int):=by
 have a:=(bits_nat .u8 8 (by decide) wraps_u8 (n%256) 128 (by omega) (by omega)).2;rw[show((n%256:Nat):Int)=(n:Int)%256 from by omega,SA (n%256) (by omega)] at a;rw[show(128:Int)=((128:Nat):Int) from rfl,a];omega
def nV(v:U)(pre:List Nat)(n base:Nat)(w:F)(C:n<18446744073709551616)(V:pre.length<=4000000)(R:base<=w.heap.size)
 (g:w.ownsRow base 5 1 v pre.length (aG pre)):
 bG 121 #[v,.int .u64 n] w λe w'=>∃l,e= .returned l/\w'.ownsRow base 5 1 l (pre++aL n).length (aG (pre++aL n))/\aO w w' v l:=by
 obtain⟨I,A,E,G,H⟩:=Vg ay.rH;go_enter ay.func121,Tryz.ntmps121
 go_wp2_with fail
 go_loopw [0,1] (λs k wr=>∃(f m:Nat) (a:List Nat),f<=9/\k= .int .u64 m/\m<128^(f+1)/\m<18446744073709551616/\a.length+f=9/\a++iU (f+1) m=aL n/\wr.ownsRow base 5 1 s (pre++a).length (aG (pre++a))/\aO w wr v s/\w.heap.size<=wr.heap.size) (λ_ k _=>(UT k).toNat)
 case atStart=>exact⟨9,n,[],by omega,rfl,JQ n C,C,rfl,rfl,by simpa using g,aO.refl _ _,T9 _⟩
 case round=>
  obtain⟨f,m,a,S,rfl,B,W,u,x,g,y,aa⟩:=hrel;have q:X (m<128^(f+1)):=B;have o:X (a++iU (f+1) m=aL n):=x;have L:X (a.length+f=9):=u;have Z:(pre++a).length<=4000009:=by simp;omega
  clear B x u;have p:X (aO w wr v u0):=y;clear y;have M:X (∃b,b=pre++a):=⟨_,rfl⟩;generalize D:pre++a=b at*;have r:X (pre++a=b):=D;clear D M;by_cases t:m<128
  ·have ab:Yv.wrap (m:Int)=(m:Int):=Ht (by omega) (by omega)
   go_wp2_with (at_builtin;refine aS _ Y _ _ 133 Y base 5 I (.int .u8 0) 1 1 ay.underlying133 A E G H Y (by decide) _ b.length _ Y (g.alloc _) ⟨wr.heap.size,0,K⟩ 1 1 [.int .u8 (m:Int)] Y (by decide) Y (gT _ _ _) (jo _) (by unfold Ur;omega) (by omega) (by simp;omega) ?_;intro Q J c i)
   go_ret;refine⟨_,rfl,?_,p.o.trans (aO.append i)⟩;rw[eS] at c;have e:pre++aL n=b++[m]:=by rw[<-o.o,fM f m t,<-r.o,UD]
   rw[e];simpa using c
  ·have O:=SB m;obtain⟨d,j⟩:∃d,d=m%128+128:=⟨_,rfl⟩;rw[<-j] at O;have T:0<f:=by
    rcases Nat.eq_zero_or_pos f with h|h
    ·subst h;have:=q.o;simp at this;omega
    ·exact h
   have N:X (d=m%128+128):=j;clear j
   go_wp2_with (at_builtin;refine aS _ Y _ _ 133 Y base 5 I (.int .u8 0) 1 1 ay.underlying133 A E G H Y (by decide) _ b.length _ Y (g.alloc _) ⟨wr.heap.size,0,K⟩ 1 1 [.int .u8 (d:Int)] Y (by decide) Y (gT _ _ _) (jo _) (by unfold Ur;omega) (by omega) (by simp;omega) ?_;intro Q J c i)
   have z:=p.o.trans (aO.append i);have P:w.heap.size<=J.heap.size:=z.fP.size;rw[eS] at c;refine⟨⟨f-1,m/128,a++[d],by omega,by go_num,?_,by omega,by have:=L.o;simp;omega,?_,?_,z,P⟩,by simp[UT];omega⟩
   ·have:=Rv f m q.o;rwa [show f-1+1=f by omega]
   ·rw[<-o.o,iS f m t,show f-1+1=f by omega,N.o,UD];rfl
   ·rw[<-UD,r.o];simpa using c
def wrap_u64(n:Int):Wm.wrap n=n%18446744073709551616:=by simp[IntKind.wrap,Yh,XV]
def xor_zero(x:Nat)(a:x<18446744073709551616):bits .xor .u64 (x:Int) 0=(x:Int):=by
 show Wm.wrap (((Xd 64 (x:Int))^^^(Xd 64 0)).toNat:Int)=_;rw[BitVec.ofInt_natCast,show Xd 64 0=0#64 from rfl,BitVec.xor_zero,BitVec.toNat_ofNat,wrap_u64];omega
def Og(x:Nat)(a:x<18446744073709551616):bits .xor .u64 (x:Int) 18446744073709551615=((18446744073709551615-x:Nat):Int):=by
 show Wm.wrap (((Xd 64 (x:Int))^^^(Xd 64 18446744073709551615)).toNat:Int)=_;rw[BitVec.ofInt_natCast,show Xd 64 18446744073709551615=BitVec.allOnes 64 from by decide +kernel,BitVec.xor_allOnes,BitVec.toNat_not,BitVec.toNat_ofNat,wrap_u64];omega
def Ol(n:Int)(e: -9223372036854775808<=n)(h1:n<=9223372036854775807):
 bits .xor .u64 (Wm.wrap (Vd (n*2))) (Wm.wrap (n/9223372036854775808))=(zz n:Int):=by
 by_cases d:n<0
 ·have c:Wm.wrap (n/9223372036854775808)=18446744073709551615:=by rw[wrap_u64];omega
  obtain⟨b,a⟩:∃b:Nat,Wm.wrap (Vd (n*2))=(b:Int):=⟨(Wm.wrap (Vd (n*2))).toNat,by rw[wrap_u64];omega⟩;rw[a,c];rw[wrap_u64] at a;unfold Vd at a;rw[Og b (by omega)];unfold zz;rw[if_pos d];omega
 ·have c:Wm.wrap (n/9223372036854775808)=0:=by rw[wrap_u64];omega
  obtain⟨b,a⟩:∃b:Nat,Wm.wrap (Vd (n*2))=(b:Int):=⟨(Wm.wrap (Vd (n*2))).toNat,by rw[wrap_u64];omega⟩;rw[a,c];rw[wrap_u64] at a;unfold Vd at a;rw[xor_zero b (by omega)];unfold zz;rw[if_neg d];omega
def fY (k:Int):Bool:=decide (1<=k)&&decide (k<=3)
def bI (k e:Int):Bool:=((e==0||e==2)&&fY k)||(e==1&&k==1)||(e==3&&k==2)
def oA(k:Int)(w:F):bG 120 #[.int .i64 k] w λe w'=>e= .returned (.bool (fY k))/\w'=w:=by
 by_cases a:1<=k<;>by_cases b:k<=3
 all_goals
  go_enter ay.func120,Tryz.ntmps120;go_wp2
  all_goals go_ret
  all_goals exact⟨by simp[fY,a,b],rfl⟩
def BN(e:Int):e=0\/e=1\/e=2\/e=3\/((e==0)=T8/\(e==1)=T8/\(e==2)=T8/\(e==3)=T8):=by
 by_cases a:e=0
 ·exact .inl a
 by_cases b:e=1
 ·exact .inr (.inl b)
 by_cases c:e=2
 ·exact .inr (.inr (.inl c))
 by_cases d:e=3
 ·exact .inr (.inr (.inr (.inl d)))
 exact .inr (.inr (.inr (.inr ⟨by simpa using a,by simpa using b,by simpa using c,by simpa using d⟩)))
def o8(k e:Int)(w:F):bG 83 #[.int .i64 k,.int .i64 e] w λr w'=>r= .returned (.bool (bI k e))/\w'=w:=by
 have g:∀a:Bool,(a||false)=a:=by simp
 rcases BN e with rfl|rfl|rfl|rfl|⟨b,c,d,f⟩
 ·rw[show bI k 0=fY k from by simp[bI]];go_enter ay.func83,Tryz.ntmps83
  go_wp2_with (go_at_call 120;refine(oA k _).mono ?_;rintro e w' ⟨rfl,rfl⟩)
  go_ret;exact⟨rfl,rfl⟩
 ·rw[show bI k 1=(k==1) from by simp[bI]];go_enter ay.func83,Tryz.ntmps83;go_wp2
  all_goals go_ret
  all_goals exact⟨rfl,rfl⟩
 ·rw[show bI k 2=fY k from by simp[bI]];go_enter ay.func83,Tryz.ntmps83
  go_wp2_with (go_at_call 120;refine(oA k _).mono ?_;rintro e w' ⟨rfl,rfl⟩)
  go_ret;exact⟨rfl,rfl⟩
 ·rw[show bI k 3=(k==2) from by simp[bI]];go_enter ay.func83,Tryz.ntmps83;go_wp2
  all_goals go_ret
  all_goals exact⟨rfl,rfl⟩
 ·rw[show bI k e=T8 from by simp[bI,b,c,d,f]];go_enter ay.func83,Tryz.ntmps83;go_wp2
  all_goals go_ret
  all_goals exact⟨rfl,rfl⟩
def MU{k e:Int}(a:(k==1)=T8)(b:(k==2)=T8)(f:(k==3)=T8):bI k e=T8:=by
 have d:fY k=T8:=by
  simp at a b f;unfold fY;by_cases c:1<=k
  ·have:¬k<=3:=by omega
   simp[this]
  ·simp[c]
 simp[bI,d,a,b]
def Pv{k e:Int}(a:(e==0)=T8)(h1:(e==1)=T8)(b:(e==2)=T8)(c:(e==3)=T8):bI k e=T8:=by simp[bI,a,h1,b,c]
def jD (n k e:Int):Int:=if n<0\/100<n then 6 else if bI k e then 0 else 2
def o6(n k e:Int)(w:F):bG 123 #[.int .i64 n,.int .i64 k,.int .i64 e] w λr w'=>r= .returned (.int .i64 (jD n k e))/\w'=w:=by
 by_cases b:n<0\/100<n
 ·have a:=pO n w;rw[show FJ n=6 from by simp[FJ,b]] at a;rw[show jD n k e=6 from by simp[jD,b]];go_enter ay.func123,Tryz.ntmps123
  go_wp2_with (go_at_call 141;refine a.mono ?_;rintro e w' ⟨rfl,rfl⟩)
  all_goals go_ret
  all_goals exact⟨rfl,rfl⟩
 ·have a:=pO n w;rw[show FJ n=0 from by simp[FJ,b]] at a;have c:=o8 k e;by_cases d:bI k e=Z
  ·rw[show jD n k e=0 from by simp[jD,b,d]];rw[d] at c;go_enter ay.func123,Tryz.ntmps123
   go_wp2_with (first|(go_at_call 141;refine a.mono ?_;rintro e w' ⟨rfl,rfl⟩)|(go_at_call 83;refine(c _).mono ?_;rintro e w' ⟨rfl,rfl⟩))
   all_goals go_ret
   all_goals exact⟨rfl,rfl⟩
  ·have f:bI k e=T8:=by simpa using d
   rw[show jD n k e=2 from by simp[jD,b,f]];rw[f] at c;go_enter ay.func123,Tryz.ntmps123
   go_wp2_with (first|(go_at_call 141;refine a.mono ?_;rintro e w' ⟨rfl,rfl⟩)|(go_at_call 83;refine(c _).mono ?_;rintro e w' ⟨rfl,rfl⟩))
   all_goals go_ret
   all_goals exact⟨rfl,rfl⟩
def cQ(v:U)(pre:List Nat)(n base:Nat)(w:F)(i:n<2147483648)(g:pre.length<=4000000)(f:base<=w.heap.size)
 (h:w.ownsRow base 5 1 v pre.length (aG pre)):
 bG 84 #[v,.int .i64 n] w λe w'=>∃a,e= .returned a/\w'.ownsRow base 5 1 a (pre++aL n).length (aG (pre++aL n))/\aO w w' v a:=by
 have b:X (bG 121 #[v,.int .u64 n] w λe w'=>∃a,e= .returned a/\w'.ownsRow base 5 1 a (pre++aL n).length (aG (pre++aL n))/\aO w w' v a):=
  nV v pre n base w (by omega) g f h
 go_enter ay.func84,Tryz.ntmps84
 go_wp2_with fail
 refine b.o.mono ?_;rintro e w' ⟨a,rfl,c,d⟩;go_wp2;go_ret;exact⟨_,rfl,c,d⟩
def DJ(n:Int)(a: -9223372036854775808<=n)(h1:n<=9223372036854775807)(w:F):
 bG 140 #[.int .i64 n] w λe w'=>e= .returned (.int .u64 (zz n))/\w'=w:=by
 have b:=Ol n a h1;go_enter ay.func140,Tryz.ntmps140;go_wp2;go_ret;exact⟨rfl,rfl⟩
def fR (v:aE)(k:Int):Bool:=
 if v.null then(v.n==0)&&(v.s.toList==[]) else if k==1 then v.s.toList==[] else if k==2 then(v.n==0||v.n==1)&&(v.s.toList==[]) else(v.n==0)&&decide ((v.s.size:Int)<=32)
def j6{a b:Bool}(h:a=b):Ending.returned (.bool a)= .returned (.bool b):=by rw[h]
def qI(v:aE)(k:Int)(w:F)(a:k=1\/k=2\/k=3):
 bG 82 #[.agg (iG v),.int .i64 k] w λe w'=>e= .returned (.bool (fR v k))/\aP w w':=by
 have b:=oA k;rw[show fY k=Z from by rcases a with rfl|rfl|rfl<;>rfl] at b;cases c:v.null
 ·rcases a with rfl|rfl|rfl
  all_goals
   go_enter ay.func82,Tryz.ntmps82;go_wp2
   all_goals go_ret
   all_goals refine⟨j6 ?_,(Uq _ _).alloc (T9 _) _⟩
   all_goals rw[XH]
   all_goals simp[fR, *]
   all_goals try omega
 ·rcases a with rfl|rfl|rfl
  all_goals
   go_enter ay.func82,Tryz.ntmps82
   go_wp2_with (go_at_call 120;refine(b _).mono ?_;rintro e w' ⟨rfl,rfl⟩)
   all_goals go_ret
   all_goals refine⟨j6 ?_,(Uq _ _).alloc (T9 _) _⟩
   all_goals rw[XH]
   all_goals simp[fR, *]
   all_goals try omega
def dH (x:Int):List Int->Nat
 | []=>0
 |y::a=>if y=x then dH x a+1 else 0
def byteOf(x:Int):Nat:=(x%256).toNat
def iD:Nat->List Int->List Nat
 |0,_=>[]
 |f+1,b=>match b with
  | []=>[]
  |x::a=>aL (dH x (x::a))++([byteOf x]++iD f ((x::a).drop (dH x (x::a))))
def cz (l:List Int):List Nat:=iD l.length l
def Bi(x:Int)(l:List Int):dH x l<=l.length:=by
 induction l with
 |nil=>simp[dH]
 |cons c b a=>simp only[dH];split<;>simp<;>omega
def Km(x:Int)(l:List Int)(n:Nat)(h:n<dH x l):∃e:n<l.length,l[n]=x:=by
 induction l generalizing n with
 |nil=>simp[dH] at h
 |cons g f d=>
  simp only[dH] at h
  split at h
  ·rename_i c;cases n with
   |zero=>exact⟨by simp,by simpa using c⟩
   |succ m=>
    obtain⟨a,b⟩:=d m (by omega);exact⟨by simp;exact a,by simpa using b⟩
  ·omega
def zh(x:Int)(l:List Int)(h:dH x l<l.length):l[dH x l]≠x:=by
 induction l with
 |nil=>simp at h
 |cons c d b=>
  simp only[dH] at h ⊢;by_cases a:c=x
  ·simp only[a,if_true] at h ⊢;have:=b (by simpa using h);simpa using this
  ·simp only[a,if_false] at h ⊢;simpa using a
def lP (a:List Int)(i:Nat):Nat:=dH (a.getD i 0) (a.drop i)
def Kl(a:List Int)(i:Nat)(h:i<a.length):0<lP a i:=by
 unfold lP;rw[Wp h,fj h];simp[dH]
def Np(a:List Int)(i:Nat)(h:i<a.length):i+lP a i<=a.length:=by
 have:=Bi (a.getD i 0) (a.drop i);unfold lP;rw[Xc] at this;omega
def No(a:List Int)(i n:Nat)(h:n<lP a i):∃e:i+n<a.length,a[i+n]=a.getD i 0:=by
 obtain⟨b,c⟩:=Km _ _ n h;have d:i+n<a.length:=by simp at b;omega
 exact⟨d,by simpa using c⟩
def Kk(a:List Int)(i:Nat)(h:i+lP a i<a.length):a[i+lP a i]≠a.getD i 0:=by
 have:=zh (a.getD i 0) (a.drop i) (by unfold lP at h;rw[Xc];omega);simpa [lP] using this
def GG(f:Nat)(a:List Int)(i:Nat)(h:i<a.length):iD (f+1) (a.drop i)=aL (lP a i)++([byteOf (a.getD i 0)]++iD f (a.drop (i+lP a i))):=by
 unfold lP;rw[Wp h,fj h];simp only[iD];rw[<-Wp h,List.drop_drop]
def Ks(f:Nat)(a:List Int)(i:Nat)(h:¬i<a.length):iD f (a.drop i)=[]:=by
 rw[List.drop_of_length_le (by omega)];cases f<;>rfl
def nZ(x:Int):byteOf x<256:=by unfold byteOf;omega
def mB(x:Int):x%256=(byteOf x:Int):=by unfold byteOf;omega
def oM(f:Nat)(l:List Int):(iD f l).length<=11*f:=by
 induction f generalizing l with
 |zero=>simp[iD]
 |succ f c=>
  cases l with
  |nil=>simp[iD]
  |cons a b=>
   simp only[iD];have d:=cq 10 (dH a (a::b));have e:=c ((a::b).drop (dH a (a::b)));simp only[Ub,List.length_singleton];unfold aL;omega
def pK(v:U)(pre:List Nat)(a:List Int)(a3:Option UK)(b off cap base:Nat)(w:F)(b4:a.length<=100)(cl:pre.length<=100000)(a5:base<=w.heap.size)
 (b1:0<a.length->a3=I ⟨b,off,K⟩) (cc:0<a.length->b<w.heap.size) (ap:0<a.length->v.ownBlock≠I b) (hc:∀j,j<a.length->bU w b (off+j) (.int .i64 (a.getD j 0)))
 (t:w.ownsRow base 5 1 v pre.length (aG pre)):
 bG 142 #[v,.slice a3 a.length cap] w λe w'=>∃p,e= .returned p/\w'.ownsRow base 5 1 p (pre++cz a).length (aG (pre++cz a))/\aO w w' v p:=by
 obtain⟨bo,a9,bj,bl,bm⟩:=Vg ay.rH;go_enter ay.func142,Tryz.ntmps142
 go_wp2_with fail
 go_loopw [0,5] (λa4 aw wr=>∃(c f:Nat) (i:List Nat),c<=a.length/\aw= .int .i64 c/\a.length<=c+f/\f<=100/\i.length+11*f<=1100/\i++iD f (a.drop c)=cz a/\wr.ownsRow base 5 1 a4 (pre++i).length (aG (pre++i))/\aO w wr v a4) (λ_ aw _=>a.length-(UT aw).toNat)
 case atStart=>exact⟨0,a.length,[],UF _,rfl,by omega,b4,by simp;omega,rfl,by simpa using t,aO.refl _ _⟩
 case round=>
  clear t;obtain⟨c,f,i,ci,rfl,ck,ch,cd,a6,t,am⟩:=hrel
  rename F=>az
  have R:=af a6;have N:=af am;have cx:w.heap.size<=az.heap.size:=am.fP.size;clear a6 am;have cs:(pre++i).length<=200000:=by simp;omega
  generalize bc:pre++i=n at*;have W:=af bc;clear bc;by_cases y:c<a.length
  ·obtain rfl:=b1 (by omega);have al:∀j,j<a.length->bU az b (off+j) (.int .i64 (a.getD j 0)):=λj bB=>N.o.fP.cell (hc j bB) (λu=>ap (by omega) u.symm);have a0:=af al;have a1:=af (GG (f-1) a c y);have cv:=Kl a c y;have cu:=Np a c y;have bs:X (∀k,k<lP a c->∃P:c+k<a.length,a[c+k]=a.getD c 0):=λk P=>No a c k P;have bt:X (∀u:c+lP a c<a.length,a[c+lP a c]≠a.getD c 0):=λu=>Kk a c u;have O:=al c y;clear al;generalize lP a c=d at*;generalize be:a.getD c 0=h at*;have a2:=af be;clear be
   go_wp2_with fail
   go_loopw [6] (λj cb=>∃m:Nat,c+1<=m/\m<=c+d/\j= .int .i64 (m:Int)/\∃k,cb=az.drewN k) (λj _=>a.length+1-(UT j).toNat)
   case atStart=>exact⟨c+1,by omega,by omega,by go_num,0,rfl⟩
   case round=>
    obtain⟨m,cn,co,rfl,k,l⟩:=hrel;have bv:=af l;have a7:bU wr b (off+c) (.int .i64 h):=by rw[l];exact O
    by_cases bb:m<c+d
    ·obtain⟨P,bd⟩:=bs.o (m-c) (by omega);have s:m<a.length:=by omega
     have G:bU wr b (off+m) (.int .i64 h):=by
      rw[l];have:=a0.o m s;rw[fj s] at this;rw[show a[m]=h from by rw[<-bd];congr 1;omega] at this;exact this
     have a8:decide ((m:Int)<(a.length:Int))=Z:=by simpa using s
     clear O l t P bd
     go_wp2_with fail
     go_quiet (fail)
     go_wp2
     go_roundw
     case rel=>exact⟨m+1,by omega,by omega,by go_num,k+nq,by rw[bv.o];exact Xj _ _ _⟩
     case measure=>simp[UT];omega
    ·have A:X (m=c+d):=by show m=c+d;omega
     have cp:c<=m:=by omega
     have bu:X (Vd ((m:Int)-(c:Int))=(d:Int)):=by have:=A.o;show _=_;unfold Vd;omega
     by_cases s:m<a.length
     ·have G:∃x,bU wr b (off+m) (.int .i64 x)/\x≠h:=by
       refine⟨a.getD m 0,by rw[l];exact a0.o m s,?_⟩;have e:=A.o;clear bu;subst e;rw[fj s];exact bt.o s
      obtain⟨x,G,bi⟩:=G;have a8:decide ((m:Int)<(a.length:Int))=Z:=by simpa using s
      have cf:(x==h)=T8:=by simpa using bi
      have V:X (∀g,(wr.drewN g).ownsRow base 5 1 u0 n.length (aG n)):=λg=>by rw[l];exact aK t (below_drewN (below_drewN (Uq _ _) k) g)
      have B:X (∀g,aO w (wr.drewN g) v u0):=λg=>by rw[l];exact(N.o.drewN k).drewN g
      clear O l t bb bi
      go_wp2_with fail
      go_quiet (fail)
      try clear G
      have av:Yv.wrap h=h%256:=by simp[IntKind.wrap,Yh,XV]
      rw[mB] at av;have bA:=nZ h;have S:X (∃x,x=byteOf h):=⟨_,rfl⟩;generalize L:byteOf h=q at*;have bx:=af L;clear S L;have b3:=cq 10 d;have aa:X (∃g,g=n++aL d):=⟨_,rfl⟩;generalize z:n++aL d=o at*;have b0:o.length<=200010:=by rw[<-z,Ub];unfold aL;omega
      have C:=af z;clear z aa;have Q:X (bG 84 #[u0,.int .i64 ((m:Int)-(c:Int))] (wr.drewN nq) λe w'=>∃p,e= .returned p/\w'.ownsRow base 5 1 p o.length (aG o)/\aO (wr.drewN nq) w' u0 p):=by
       have D:=cQ u0 n d base (wr.drewN nq) (by omega) (by omega) (Uz a5 (B.o nq).fP.size) (V.o nq);rw[C.o] at D;rw[show(m:Int)-(c:Int)=(d:Int) from by have:=A.o;omega];exact D
      go_wp2_with first
       |(go_at_call 84;refine Q.o.mono ?_;rintro e M ⟨b5,rfl,ar,H⟩;have r:=(B.o nq).trans H;have ae:=r.fP.cell (hc c y) (λu=>ap (by omega) u.symm);have T:=af r;have b2:w.heap.size<=M.heap.size:=r.fP.size;rw[a2.o] at ae;clear r H a7)
       |(at_builtin;refine aS _ Y _ _ 133 Y base 5 bo (.int .u8 0) 1 1 ay.underlying133 a9 bj bl bm Y (by decide) _ o.length _ Y (ar.alloc _) ⟨M.heap.size,0,K⟩ 1 1 [.int .u8 (q:Int)] Y (by decide) Y (gT _ _ _) (jo _) (by unfold Ur;omega) (by omega) (by simp;omega) ?_;intro b6 ca J an)
      have ao:=T.o.trans (aO.append an);rw[eS] at J;have ab:pre++(i++(aL d++[q]))=o++[q]:=by rw[<-C.o,<-W.o];simp[UD]
      have ad:(i++(aL d++[q]))++iD (f-1) (a.drop m)=cz a:=by
       have E:=a1.o;rw[show f-1+1=f by omega] at E;rw[<-R.o,E,A.o];simp[UD]
      refine⟨⟨m,f-1,i++(aL d++[q]),by omega,rfl,by omega,by omega,?_,ad,?_,ao⟩,by simp[UT];omega⟩
      ·rw[Ub,Ub];unfold aL;simp;omega
      ·rw[ab];simpa using J
     ·have a8:decide ((m:Int)<(a.length:Int))=T8:=by simpa using s
      have V:X (∀g,(wr.drewN g).ownsRow base 5 1 u0 n.length (aG n)):=λg=>by rw[l];exact aK t (below_drewN (below_drewN (Uq _ _) k) g)
      have B:X (∀g,aO w (wr.drewN g) v u0):=λg=>by rw[l];exact(N.o.drewN k).drewN g
      clear O l t bb
      go_wp2_with fail
      go_quiet (fail)
      try clear G
      have av:Yv.wrap h=h%256:=by simp[IntKind.wrap,Yh,XV]
      rw[mB] at av;have bA:=nZ h;have S:X (∃x,x=byteOf h):=⟨_,rfl⟩;generalize L:byteOf h=q at*;have bx:=af L;clear S L;have b3:=cq 10 d;have aa:X (∃g,g=n++aL d):=⟨_,rfl⟩;generalize z:n++aL d=o at*;have b0:o.length<=200010:=by rw[<-z,Ub];unfold aL;omega
      have C:=af z;clear z aa;have Q:X (bG 84 #[u0,.int .i64 ((m:Int)-(c:Int))] (wr.drewN nq) λe w'=>∃p,e= .returned p/\w'.ownsRow base 5 1 p o.length (aG o)/\aO (wr.drewN nq) w' u0 p):=by
       have D:=cQ u0 n d base (wr.drewN nq) (by omega) (by omega) (Uz a5 (B.o nq).fP.size) (V.o nq);rw[C.o] at D;rw[show(m:Int)-(c:Int)=(d:Int) from by have:=A.o;omega];exact D
      go_wp2_with first
       |(go_at_call 84;refine Q.o.mono ?_;rintro e M ⟨b5,rfl,ar,H⟩;have r:=(B.o nq).trans H;have ae:=r.fP.cell (hc c y) (λu=>ap (by omega) u.symm);have T:=af r;have b2:w.heap.size<=M.heap.size:=r.fP.size;rw[a2.o] at ae;clear r H a7)
       |(at_builtin;refine aS _ Y _ _ 133 Y base 5 bo (.int .u8 0) 1 1 ay.underlying133 a9 bj bl bm Y (by decide) _ o.length _ Y (ar.alloc _) ⟨M.heap.size,0,K⟩ 1 1 [.int .u8 (q:Int)] Y (by decide) Y (gT _ _ _) (jo _) (by unfold Ur;omega) (by omega) (by simp;omega) ?_;intro b6 ca J an)
      have ao:=T.o.trans (aO.append an);rw[eS] at J;have ab:pre++(i++(aL d++[q]))=o++[q]:=by rw[<-C.o,<-W.o];simp[UD]
      have ad:(i++(aL d++[q]))++iD (f-1) (a.drop m)=cz a:=by
       have E:=a1.o;rw[show f-1+1=f by omega] at E;rw[<-R.o,E,A.o];simp[UD]
      refine⟨⟨m,f-1,i++(aL d++[q]),by omega,rfl,by omega,by omega,?_,ad,?_,ao⟩,by simp[UT];omega⟩
      ·rw[Ub,Ub];unfold aL;simp;omega
      ·rw[ab];simpa using J
  ·have ba:=Ks f a c y;have br:X (pre++cz a=n):=by show _=_;rw[<-R.o,ba,List.append_nil];exact W.o
   clear ba;go_wp2;go_ret;exact⟨_,rfl,by rw[br.o];exact t,N.o⟩
end Ec
end Go.Proofs.YtjidbonhhpkljaaGreat
