/- What the proof stands on, in short names. -/
import Derived.Below
import Derived.Conc.Beside
import Derived.Laws.Sem
import Derived.StepT
import GoSem.Dispatch
import Derived.Conc.Listed
import Derived.Conc.LoneCalls
import Derived.Conc.Know
import Derived.Conc.CrowdComm
set_option linter.all false
open Array renaming getElem?_eq_getElem->VT,getElem?_eq_none->Wl,getElem?_eq_some_iff->U4,getElem?_modify->WT,getElem?_push->VF,getElem?_setIfInBounds->VE,getElem?_setIfInBounds_ne->WY,range->Y3
open Bool renaming and_eq_true->Vr,false->U5,false_eq_true->Vv,true->Z
open Classical renaming byContradiction->Xh,choose->Wq,choose_spec->Vo
open False renaming elim->YJ
open Go renaming Addr->VI,BinOp->Zw,Code->XQ,Deferred->Xs,Event->Wm,Frame->Vg,Func->XJ,FuncId->Xb,GStep->Zr,Goroutine->VL,IntKind->XL,Item->XR,MapEntry->WQ,MemOp->Zx,Obj->Yk,Operand->V4,PanicEntry->Ws,Program->Vb,Result->YX,Sem->XH,TypeId->Vc,Value->U,World->F,behindNumber->XN,doReturn->Yb,exitTo->YE,resolve->Y6,results->V0,sizeOf->Zg,stepG->VN,tryRecover->Ys,typeInfo->Yc,undef->V9,underlying->Yt,unwind->Zh,zeroValue->Xl
open Go.Addr.mk renaming injEq->Xk
open Go.Builtin renaming append_->YY,copy_->Yx,firstCells->XP,holdsCells->Yp,lenOf->YO,mayShare->Zb,unsafeAdd_->Yq
open Go.Conc renaming G->Vd,mem_ofEvents->X8,served->Xr,solo->Zj
open Go.ConcN renaming sumTo->YP
open Go.Deferred renaming ofValue->YQ
open Go.Extern renaming find->Zz
open Go.Frame renaming enter->VU,finish->WJ,round->Xt
open Go.GStep renaming after->XZ
open Go.Goroutine.mk renaming injEq->ZH
open Go.Instr renaming buildSlice->X9,checkKey->YU,endRound->YB,fill->YL,findKey->Zn,makeSlice->YZ,sameBits->YC,sureAddr->Yg
open Go.IntKind renaming i64->ZA
open Go.Machine.mk renaming injEq->Z8
open Go.MemAct renaming ofEvent->XS,touch?->Y8
open Go.MemOp renaming ofEvents->YW
open Go.Op.Complex renaming add->ZX,arith->ZU,cmp->ZY,conv->ZV,corrected->Z1,mul->ZZ,product->ZQ,quotient->ZO,sub->Z0
open Go.Region renaming schedule->Y0,wanted->VA
open Go.Result.halt renaming injEq->Z7
open Go.RowKit renaming Below->XC
open Go.RuntimeError renaming error->Z4
open Go.Sem renaming run->XE,runT->V2
open Go.Stepped.next renaming injEq->Z5
open Go.Unsupported renaming resourceLimit->ZI,unsafePointer->Zy
open Go.Value renaming slice->VR
open Go.World renaming cell?->Ve,farLoad->Y9,farStore->YD,freeze->WR,frozen?->VW,noCell->X7,setCell->Za
open Go.stepG renaming apply->WO,exec->VG
open List renaming all_eq_true->Vx,mem_append->VM,mem_cons->WI,mem_cons_self->Yu
open List.cons renaming injEq->Yl
open MonadExceptOf renaming throw->ZG
open Nat renaming add_assoc->Wc,eq_zero_or_pos->Yv,le_refl->U7,le_trans->Vm,lt_of_lt_of_le->U9,lt_or_ge->WG
open Option renaming map_eq_some_iff->XB,map_some->Xc,none->K,some->I
open Option.some renaming inj->Zm,injEq->VY
open Std.Legacy.Range renaming forIn_eq_forIn_range'->WC
open WellFounded renaming fixF->Z9,fixF_eq->Z3
set_option maxRecDepth 100000
set_option maxHeartbeats 8000000
namespace Go.Proofs.YtjidbonhhpkljabGreat
def X (p:Prop):Prop:=p
def X.o{p:Prop}(h:X p):p:=h
def af{p:Prop}(h:p):X p:=h
def Y{α:Sort _}{a:α}:a=a:=rfl
abbrev aM:U:=.slice K 0 0
abbrev cD(w:F)(b o:Nat)(v:U):Prop:=w.cell? ⟨b,o,K⟩=I v
abbrev aP(g:Nat):U:=.pointer (I ⟨g,0,K⟩)
abbrev aQ(w w':F):Prop:=XC w.heap.size w w'
end Go.Proofs.YtjidbonhhpkljabGreat
namespace Go.Proofs.YtjidbonhhpkljabGreat
namespace Cc
open Go
abbrev Tp:=Nat->Question->Nat
def sh (a:Tp)(d:Nat)(w:F):F:={w with tape:=a,drawn:=d}
def rW {α:Type}:YX α->F
 | .ok _ w=>w
 | .halt _ w=>w
def Al (e:Tp)(d:Nat)(f:Tp)(c:Nat)(n:Nat):Prop:=∀a b,a<n->f (c+a) b=e (d+a) b
def Al.sub{b c:Tp}{d a n m:Nat}(h:Al b d c a n)(i:m<=n):Al b d c a m:=λe f g=>h e f (by omega)
def Al.refl(a:Tp)(d n:Nat):Al a d a d n:=λ_ _ _=>rfl
def p9:Halt->Bool
 | .panic _=>Z
 | .stuck _=>Z
 | .unsupported (.initOrder _)=>U5
 | .unsupported _=>Z
 |_=>U5
def pz:Yk:=.coro K
def jk:Yk->Bool
 | .loop _| .deferred _| .pending _ _| .coro _=>Z
 |_=>U5
def Gx {α:Type}(k:Yk->XH α):Prop:=(∃s,k pz= .halt (.stuck s))\/((∀c,k (.loop c)=k pz)/\(∀b,k (.deferred b)=k pz)/\(∀a d,k (.pending a d)=k pz)/\∀e,k (.coro e)=k pz)
def Gx.bind{α e:Type}{k:Yk->XH α}(h:Gx k)(f:α->XH e):Gx λo=>(k o).bind f:=by
 rcases h with⟨s,h⟩|⟨a,b,c,d⟩
 ·exact .inl ⟨s,by dsimp only;rw[h];rfl⟩
 ·exact .inr ⟨λj=>by dsimp only;rw[a],λi=>by dsimp only;rw[b],λg l=>by dsimp only;rw[c],λm=>by dsimp only;rw[d]⟩
def Gx.Ur{α:Type}{k:Yk->XH α}(h:Gx k){x:Yk}(e:jk x=Z):(∃s,k pz= .halt (.stuck s))\/k x=k pz:=by
 rcases h with h|⟨a,b,c,d⟩
 ·exact .inl h
 ·cases x<;>first|(simp[jk] at e;done)|exact .inr (a _)|exact .inr (b _)|exact .inr (c _ _)|exact .inr (d _)
section
variable (P P':Vb)(O:Yk->Prop)
def Still{α:Type}(Q:α->Prop):XH α->Prop
 | .pure d=>Q d
 | .load _ _ a=>∀v,Still Q (a v)
 | .store _ _ _ a=>Still Q a
 | .new b a=>O b/\∀c,Still Q (a c)
 | .shape _ a=>∀s,Still Q (a s)
 | .freeze _ _ a=>Still Q a
 | .frozen _ a=>∀e,Still Q (a e)
 | .getObj _ a=>(∀b,O b->Still Q (a b))/\Gx a
 | .setObj _ b a=>O b/\Still Q a
 | .choose _ a=>∀i,Still Q (a i)
 | .sys g a=>g= .env/\∀c,Still Q (a c)
 | .program a=>a P=a P'/\Still Q (a P)
 | .mark m a=>(Conc.Neutral m\/∃f,m= .extern f)/\Still Q a
 | .halt h=>p9 h=Z
def Still.bind{α j:Type}{Q:α->Prop}{R:j->Prop}{f:α->XH j}(k:∀a,Q a->Still P P' O R (f a)):∀{s:XH α},Still P P' O Q s->Still P P' O R (s.bind f):=by
 intro s
 induction s with
 |pure a=>intro b;exact k a b
 |load m a d c=>intro b v;exact c v (b v)
 |store m a v d c=>intro b;exact c b
 |new g d c=>intro b;exact⟨b.1,λe=>c e (b.2 e)⟩
 |shape e d c=>intro b s;exact c s (b s)
 |freeze a h d c=>intro b;exact c b
 |frozen a d c=>intro b i;exact c i (b i)
 |getObj e d c=>intro b;exact⟨λg l=>c g (b.1 g l),b.2.bind f⟩
 |setObj e g d c=>intro b;exact⟨b.1,c b.2⟩
 |choose o d c=>intro b h;exact c h (b h)
 |sys n d c=>intro b;exact⟨b.1,λe=>c e (b.2 e)⟩
 |program d c=>intro b;exact⟨congrArg (·.bind f) b.1,c P b.2⟩
 |mark m d c=>intro b;exact⟨b.1,c b.2⟩
 |halt b=>intro b;exact b
def Still.mono{α:Type}{Q R:α->Prop}(j:∀a,Q a->R a):∀{s:XH α},Still P P' O Q s->Still P P' O R s:=by
 intro s
 induction s with
 |pure a=>intro b;exact j a b
 |load m a d c=>intro b v;exact c v (b v)
 |store m a v d c=>intro b;exact c b
 |new f d c=>intro b;exact⟨b.1,λe=>c e (b.2 e)⟩
 |shape e d c=>intro b s;exact c s (b s)
 |freeze a g d c=>intro b;exact c b
 |frozen a d c=>intro b h;exact c h (b h)
 |getObj e d c=>intro b;exact⟨λf i=>c f (b.1 f i),b.2⟩
 |setObj e f d c=>intro b;exact⟨b.1,c b.2⟩
 |choose l d c=>intro b g;exact c g (b g)
 |sys k d c=>intro b;exact⟨b.1,λe=>c e (b.2 e)⟩
 |program d c=>intro b;exact⟨b.1,c P b.2⟩
 |mark m d c=>intro b;exact⟨b.1,c b.2⟩
 |halt b=>intro b;exact b
end
def Hp (O:Yk->Prop)(w:F):Prop:=∀(b:Nat) (a:Yk),w.heap[b]? =I a->O a\/a=pz
structure Plain(O:Yk->Prop):Prop where
 cells:∀c t f,O (.cells c t f)
 pending:∀c t,¬O (.pending c t)
 Si:¬O pz
 loop:∃r,O (.loop r)
structure Un(w u:F):Prop where
 size:u.heap.size=w.heap.size
 at_:∀(b:Nat) (o:Yk),w.heap[b]? =I o->u.heap[b]? =I o\/(o=pz/\∃x,u.heap[b]? =I x/\jk x=Z)
 os:u.os=w.os
 output:u.output=w.output
structure sL(w u w' u':F):Prop where
 un:Un w' u'
 keep:∀b:Nat,w'.heap[b]? =I pz->w.heap[b]? =I pz/\u'.heap[b]? =u.heap[b]?
def Un.refl(w:F):Un w w:=⟨rfl,λb c a=>.inl a,rfl,rfl⟩
def Un.two{w u:F}(h:Un w u):sL w u w u:=⟨h,λb a=>⟨a,rfl⟩⟩
def sL.trans{w u w1 u1 c u2:F}(h:sL w u w1 u1)(b:sL w1 u1 c u2):sL w u c u2:=⟨b.un,λa i=>by
 obtain⟨d,e⟩:=b.keep a i;obtain⟨f,g⟩:=h.keep a d;exact⟨f,e.trans g⟩⟩
def Un.none{w u:F}(h:Un w u){b:Nat}(a:w.heap[b]? =K):u.heap[b]? =K:=by
 rw[Array.getElem?_eq_none_iff] at a ⊢;rw[h.size];exact a
def Un.o{w u:F}(h:Un w u){b:Nat}{o:Yk}(a:w.heap[b]? =I o)(c:o≠pz):u.heap[b]? =I o:=(h.at_ b o a).elim id λh=>absurd h.1 c
def Un.row{w u:F}(h:Un w u){b:Nat}{c:Array U}{t:Vc}{f:Nat×Nat}:w.heap[b]? =I (.cells c t f)↔u.heap[b]? =I (.cells c t f):=by
 constructor
 ·exact λa=>h.o a (by simp[pz])
 ·intro a;cases e:w.heap[b]? with
  |none=>rw[h.none e] at a;cases a
  |some i=>
   rcases h.at_ b i e with d|⟨_,j,d,g⟩
   ·rw[d] at a;exact a
   ·rw[d] at a;cases a;simp[jk] at g
def Un.cases{w u:F}(h:Un w u)(b:Nat):u.heap[b]? =w.heap[b]? \/(w.heap[b]? =I pz/\∃x,u.heap[b]? =I x/\jk x=Z):=by
 cases c:w.heap[b]? with
 |none=>exact .inl (h.none c)
 |some e=>
  rcases h.at_ b e c with a|⟨rfl,x,a,d⟩
  ·exact .inl a
  ·exact .inr ⟨rfl,x,a,d⟩
def Un.cell{w u:F}(h:Un w u)(a:VI):u.cell? a=w.cell? a:=by
 unfold Ve;rcases h.cases a.block with b|⟨b,e,c,d⟩
 ·rw[b]
 ·rw[b,c];cases e<;>first|rfl|(simp[jk] at d;done)
def Un.shape{w u:F}(h:Un w u)(r:Nat):u.shape? r=w.shape? r:=by
 unfold World.shape?;rcases h.cases r with a|⟨a,d,b,c⟩
 ·rw[a]
 ·rw[a,b];cases d<;>first|rfl|(simp[jk] at c;done)
def Un.frozen{w u:F}(h:Un w u)(a:VI):u.frozen? a=w.frozen? a:=by
 unfold VW;rcases h.cases a.block with b|⟨b,e,c,d⟩
 ·rw[b]
 ·rw[b,c];cases e<;>first|rfl|(simp[jk] at d;done)
def Un.modify{w u:F}(h:Un w u)(r:Nat)(f:Yk->Yk)(hc:∀c t z,∃n x y,f (.cells c t z)= .cells n x y)(l:∀o,(∀c t z,o≠.cells c t z)->f o=o):sL w u {w with heap:=w.heap.modify r f} {u with heap:=u.heap.modify r f}:=by
 have q:∀(h:Array Yk) (e:Nat),(h.modify r f)[e]? =(h[e]?).map λo=>if r=e then f o else o:=λh e=>by
  rw[WT]
  split
  ·rename_i a;subst a;simp
  ·rename_i a;simp[a]
 have v:∀d,jk d=Z->∀c t z,d≠.cells c t z:=λd j c t z a=>by rw[a] at j;simp[jk] at j
 refine⟨⟨by simp[h.size],λe o b=>?_,h.os,h.output⟩,λe b=>?_⟩
 ·simp only[q] at b ⊢;cases i:w.heap[e]? with
  |none=>rw[i] at b;cases b
  |some g=>
   rw[i] at b;rcases h.at_ e g i with a|⟨rfl,d,a,j⟩
   ·rw[a];exact .inl b
   ·have k:(if r=e then f pz else pz)=pz:=by split<;>first|rfl|exact l pz (λc t z=>by simp[pz])
    have m:(if r=e then f d else d)=d:=by split<;>first|rfl|exact l d (v d j)
    simp only[Xc,k,VY] at b;exact .inr ⟨b.symm,d,by rw[a];simp[m],j⟩
 ·simp only[q] at b ⊢;cases i:w.heap[e]? with
  |none=>rw[i] at b;cases b
  |some g=>
   rw[i] at b;have A:g=pz:=by
    by_cases p:∃c t z,g= .cells c t z
    ·obtain⟨c,t,z,rfl⟩:=p;obtain⟨n,x,y,a⟩:=hc c t z;simp only[Xc,a,VY] at b
     split at b<;>simp[pz] at b
    ·have k:(if r=e then f g else g)=g:=by split<;>first|rfl|exact l g (λc t z a=>p ⟨c,t,z,a⟩)
     simpa [k] using b
   subst A;refine⟨rfl,?_⟩;rcases h.at_ e pz i with a|⟨_,d,a,j⟩
   ·rw[a];have k:(if r=e then f pz else pz)=pz:=by split<;>first|rfl|exact l pz (λc t z=>by simp[pz])
    simp[k]
   ·rw[a];have m:(if r=e then f d else d)=d:=by split<;>first|rfl|exact l d (v d j)
    simp[m]
def Un.push{w u:F}(h:Un w u){o:Yk}(d:o≠pz):sL w u {w with heap:=w.heap.push o} {u with heap:=u.heap.push o}:=by
 refine⟨⟨by simp[h.size],λc e a=>?_,h.os,h.output⟩,λc a=>?_⟩
 ·simp only[VF,h.size] at a ⊢
  split
  ·rename_i b;rw[if_pos b] at a;exact .inl a
  ·rename_i b;rw[if_neg b] at a;exact h.at_ c e a
 ·simp only[VF,h.size] at a ⊢
  split at a
  ·cases a;exact absurd Y d
  ·rename_i b;rw[if_neg b];exact⟨a,rfl⟩
def Un.set{w u:F}(h:Un w u)(r:Nat){o:Yk}(d:o≠pz):sL w u {w with heap:=w.heap.setIfInBounds r o} {u with heap:=u.heap.setIfInBounds r o}:=by
 refine⟨⟨by simp[h.size],λc e a=>?_,h.os,h.output⟩,λc a=>?_⟩
 ·simp only[VE,h.size] at a ⊢
  split
  ·rename_i b;rw[if_pos b] at a;exact .inl a
  ·rename_i b;rw[if_neg b] at a;exact h.at_ c e a
 ·simp only[VE,h.size] at a ⊢
  split at a
  ·split at a
   ·cases a;exact absurd Y d
   ·cases a
  ·rename_i b;rw[if_neg b];exact⟨a,rfl⟩
structure Views(P P':Vb):Prop where
 load:∀(w u:F) at_ t a m,(∀c e f,w.heap[(at_:VI).block]? =I (.cells c e f)↔u.heap[at_.block]? =I (.cells c e f))->u.viewLoad P' at_ t a m=w.viewLoad P at_ t a m
 touch:∀(w:F) at_ t a m v l,w.viewLoad P at_ t a m= .ok (v,l)->∀x∈l,x.block<w.heap.size
 store:∀(w u:F) at_ t a v m,(∀c e f,w.heap[(at_:VI).block]? =I (.cells c e f)↔u.heap[at_.block]? =I (.cells c e f))->(∃why,w.viewStore P at_ t a v m= .error why/\u.viewStore P' at_ t a v m= .error why)\/∃c e f l,w.viewStore P at_ t a v m= .ok ({w with heap:=w.heap.setIfInBounds at_.block (.cells c e f)},l)/\u.viewStore P' at_ t a v m= .ok ({u with heap:=u.heap.setIfInBounds at_.block (.cells c e f)},l)/\∀x∈l,x.block<w.heap.size
def Ar (n:Nat)(e:Wm):Prop:=match e.loc with
 | .obj b=>b<n
 | .cell a=>a.block<n
 | .mark m=>Conc.Neutral m\/∃f,m= .extern f
 |_=>True
def Ar.mono{n m:Nat}(h:n<=m){e:Wm}(a:Ar n e):Ar m e:=by
 unfold Ar at*
 split<;>simp_all<;>omega
def Pc {α:Type}(u:F):YX α->YX α
 | .ok a _=>.ok a u
 | .halt b _=>.halt b u
structure jL{α:Type}(P P':Vb)(O:Yk->Prop)(Q:α->Prop)(s:XH α)(w:F)(es:Array Wm):Prop where
 tape:(rW (s.runT P w es).1).tape=w.tape
 drawn:w.drawn<=(rW (s.runT P w es).1).drawn
 size:w.heap.size<=(rW (s.runT P w es).1).heap.size
 os:(rW (s.runT P w es).1).os=w.os
 output:(rW (s.runT P w es).1).output=w.output
 hp:Hp O (rW (s.runT P w es).1)
 ok:∀a w',(s.runT P w es).1= .ok a w'->Q a
 halt:∀h w',(s.runT P w es).1= .halt h w'->p9 h=Z
 evs:∀e∈(s.runT P w es).2,e∈es\/Ar (rW (s.runT P w es).1).heap.size e
 shift:(∃y w',(s.runT P w es).1= .halt (.stuck y) w')\/∀ τ d u,Un w u->Al w.tape w.drawn τ d ((rW (s.runT P w es).1).drawn-w.drawn)->∃u',sL w u (rW (s.runT P w es).1) u'/\s.runT P' (sh τ d u) es=(Pc (sh τ (d+((rW (s.runT P w es).1).drawn-w.drawn)) u') (s.runT P w es).1,(s.runT P w es).2)
section
variable {α:Type}{P P':Vb}{O:Yk->Prop}{Q:α->Prop}{w w1:F}{es Ap:Array Wm}{s s1:XH α}
def jL.cons(n:Nat)(h:jL P P' O Q s1 w1 Ap)(a:s.runT P w es=s1.runT P w1 Ap)(i:w1.tape=w.tape)(l:w1.drawn=w.drawn+n)(r:w.heap.size<=w1.heap.size)(o:w1.os=w.os)(v:w1.output=w.output)
 (A:∀e∈Ap,e∈es\/Ar w1.heap.size e) (f:(∃y w',(s.runT P w es).1= .halt (.stuck y) w')\/∀b d u,Un w u->Al w.tape w.drawn b d n->∃u1,sL w u w1 u1/\s.runT P' (sh b d u) es=s1.runT P' (sh b (d+n) u1) Ap):jL P P' O Q s w es:=by
 have D:=h.drawn;refine⟨by rw[a,h.tape,i],by rw[a];omega,by rw[a];exact Vm r h.size,by rw[a,h.os,o],by rw[a,h.output,v],by rw[a];exact h.hp,by rw[a];exact h.ok,by rw[a];exact h.halt,?_,?_⟩
 ·rw[a];intro e m;rcases h.evs e m with c|c
  ·exact(A e c).imp id (Ar.mono h.size)
  ·exact .inr c
 ·rcases f with f|f
  ·exact .inl f
  ·rw[a];rcases h.shift with c|t
   ·exact .inl c
   ·refine .inr λb d u z g=>?_;have k:(rW (s1.runT P w1 Ap).1).drawn-w.drawn=n+((rW (s1.runT P w1 Ap).1).drawn-w1.drawn):=by omega
    obtain⟨u1,j,p⟩:=f b d u z (g.sub (by omega));obtain⟨u2,x,q⟩:=t b (d+n) u1 j.un (by
     intro B C E;have:=g (n+B) C (by omega);rw[i,l,Wc,Wc];exact this)
    exact⟨u2,j.trans x,by rw[p,q,k,Wc]⟩
def jL.ends{x:Halt}(a:s.runT P w es=(.halt x w,es))(j:p9 x=Z)(i:Hp O w)(c:(∃y,x= .stuck y)\/∀b d u,Un w u->s.runT P' (sh b d u) es=(.halt x (sh b d u),es)):jL P P' O Q s w es:=by
 refine⟨by rw[a];rfl,by rw[a];exact U7 _,by rw[a];exact U7 _,by rw[a];rfl,by rw[a];rfl,by rw[a];exact i,?_,?_,?_,?_⟩
 ·rw[a];intro l k f;cases f
 ·rw[a];intro f k e;cases e;exact j
 ·rw[a];exact λe h=>.inl h
 ·rw[a];rcases c with⟨y,rfl⟩|c
  ·exact .inl ⟨y,w,rfl⟩
  ·refine .inr λb d u g _=>⟨u,g.two,?_⟩;rw[c b d u g];simp[Pc,rW]
end
def Hp.push{O:Yk->Prop}{w:F}(h:Hp O w){o:Yk}(c:O o):Hp O {w with heap:=w.heap.push o}:=by
 intro b d a;simp only[VF] at a
 split at a
 ·cases a;exact .inl c
 ·exact h b d a
def Hp.set{O:Yk->Prop}{w:F}(h:Hp O w)(r:Nat){o:Yk}(c:O o):Hp O {w with heap:=w.heap.setIfInBounds r o}:=by
 intro b d a;simp only[VE] at a
 split at a
 ·split at a
  ·cases a;exact .inl c
  ·cases a
 ·exact h b d a
def Hp.modify{O:Yk->Prop}(g:Plain O){w:F}(h:Hp O w)(r:Nat)(f:Yk->Yk)(i:∀o,f o=o\/∃c t z,f o= .cells c t z):Hp O {w with heap:=w.heap.modify r f}:=by
 intro d k a;simp only[WT] at a
 split at a
 ·obtain⟨e,j,rfl⟩:=XB.1 a;rcases i e with b|⟨c,t,z,b⟩
  ·rw[b];exact h d e j
  ·rw[b];exact .inl (g.cells c t z)
 ·exact h d k a
def Hp.sh{O:Yk->Prop}{w:F}(h:Hp O w)(a:Tp)(d:Nat):Hp O (sh a d w):=h
def tR{O:Yk->Prop}(d:Plain O){w:F}(h:Hp O w){a:VI}(e:∀x t,w.heap[a.block]? ≠I (.view x t))(s:String):w.noCell a s= .stuck s:=by
 unfold X7
 split
 ·rename_i c t b;exact(h _ _ b).elim (λh=>absurd h (d.pending _ _)) (λh=>by cases h)
 ·rename_i c t b;exact absurd b (e _ _)
 ·rfl
def m7{n:Nat}{es:Array Wm}{e:Wm}(b:Ar n e):∀x∈es.push e,x∈es\/Ar n x:=λx c=>by
 rcases Array.mem_push.1 c with a|rfl
 ·exact .inl a
 ·exact .inr b
def I4{w:F}{a:VI}{v:U}(h:w.cell? a=I v):a.block<w.heap.size:=by
 unfold Ve at h;cases b:w.heap[a.block]? with
 |none=>rw[b] at h;cases h
 |some c=>exact(U4.1 b).1
def Un.setCell{w u:F}(h:Un w u)(a:VI)(v:U):sL w u (w.setCell a v) (u.setCell a v):=by
 unfold Za;refine h.modify _ _ (λd e f=>⟨_,_,_,rfl⟩) λc b=>?_;cases c<;>first|rfl|exact absurd rfl (b _ _ _)
def Un.freeze{w u:F}(h:Un w u)(a:VI)(n:Nat):sL w u (w.freeze a n) (u.freeze a n):=by
 unfold WR
 split
 ·exact h.two
 ·refine h.modify _ _ (λd e f=>⟨_,_,_,rfl⟩) λc b=>?_;cases c<;>first|rfl|exact absurd rfl (b _ _ _)
def Ah(w:F)(a:VI):(∃x t,w.heap[a.block]? =I (.view x t))\/∀x t,w.heap[a.block]? ≠I (.view x t):=by
 by_cases b:∃x t,w.heap[a.block]? =I (.view x t)
 ·exact .inl b
 ·exact .inr λx t c=>b ⟨x,t,c⟩
def tJ{w:F}{a x:VI}{t:Vc}(h:w.heap[a.block]? =I (.view x t))(R:Vb)(m:Bool):w.farLoad R a m=match w.viewLoad R x t a m with| .ok r=>.ok r| .error b=>.error (.unsupported (.unsafePointer b)):=by
 unfold Y9;rw[h];rfl
def kQ{w:F}{a x:VI}{t:Vc}(h:w.heap[a.block]? =I (.view x t))(R:Vb)(v:U)(m:Bool):w.farStore R a v m=match w.viewStore R x t a v m with| .ok r=>.ok r| .error b=>.error (.unsupported (.unsafePointer b)):=by
 unfold YD;rw[h];rfl
def CC {w:F} {a:VI} (h:∀x t,w.heap[a.block]? ≠I (.view x t)) (R:Vb) (m:Bool):w.farLoad R a m= .error (w.noCell a "load: no such cell"):=by
 unfold Y9
 split
 ·rename_i b;exact absurd b (h _ _)
 ·rfl
def AG {w:F} {a:VI} (h:∀x t,w.heap[a.block]? ≠I (.view x t)) (R:Vb) (v:U) (m:Bool):w.farStore R a v m= .error (w.noCell a "store: no such cell"):=by
 unfold YD
 split
 ·rename_i b;exact absurd b (h _ _)
 ·rfl
def I1{n:Nat}{es a:Array Wm}(b:∀e∈a,Ar n e):∀x∈es++a,x∈es\/Ar n x:=λx c=>(Array.mem_append.1 c).imp id (b x)
def N9{α:Type}{P P':Vb}{O:Yk->Prop}(R:Plain O)(am:Views P P'){Q:α->Prop}(s:XH α):∀(w:F) (es:Array Wm),Still P P' O Q s->Hp O w->jL P P' O Q s w es:=by
 induction s with
 |pure c=>
  intro w es i g;refine⟨rfl,U7 _,U7 _,rfl,rfl,g,λa4 j n=>?_,λn j h=>by simp[V2] at h,λh aw=>.inl aw,.inr λe d a b _=>⟨a,b.two,?_⟩⟩
  ·simp only[V2] at n;cases n;exact i
  ·simp[V2,Pc,rW]
 |load m c p u=>
  intro w es i g;cases q:w.cell? c with
  |some v=>
   have W:=I4 q;exact(u v w (es.push ⟨.cell c,U5,m == .atomic⟩) (i v) g).cons 0 (by simp only[V2,q]) Y Y (U7 _) Y Y (m7 (by simpa [Ar] using W)) (.inr λe d a b _=>⟨a,b.two,by
    have z:(sh e d a).cell? c=I v:=(b.cell c).trans q;simp only[V2,z];rfl⟩)
  |none=>
   rcases Ah w c with⟨l,o,B⟩|B
   ·cases L:w.viewLoad P l o c (m == .atomic) with
    |ok bd=>
     obtain⟨v,S⟩:=bd;have t:∀(N:Vb) (j:F),j.cell? c=K->j.heap[c.block]? =I (.view l o)->j.viewLoad N l o c (m == .atomic)= .ok (v,S)->(Sem.load m c p).runT N j es=(p v).runT N j (es++S.toArray.map (⟨.cell ·,U5,m == .atomic⟩)):=by
      intro N j ab ad au;simp only[V2,ab,tJ ad,au]
     refine(u v w _ (i v) g).cons 0 (t P w q B L) Y Y (U7 _) Y Y (I1 λh aw=>?_) (.inr λe d a b _=>⟨a,b.two,t P' (sh e d a) ((b.cell c).trans q) (b.o B (by simp[pz])) ?_⟩)
     ·obtain⟨D,V,rfl⟩:=Array.mem_map.1 aw;exact am.touch w l o c _ v S L D (by simpa using V)
     ·rw[<-L];exact am.load w (sh e d a) l o c _ λr h f=>b.row
    |error ao=>
     have t:∀(N:Vb) (j:F),j.cell? c=K->j.heap[c.block]? =I (.view l o)->j.viewLoad N l o c (m == .atomic)= .error ao->(Sem.load m c p).runT N j es=(.halt (.unsupported (.unsafePointer ao)) j,es):=by
      intro N j ab ad au;simp only[V2,ab,tJ ad,au]
     exact jL.ends (t P w q B L) Y g (.inr λe d a b=>t P' (sh e d a) ((b.cell c).trans q) (b.o B (by simp[pz])) (by rw[<-L];exact am.load w (sh e d a) l o c _ λr h f=>b.row))
   ·exact jL.ends (x:=.stuck "load: no such cell") (by simp only[V2,q,CC B,tR R g B]) Y g (.inl ⟨_,rfl⟩)
 |store m c v p u=>
  intro w es i g;have bc:(∀l,v≠.agg l)->(∀l,v≠.tuple l)->jL P P' O Q (.store m c v p) w es:=by
   intro ab ad;have t:∀(P:Vb) (j:F),(Sem.store m c v p).runT P j es=(match j.cell? c with
    |some _=>if j.frozen? c then(.halt (.unsupported (.unsafePointer "a write to bytes that a string shares")) j,es) else p.runT P (j.setCell c v) (es.push ⟨.cell c,Z,m == .atomic⟩)
    |none=>match j.farStore P c v (m == .atomic) with
     | .ok (bi,be)=>p.runT P bi (es++be.toArray.map (⟨.cell ·,Z,m == .atomic⟩))
     | .error n=>(.halt n j,es)):=by
    intro P j;cases v<;>first|exact absurd rfl (ab _)|exact absurd rfl (ad _)|rfl
   cases q:w.cell? c with
   |some l=>
    by_cases J:w.frozen? c=Z
    ·refine jL.ends (x:=.unsupported (.unsafePointer "a write to bytes that a string shares")) (by rw[t,q];simp only[J,if_true]) Y g (.inr λe d a b=>?_);have z:(sh e d a).cell? c=I l:=(b.cell c).trans q;have a0:(sh e d a).frozen? c=Z:=(b.frozen c).trans J;rw[t,z];simp only[a0,if_true]
    ·have ae:Hp O (w.setCell c v):=by
      unfold Za;refine g.modify R _ _ λk=>?_;cases k<;>first|exact .inl rfl|exact .inr ⟨_,_,_,rfl⟩
     refine(u (w.setCell c v) (es.push ⟨.cell c,Z,m == .atomic⟩) i ae).cons 0 (by rw[t,q];simp only[J,if_false];rfl) rfl rfl (by simp[Za]) rfl rfl (m7 (by simpa [Ar,Za] using I4 q)) (.inr λe d a b _=>⟨a.setCell c v,b.setCell c v,?_⟩);have z:(sh e d a).cell? c=I l:=(b.cell c).trans q;have a0:¬(sh e d a).frozen? c=Z:=λh=>J ((b.frozen c).symm.trans h);rw[t,z];simp only[a0,if_false];rfl
   |none=>
    rcases Ah w c with⟨l,o,B⟩|B
    ·have T:=λa (b:Un w a)=>am.store w a l o c v (m == .atomic) λr h f=>b.row;rcases T w (Un.refl w) with⟨ao,C,-⟩|⟨r,h,f,S,C,-,L⟩
     ·refine jL.ends (x:=.unsupported (.unsafePointer ao)) (by rw[t,q];simp only[kQ B,C]) Y g (.inr λe d a b=>?_);have z:(sh e d a).cell? c=K:=(b.cell c).trans q;have a1:(sh e d a).heap[c.block]? =I (.view l o):=b.o B (by simp[pz]);rcases T (sh e d a) ⟨b.size,b.at_,b.os,b.output⟩ with⟨bj,E,al⟩|⟨r,h,f,S,E,-⟩
      ·rw[C] at E;cases E;rw[t,z];simp only[kQ a1,al]
      ·rw[C] at E;cases E
     ·have ae:Hp O {w with heap:=w.heap.setIfInBounds l.block (.cells r h f)}:=g.set _ (R.cells _ _ _);refine(u {w with heap:=w.heap.setIfInBounds l.block (.cells r h f)} (es++S.toArray.map (⟨.cell ·,Z,m == .atomic⟩)) i ae).cons 0 (by rw[t,q];simp only[kQ B,C]) Y Y (by simp) Y Y (I1 λD V=>?_) (.inr λe d a b _=>?_)
      ·obtain⟨y,bb,rfl⟩:=Array.mem_map.1 V;have:=L y (by simpa using bb);simpa [Ar] using this
      ·have z:(sh e d a).cell? c=K:=(b.cell c).trans q;have a1:(sh e d a).heap[c.block]? =I (.view l o):=b.o B (by simp[pz]);rcases T (sh e d a) ⟨b.size,b.at_,b.os,b.output⟩ with⟨bj,E,al⟩|⟨a5,a6,a7,bk,E,al,-⟩
       ·rw[C] at E;cases E
       ·rw[C] at E;have a2:=Except.ok.inj E;simp only[Prod.mk.injEq] at a2;obtain⟨a8,rfl⟩:=a2;refine⟨{a with heap:=a.heap.setIfInBounds l.block (.cells a5 a6 a7)},?_,?_⟩
        ·rw[a8];exact b.set l.block (by simp[pz])
        ·rw[t,z];simp only[kQ a1,al];rfl
    ·exact jL.ends (x:=.stuck "store: no such cell") (by rw[t,q];simp only[AG B,tR R g B]) Y g (.inl ⟨_,rfl⟩)
  cases v with
  |agg l=>exact jL.ends (x:=.stuck "store: not the value of one cell") Y Y g (.inl ⟨_,rfl⟩)
  |tuple l=>exact jL.ends (x:=.stuck "store: not the value of one cell") Y Y g (.inl ⟨_,rfl⟩)
  |_=>exact bc (λl n=>by cases n) (λl n=>by cases n)
 |new k p u=>
  intro w es i g;have X:k≠pz:=λh=>R.Si (h▸i.1);exact(u w.heap.size {w with heap:=w.heap.push k} es (i.2 _) (g.push i.1)).cons 0 Y Y Y (by simp) Y Y (λh n=>.inl n) (.inr λe d a b _=>⟨{a with heap:=a.heap.push k},b.push X,by
   show(p a.heap.size).runT P' _ es=_;rw[b.size];rfl⟩)
 |shape x p u=>intro w es i g;exact(u (w.shape? x) w es (i _) g).cons 0 Y Y Y (U7 _) Y Y (λh n=>.inl n) (.inr λe d a b _=>⟨a,b.two,by
  show(p (a.shape? x)).runT P' (sh e d a) es=_;rw[b.shape];rfl⟩)
 |freeze c G p u=>
  intro w es i g;have ae:Hp O (w.freeze c G):=by
   unfold WR
   split
   ·exact g
   ·refine g.modify R _ _ λk=>?_;cases k<;>first|exact .inl rfl|exact .inr ⟨_,_,_,rfl⟩
  have C:(w.freeze c G).tape=w.tape/\(w.freeze c G).drawn=w.drawn/\(w.freeze c G).heap.size=w.heap.size/\(w.freeze c G).os=w.os/\(w.freeze c G).output=w.output:=by
   unfold WR;split<;>simp
  exact(u (w.freeze c G) es i ae).cons 0 Y C.1 C.2.1 (by rw[C.2.2.1];exact U7 _) C.2.2.2.1 C.2.2.2.2 (λh n=>.inl n) (.inr λe d a b _=>⟨a.freeze c G,b.freeze c G,by
   have:(sh e d a).freeze c G=sh e d (a.freeze c G):=by unfold WR;split<;>rfl
   simp only[V2,this];rfl⟩)
 |frozen c p u=>intro w es i g;exact(u (w.frozen? c) w es (i _) g).cons 0 Y Y Y (U7 _) Y Y (λh n=>.inl n) (.inr λe d a b _=>⟨a,b.two,by
  show(p (a.frozen? c)).runT P' (sh e d a) es=_;rw[b.frozen];rfl⟩)
 |getObj x p u=>
  intro w es i g;cases A:w.heap[x]? with
  |none=>exact jL.ends (x:=.stuck "getObj: no such block") (by simp only[V2,A]) Y g (.inl ⟨_,rfl⟩)
  |some k=>
   have W:x<w.heap.size:=(U4.1 A).1;by_cases q:∃r o y,k= .cells r o y
   ·obtain⟨r,o,y,rfl⟩:=q;exact jL.ends (x:=.stuck "getObj: a row of cells") (by simp only[V2,A]) Y g (.inl ⟨_,rfl⟩)
   ·have t:∀(P:Vb) (j:F) (k:Yk),(∀r o y,k≠.cells r o y)->j.heap[x]? =I k->(Sem.getObj x p).runT P j es=(p k).runT P j (es.push ⟨.obj x,U5,k.isChan⟩):=by
     intro P j k q ar;cases k<;>first|exact absurd rfl (q _ _ _)|simp only[V2,ar]
    have z:∀r o y,k≠.cells r o y:=λr o y h=>q ⟨r,o,y,h⟩;have T:Still P P' O Q (p k)\/∃D,p k= .halt (.stuck D):=by
     rcases g x k A with n|rfl
     ·exact .inl (i.1 k n)
     ·rcases i.2 with⟨D,n⟩|⟨n,-⟩
      ·exact .inr ⟨D,n⟩
      ·obtain⟨S,L⟩:=R.loop;exact .inl (by rw[<-n S];exact i.1 _ L)
    rcases T with T|⟨D,V⟩
    ·refine(u k w _ T g).cons 0 (t P w k z A) Y Y (U7 _) Y Y (m7 (by simpa [Ar] using W)) ?_;by_cases X:k=pz
     ·subst X;by_cases a3:∃D,p pz= .halt (.stuck D)
      ·obtain⟨D,V⟩:=a3;exact .inl ⟨D,w,by rw[t P w pz z A,V];rfl⟩
      ·refine .inr λe d a b _=>⟨a,b.two,?_⟩;rcases b.at_ x pz A with h|⟨_,l,h,U⟩
       ·exact t P' (sh e d a) pz z h
       ·rw[t P' (sh e d a) l (λr o y h=>by rw[h] at U;simp[jk] at U) h,(i.2.Ur U).resolve_left a3];cases l<;>first|rfl|(simp[jk] at U;done)
     ·exact .inr λe d a b _=>⟨a,b.two,t P' (sh e d a) k z (b.o A X)⟩
    ·have H:(Sem.getObj x p).runT P w es=(.halt (.stuck D) w,es.push ⟨.obj x,U5,k.isChan⟩):=by rw[t P w k z A,V];rfl
     refine⟨by rw[H];rfl,by rw[H];exact U7 _,by rw[H];exact U7 _,by rw[H];rfl,by rw[H];rfl,by rw[H];exact g,?_,?_,?_,.inl ⟨D,w,by rw[H]⟩⟩
     ·rw[H];intro c j n;cases n
     ·rw[H];intro n j h;cases h;rfl
     ·rw[H];exact m7 (n:=w.heap.size) (by simpa [Ar] using W)
 |setObj x k p u=>
  intro w es i g;cases A:w.heap[x]? with
  |none=>exact jL.ends (x:=.stuck "setObj: no such block") (by simp only[V2,A]) Y g (.inl ⟨_,rfl⟩)
  |some M=>
   have W:x<w.heap.size:=(U4.1 A).1;by_cases q:∃r o y,M= .cells r o y
   ·obtain⟨r,o,y,rfl⟩:=q;exact jL.ends (x:=.stuck "setObj: a row of cells") (by simp only[V2,A]) Y g (.inl ⟨_,rfl⟩)
   ·have t:∀(P:Vb) (j:F) (M:Yk),(∀r o y,M≠.cells r o y)->j.heap[x]? =I M->(Sem.setObj x k p).runT P j es=p.runT P {j with heap:=j.heap.setIfInBounds x k} (es.push ⟨.obj x,Z,k.isChan⟩):=by
     intro P j M q ar;cases M<;>first|exact absurd rfl (q _ _ _)|simp only[V2,ar]
    have X:k≠pz:=λh=>R.Si (h▸i.1);refine(u {w with heap:=w.heap.setIfInBounds x k} _ i.2 (g.set x i.1)).cons 0 (t P w M (λr o y h=>q ⟨r,o,y,h⟩) A) Y Y (by simp) Y Y (m7 (by simpa [Ar] using W)) (.inr λe d a b _=>⟨{a with heap:=a.heap.setIfInBounds x k},b.set x X,?_⟩);rcases b.at_ x M A with h|⟨_,l,h,U⟩
    ·exact t P' (sh e d a) M (λr o y h=>q ⟨r,o,y,h⟩) h
    ·exact t P' (sh e d a) l (λr o y h=>by rw[h] at U;simp[jk] at U) h
 |choose aa p u=>
  intro w es i g;by_cases J:aa.forced=Z
  ·exact(u 0 w es (i _) g).cons 0 (by simp only[V2,J,if_true]) Y Y (U7 _) Y Y (λh n=>.inl n) (.inr λe d a b _=>⟨a,b.two,by simp only[V2,J,if_true];rfl⟩)
  ·refine(u (aa.cut (w.tape w.drawn aa)) {w with drawn:=w.drawn+1} es (i _) g).cons 1 (by simp only[V2,J,if_false];rfl) rfl rfl (U7 _) rfl rfl (λh n=>.inl n) (.inr λe d a b a9=>⟨a,⟨⟨b.size,b.at_,b.os,b.output⟩,λa4 ba=>⟨ba,rfl⟩⟩,?_⟩);have:=a9 0 aa (by omega);simp only[Nat.add_zero] at this;simp only[V2,J,if_false];have h:(sh e d a).tape (sh e d a).drawn aa=w.tape w.drawn aa:=this;rw[h];rfl
 |sys r p u=>
  intro w es i g;obtain⟨rfl,i⟩:=i;exact(u (.strings w.os.env) w (es.push ⟨.output,Z,U5⟩) (i _) g).cons 0 Y Y Y (U7 _) Y Y (m7 (by simp[Ar])) (.inr λe d a b _=>⟨a,b.two,by
   show(p (.strings a.os.env)).runT P' (sh e d a) _=_;rw[b.os];rfl⟩)
 |program p u=>
  intro w es i g;exact(u P w es i.2 g).cons 0 Y Y Y (U7 _) Y Y (λh n=>.inl n) (.inr λe d a b _=>⟨a,b.two,by
   show(p P').runT P' (sh e d a) es=_;rw[<-i.1];rfl⟩)
 |mark m p u=>intro w es i g;exact(u w _ i.2 g).cons 0 Y Y Y (U7 _) Y Y (m7 i.1) (.inr λe d a b _=>⟨a,b.two,rfl⟩)
 |halt l=>intro w es i g;exact jL.ends (x:=l) Y i g (.inr λe d a b=>rfl)
structure Twin(P P':Vb):Prop where
 info:∀t,P'.info? t=P.info? t
 rP:∀t,P'.underlying t=P.underlying t
 rt:P'.rt=P.rt
 cells:∀t,P'.cellsOf t=P.cellsOf t
 bytes:∀t,P'.bytesOf t=P.bytesOf t
 depth:P'.depth=P.depth
 lU:∀d e c o u n,liesAt P' d e c o u n=liesAt P d e c o u n
 cellAt:∀d e c o b,cellAtBytes P' d e c o b=cellAtBytes P d e c o b
 Cq:∀d t o,byteOfCell P' d t o=byteOfCell P d t o
 T5:∀d t,P'.eqGuardType d t=P.eqGuardType d t
 JE:∀t,P'.stoodInHeld t=P.stoodInHeld t
 NI:∀d t,P'.holdsPacked d t=P.holdsPacked d t
 yE:P'.globals=P.globals
 godebug:P'.godebug=P.godebug
 UL:P'.types=P.types
 R5:∀f:Nat,P'.funcs[f]? =P.funcs[f]? \/∃fn fn':XJ,P.funcs[f]? =I fn/\P'.funcs[f]? =I fn'/\fn'.name=fn.name/\fn.body.isNone=U5/\fn'.body.isNone=U5
section
variable {P P':Vb}{O:Yk->Prop}{α β:Type}
abbrev St(P P':Vb)(O:Yk->Prop)(s:XH α):Prop:=Still P P' O (λ_=>True) s
def iO{Q:α->Prop}{R:β->Prop}{s:XH α}{f:α->XH β}(c:Still P P' O Q s)(b:∀a,Q a->Still P P' O R (f a)):Still P P' O R (s >>= f):=Still.bind P P' O b c
def ag{R:β->Prop}{s:XH α}{f:α->XH β}(c:St P P' O s)(b:∀a,Still P P' O R (f a)):Still P P' O R (s >>= f):=Still.bind P P' O (λa _=>b a) c
def bN{Q:α->Prop}{c:Prop} [Decidable c]{s t:XH α}(a:Still P P' O Q s)(b:Still P P' O Q t):Still P P' O Q (if c then s else t):=by split<;>assumption
def Uz{Q:α->Prop}{s:XH α}(a:Still P P' O Q s):St P P' O s:=a.mono P P' O (λ_ _=>trivial)
def cA{Q:α->Prop}{f:Vb->XH α}(h:f P=f P')(a:Still P P' O Q (f P)):Still P P' O Q (program >>= f):=⟨h,a⟩
def ay{Q:α->Prop}(s:String):Still P P' O Q (stuck s):=rfl
def aT{Q:α->Prop}(u:Unsupported)(h:p9 (.unsupported u)=Z):Still P P' O Q (unsupported u):=h
def pI{Q:α->Prop}(v:U):Still P P' O Q (goPanic v):=rfl
def ug(a:VI)(m:Mode):St P P' O (load a m):=λ_=>trivial
def Oy(a:VI)(v:U)(m:Mode):St P P' O (store a v m):=trivial
def gL(r:Nat):St P P' O (shape r):=λ_=>trivial
def vE(a:VI):St P P' O (frozen a):=λ_=>trivial
def BS(a:VI)(n:Nat):St P P' O (freeze a n):=trivial
def cT(q:Question):St P P' O (choose q):=λ_=>trivial
def jz{R:β->Prop}(r:Nat){f:Yk->XH β}(a:∀o,O o->Still P P' O R (f o))(b:Gx f):Still P P' O R (getObj r >>= f):=⟨a,b⟩
def qD{f:Yk->XH β}{s:String}(h:f pz= .halt (.stuck s)):Gx f:=.inl ⟨s,h⟩
def Je{f:Yk->XH β}(h1:∀r,f (.loop r)=f pz)(a:∀d,f (.deferred d)=f pz)(b:∀c t,f (.pending c t)=f pz)(e:∀x,f (.coro x)=f pz):Gx f:=.inr ⟨h1,a,b,e⟩
def mC(r:Nat){o:Yk}(h:O o):St P P' O (setObj r o):=⟨h,trivial⟩
def mB{o:Yk}(h:O o):St P P' O (newObj o):=⟨h,λ_=>trivial⟩
def BV:St P P' O (mark .noRoom):=⟨.inl Y,trivial⟩
def zN(n:Nat):St P P' O (askRoom n):=by unfold askRoom;split;exact BV;exact trivial
def pF(v:U):St P P' O (asIntOf v):=by unfold asIntOf;split<;>first|exact trivial|exact ay _|exact rfl
def lG(v:U):St P P' O (asInt v):=ag (pF v) (λ_=>trivial)
def vA(v:U):St P P' O (asBool v):=by unfold asBool;split<;>first|exact trivial|exact ay _
def qR(v:U):St P P' O (asString v):=by unfold asString;split<;>first|exact trivial|exact ay _
def zM(v:U):St P P' O (asAgg v):=by unfold asAgg;split<;>first|exact trivial|exact ay _
def bG(a:Twin P P')(t:Vc):St P P' O (Yc t):=by
 unfold Yc;refine cA (by rw[a.info]) ?_
 split
 ·exact trivial
 ·exact ay _
def aE(a:Twin P P')(t:Vc):St P P' O (Yt t):=by
 unfold Yt;refine cA (by rw[a.rP]) ?_
 split
 ·exact trivial
 ·exact ay _
def fy(a:Twin P P')(t:Vc):St P P' O (Xl t):=by
 unfold Xl;refine ag (bG a t) λb=>?_
 split
 ·exact trivial
 ·exact aT _ Y
def bM(a:Twin P P')(t:Vc):St P P' O (Zg t):=ag (bG a t) (λ_=>trivial)
def FG(a:Twin P P')(t:Vc):St P P' O (isAgg t):=by
 unfold isAgg;refine ag (aE a t) λb=>?_
 split<;>exact trivial
def td(a:Twin P P')(t:Vc):St P P' O (typeStr t):=by
 unfold typeStr;refine ag (bG a t) λb=>?_;dsimp only
 split
 ·exact aT _ Y
 ·exact trivial
def vC(a:Twin P P')(t:Vc):St P P' O (elemOf t):=by
 unfold elemOf;refine ag (aE a t) λb=>?_
 split
 ·exact trivial
 ·exact ay _
theorem oS(a:VI):∀(n i:Nat) (b:Array U),St P P' O (loadCellsFrom a i n b)
 |0,i,b=>trivial
 |n+1,i,b=>ag (ug _ _) (λv=>oS a n (i+1) (b.push v))
def pJ(a:VI)(n:Nat):St P P' O (loadCells a n):=oS a n 0 #[]
theorem ji(a:VI):∀(vs:List U) (i:Nat),St P P' O (storeCells a vs i)
 | [],i=>trivial
 |v::b,i=>ag (Oy _ _ _) (λ_=>ji a b (i+1))
def jH(a:Plain O)(e:Vc)(c:Array U):St P P' O (newRow e c):=ag (mB (a.cells c e (0,0))) (λ_=>trivial)
def BU(a:Plain O)(e:Vc)(v:U):St P P' O (newVar e v):=jH a e v.cells
def gX(a:Twin P P')(t:Vc)(cs:Array U)(off:Nat):St P P' O (part t cs off):=by
 unfold part;refine ag (FG a t) λb=>?_
 split
 ·exact ag (bM a t) λ_=>trivial
 ·split
  ·exact trivial
  ·exact ay _
def pK(b:Twin P P')(t:Vc)(a:VI):St P P' O (loadVar t a):=by
 unfold loadVar;refine ag (FG b t) λc=>?_
 split
 ·exact ag (bM b t) λ_=>ag (pJ _ _) λ_=>trivial
 ·exact ug _ _
def wJ(b:Twin P P')(t:Vc)(a:VI)(v:U):St P P' O (storeVar t a v):=by
 unfold storeVar;refine ag (bM b t) λc=>?_;dsimp only
 split
 ·exact ag (ay _) λ_=>ji _ _ _
 ·exact ji _ _ _
def bJ(a:Twin P P')(b:Plain O){Q:α->Prop}(e:RuntimeError):Still P P' O Q (runtimePanic e):=by
 unfold runtimePanic;refine cA ?_ ?_
 ·dsimp only;rw[a.rt];cases e<;>first|rfl|(simp only[typeHandle,a.yE])
 ·dsimp only;cases e with
  |typeAssertion f d c m=>exact ag (vC a _) λ_=>ag (BU b _ _) λ_=>pI _
  |panicNil=>exact ag (vC a _) λ_=>ag (BU b _ _) λ_=>pI _
  |_=>exact pI _
def oR(b:Twin P P')(a:Plain O)(v:U):St P P' O (asAddr v):=by
 unfold asAddr
 split
 ·exact trivial
 ·exact bJ b a _
 ·exact ay _
def ni(b:Twin P P')(a:Plain O){Q:α->Prop}(k:XL)(x y:Int)(c:BoundsCode):Still P P' O Q (boundsPanic k x y c):=by
 unfold boundsPanic;dsimp only
 split
 ·exact ag (ag (cT _) λ_=>trivial) λ_=>bJ b a _
 ·exact ag trivial λ_=>bJ b a _
def BX(b:Twin P P')(a:Plain O)(r:Nat):St P P' O (viewAt r):=by unfold viewAt;((try dsimp only);repeat' first|exact gL _|(refine jz _ (λ_ _=>?_) ?_)|exact Je (λ_=>rfl) (λ_=>rfl) (λ_ _=>rfl) (λ_=>rfl)|assumption|(refine ag ?_ (λ_=>?_))|(refine bN ?_ ?_)|intro _|split|(dsimp only)|exact trivial)
def wH(b:Twin P P')(a:Plain O)(r:Nat):St P P' O (numberAt r):=by unfold numberAt;((try dsimp only);repeat' first|exact gL _|(refine jz _ (λ_ _=>?_) ?_)|exact Je (λ_=>rfl) (λ_=>rfl) (λ_ _=>rfl) (λ_=>rfl)|assumption|(refine ag ?_ (λ_=>?_))|(refine bN ?_ ?_)|intro _|split|(dsimp only)|exact trivial)
def dZ(b:Twin P P')(a:Plain O)(n:VI):St P P' O (XN n):=by unfold XN;((try dsimp only);repeat' first|exact wH b a _|assumption|(refine ag ?_ (λ_=>?_))|intro _|split|(dsimp only)|exact trivial)
def BW(c:Twin P P')(b:Plain O)(a:VI):St P P' O (noView a):=by unfold noView;((try dsimp only);repeat' first|(refine aT _ ?_;rfl)|exact BX c b _|assumption|(refine ag ?_ (λ_=>?_))|(refine bN ?_ ?_)|intro _|split|(dsimp only)|exact trivial)
def oT(c:Twin P P')(b:Plain O)(a:VI):St P P' O (markStringish a):=by unfold markStringish;((try dsimp only);repeat' first|exact gL _|exact BS _ _|assumption|(refine ag ?_ (λ_=>?_))|intro _|split|(dsimp only)|exact trivial)
def Dq(c:Twin P P')(b:Plain O)(a:VI):St P P' O (stringish a):=by unfold stringish;((try dsimp only);repeat' first|exact gL _|exact vE _|assumption|(refine ag ?_ (λ_=>?_))|(refine bN ?_ ?_)|intro _|split|(dsimp only)|exact trivial)
def FI(d:Twin P P')(c:Plain O)(a b:VI):St P P' O (mayBeOne a b):=by unfold mayBeOne;((try dsimp only);repeat' first|exact gL _|exact Dq d c _|assumption|(refine ag ?_ (λ_=>?_))|intro _|split|(dsimp only)|exact trivial)
def wI(d:Twin P P')(c:Plain O)(a b:VI):St P P' O (sameAddr a b):=by unfold sameAddr;((try dsimp only);repeat' first|exact vE _|exact cT _|(refine aT _ ?_;rfl)|exact FI d c _ _|exact BW d c _|assumption|(refine ag ?_ (λ_=>?_))|(refine bN ?_ ?_)|intro _|split|(dsimp only)|exact trivial)
def zW(d:Twin P P')(c:Plain O)(a b:Option VI):St P P' O (samePointer a b):=by unfold samePointer;((try dsimp only);repeat' first|exact wI d c _ _|assumption|intro _|split|(dsimp only)|exact trivial)
def rM(b:Twin P P')(c:Plain O)(a:VI):St P P' O (byteOf a):=by
 unfold byteOf;dsimp only
 split
 ·exact trivial
 ·refine cA (by simp only[b.cells,b.bytes,b.Cq,b.depth]) ?_
  ((try dsimp only);repeat' first|exact ay _|exact gL _|exact BW b c _|assumption|(refine ag ?_ (λ_=>?_))|(refine bN ?_ ?_)|intro _|split|(dsimp only)|exact trivial)
def LH(e:Twin P P')(d:Plain O)(a:VI)(c b:Nat):St P P' O (partAt a c b):=by unfold partAt;((try dsimp only);repeat' first|exact rM e d _|assumption|(refine ag ?_ (λ_=>?_))|intro _|split|(dsimp only)|exact trivial)
def sx(b:Twin P P')(c:Plain O)(a:VI)(f:Field):St P P' O (fieldPlace a f):=by unfold fieldPlace;((try dsimp only);repeat' first|exact bM b _|exact LH b c _ _ _|assumption|(refine ag ?_ (λ_=>?_))|(refine bN ?_ ?_)|intro _|split|(dsimp only)|exact trivial)
def zY(b:Twin P P')(c:Plain O)(a:VI)(u:Vc)(n:Nat):St P P' O (variablesAt a u n):=by
 unfold variablesAt;refine cA (by simp only[b.cells,b.lU,b.depth]) ?_
 ((try dsimp only);repeat' first|exact gL _|assumption|(refine ag ?_ (λ_=>?_))|intro _|split|(dsimp only)|exact trivial)
def Dk(e:Twin P P')(d:Plain O)(a:VI)(b:ByteArray)(n:Nat):St P P' O (loadBytes a b n):=by
 induction n generalizing a b with
 |zero=>exact trivial
 |succ n c=>unfold loadBytes;((try dsimp only);repeat' first|exact ay _|exact ug _ _|exact c _ _|assumption|(refine ag ?_ (λ_=>?_))|intro _|split|(dsimp only)|exact trivial)
theorem Dj{γ:Type}{f:α->γ->XH (ForInStep γ)}:∀(l:List α) (b:γ),(∀x b,St P P' O (f x b))->St P P' O (forIn l b f)
 | [],b,a=>by simp only[List.forIn_nil];exact trivial
 |x::l,b,a=>by
  simp only[List.forIn_cons];refine ag (a x b) λs=>?_;cases s with
  |done b=>exact trivial
  |yield b=>exact Dj l b a
def pH{γ:Type}{f:α->γ->XH (ForInStep γ)}(l:Array α)(b:γ)(h:∀x b,St P P' O (f x b)):St P P' O (forIn l b f):=by
 rw[<-Array.forIn_toList];exact Dj _ _ h
def rO{γ:Type}{f:Nat->γ->XH (ForInStep γ)}(n:Nat)(b:γ)(h:∀x b,St P P' O (f x b)):St P P' O (forIn [0:n] b f):=by
 rw[WC];exact Dj _ _ h
theorem JC(g:α->XH β):∀(l:List α),(∀x,St P P' O (g x))->St P P' O (l.mapM g)
 | [],a=>by rw[List.mapM_nil];exact trivial
 |x::l,a=>by
  rw[List.mapM_cons];exact ag (a x) λ_=>ag (JC g l a) λ_=>trivial
def JB(g:α->XH β)(l:Array α)(h:∀x,St P P' O (g x)):St P P' O (l.mapM g):=by
 rw[Array.mapM_eq_mapM_toList];exact ag (JC g _ h) λ_=>trivial
theorem FD{γ:Type}(g:γ->α->XH γ):∀(l:List α) (b:γ),(∀b x,St P P' O (g b x))->St P P' O (l.foldlM g b)
 | [],b,a=>trivial
 |x::l,b,a=>by
  rw[List.foldlM_cons];exact ag (a b x) λ_=>FD g l _ a
def lI(v:U):St P P' O (Yg v):=by unfold Yg;split<;>first|exact trivial|exact ay _
def Ol(a:Twin P P')(b:Plain O)(e:Vc)(h:Bool)(v:U):St P P' O (Instr.alloc e h v):=by unfold Instr.alloc;((try dsimp only);repeat' first|exact fy a _|exact wJ a _ _ _|exact jH b _ _|assumption|(refine ag ?_ (λ_=>?_))|intro _|split|(dsimp only)|exact trivial)
def SL(b:Twin P P')(a:Plain O)(e:Vc)(v:U):St P P' O (Instr.box e v):=by unfold Instr.box;((try dsimp only);repeat' first|exact jH a _ _|assumption|(refine ag ?_ (λ_=>?_))|intro _|split|(dsimp only)|exact trivial)
def On(a:Twin P P')(b:Plain O)(t:Vc)(ps:Array (Nat×U)):St P P' O (Instr.build t ps):=by
 unfold Instr.build;refine ag (fy a t) λe=>?_;dsimp only;refine ag (aE a t) λd=>?_
 split
 ·refine ag (JB _ _ λf=>ag (bM a _) λ_=>trivial) λc=>?_
  ((try dsimp only);repeat' first|exact aE a _|exact fy a _|exact bM a _|exact ay _|assumption|(refine ag ?_ (λ_=>?_))|intro _|split|(dsimp only)|exact trivial)
 ·((try dsimp only);repeat' first|exact aE a _|exact fy a _|exact bM a _|exact ay _|assumption|(refine ag ?_ (λ_=>?_))|intro _|split|(dsimp only)|exact trivial)
 ·exact ay _
def AY(a:Twin P P')(b:Plain O)(t:Vc)(n:Nat)(ps:Array (Nat×U)):St P P' O (X9 t n ps):=by unfold X9;((try dsimp only);repeat' first|exact aE a _|exact fy a _|exact bM a _|exact ay _|(refine aT _ ?_;rfl)|exact jH b _ _|assumption|(refine ag ?_ (λ_=>?_))|(refine bN ?_ ?_)|intro _|split|(dsimp only)|exact trivial)
def LF(a:Twin P P')(b:Plain O)(t:Vc)(v:U):St P P' O (Instr.loadAt t v):=by unfold Instr.loadAt;((try dsimp only);repeat' first|exact pK a _ _|exact lI _|assumption|(refine ag ?_ (λ_=>?_))|intro _|split|(dsimp only)|exact trivial)
def Ix(b:Twin P P')(c:Plain O)(t:Vc)(a v:U):St P P' O (Instr.storeAt t a v):=by unfold Instr.storeAt;((try dsimp only);repeat' first|exact wJ b _ _ _|exact lI _|assumption|(refine ag ?_ (λ_=>?_))|intro _|split|(dsimp only)|exact trivial)
def Is(b:Twin P P')(c:Plain O)(t:Vc)(a:U)(f:Nat):St P P' O (Instr.fieldAt t a f):=by unfold Instr.fieldAt;((try dsimp only);repeat' first|exact aE b _|exact ay _|exact lI _|exact sx b c _ _|assumption|(refine ag ?_ (λ_=>?_))|intro _|split|(dsimp only)|exact trivial)
def It(b:Twin P P')(c:Plain O)(t:Vc)(a i:U):St P P' O (Instr.indexAt t a i):=by unfold Instr.indexAt;((try dsimp only);repeat' first|exact aE b _|exact bM b _|exact ay _|(refine aT _ ?_;rfl)|exact pF _|exact ni b c _ _ _ _|exact lI _|assumption|(refine ag ?_ (λ_=>?_))|(refine bN ?_ ?_)|intro _|split|(dsimp only)|exact trivial)
def A3(b:Twin P P')(a:Plain O)(x:U)(y:Nat)(c:BoundsCode):St P P' O (Instr.sliceBound x y c):=by unfold Instr.sliceBound;((try dsimp only);repeat' first|exact pF _|exact ni b a _ _ _ _|assumption|(refine ag ?_ (λ_=>?_))|(refine bN ?_ ?_)|intro _|split|(dsimp only)|exact trivial)
def qX(e:Twin P P')(d:Plain O)(s:Bool)(l c:Nat)(a b m:Option U):St P P' O (Instr.sliceBounds s l c a b m):=by unfold Instr.sliceBounds;((try dsimp only);repeat' first|exact ay _|exact A3 e d _ _ _|assumption|(refine ag ?_ (λ_=>?_))|intro _|split|(dsimp only)|exact trivial)
def Ox(c:Twin P P')(d:Plain O)(t:Vc)(x:U)(a b m:Option U):St P P' O (Instr.slice t x a b m):=by unfold Instr.slice;((try dsimp only);repeat' first|exact aE c _|exact bM c _|exact ay _|exact oR c d _|exact qX c d _ _ _ _ _ _|assumption|(refine ag ?_ (λ_=>?_))|(refine bN ?_ ?_)|intro _|split|(dsimp only)|exact trivial)
def Iw(c:Twin P P')(d:Plain O)(t:Vc)(x:U)(a b m:Option U):St P P' O (Instr.sliceAt t x a b m):=by unfold Instr.sliceAt;((try dsimp only);repeat' first|exact aE c _|exact bM c _|exact qX c d _ _ _ _ _ _|exact Ox c d _ _ _ _ _|exact lI _|assumption|(refine ag ?_ (λ_=>?_))|intro _|split|(dsimp only)|exact trivial)
def vG(a:Twin P P')(b:Plain O)(t:Vc)(x:U):St P P' O (Instr.makeInterface t x):=by unfold Instr.makeInterface;((try dsimp only);repeat' first|exact aE a _|exact ay _|assumption|(refine ag ?_ (λ_=>?_))|intro _|split|(dsimp only)|exact trivial)
def Dl(c:Twin P P')(d:Plain O)(t:Vc)(a b:U):St P P' O (YZ t a b):=by unfold YZ;((try dsimp only);repeat' first|exact bG c _|exact aE c _|exact fy c _|exact bM c _|exact ay _|exact bJ c d _|exact cT _|exact lG _|exact jH d _ _|exact zN _|assumption|(refine ag ?_ (λ_=>?_))|(refine bN ?_ ?_)|intro _|split|(dsimp only)|exact trivial)
def Iv(b:Twin P P')(d:Plain O)(a:∀e c,O (.map e c))(t:Vc)(r:Option U):St P P' O (Instr.makeMap t r):=by unfold Instr.makeMap;((try dsimp only);repeat' first|exact aE b _|exact ay _|exact lG _|exact mB (a _ _)|assumption|(refine ag ?_ (λ_=>?_))|intro _|split|(dsimp only)|exact trivial)
def Ot(a:Twin P P')(b:Plain O)(t:Vc)(x:U)(f:Nat):St P P' O (Instr.field t x f):=by unfold Instr.field;((try dsimp only);repeat' first|exact aE a _|exact ay _|exact zM _|exact gX a _ _ _|assumption|(refine ag ?_ (λ_=>?_))|intro _|split|(dsimp only)|exact trivial)
def Ou(a:Twin P P')(b:Plain O)(t:Vc)(x i:U):St P P' O (Instr.index t x i):=by unfold Instr.index;((try dsimp only);repeat' first|exact aE a _|exact bM a _|exact ay _|exact pF _|exact ni a b _ _ _ _|exact gX a _ _ _|assumption|(refine ag ?_ (λ_=>?_))|(refine bN ?_ ?_)|intro _|split|(dsimp only)|exact trivial)
def Ir(v:U)(i:Nat):St P P' O (Instr.extract v i):=by
 unfold Instr.extract
 split
 ·split
  ·exact trivial
  ·exact ay _
 ·exact ay _
def FK(a:Twin P P'):St P P' O Instr.panicnil:=by
 unfold Instr.panicnil;refine ag ⟨rfl,λ_=>trivial⟩ λb=>?_
 split
 ·dsimp only;exact cA (by rw[a.godebug]) trivial
 ·exact ay _
def Ov(a:Twin P P')(b:Plain O)(x:U):St P P' O (Instr.panic x):=by unfold Instr.panic;((try dsimp only);repeat' first|exact ay _|exact bJ a b _|exact pI _|exact FK a|assumption|(refine ag ?_ (λ_=>?_))|(refine bN ?_ ?_)|intro _|split|(dsimp only)|exact trivial)
end
section
variable {P P':Vb}{O:Yk->Prop}{α β:Type}
def wF(a:Zw)(k:XL)(x y:Int):St P P' O (Op.intArith a k x y):=by unfold Op.intArith;split<;>first|exact trivial|exact ay _
def LD(b:Twin P P')(a:Plain O)(c:Zw)(k:XL)(x y:Int):St P P' O (Op.intDiv c k x y):=by unfold Op.intDiv;((try dsimp only);repeat' first|exact ay _|exact bJ b a _|assumption|(refine bN ?_ ?_)|intro _|split|(dsimp only)|exact trivial)
def zR(a:Zw)(k:XL)(x y:Int):St P P' O (Op.intBits a k x y):=by unfold Op.intBits;dsimp only;split<;>first|exact trivial|exact ay _
def LC(a:Zw)(x y:Int):St P P' O (Op.intCmp a x y):=by unfold Op.intCmp;split<;>first|exact trivial|exact ay _
def Ow(b:Twin P P')(a:Plain O)(c:Zw)(k:XL)(x:Int)(d:XL)(y:Int):St P P' O (Op.shift c k x d y):=by unfold Op.shift;((try dsimp only);repeat' first|exact ay _|exact bJ b a _|assumption|(refine bN ?_ ?_)|intro _|split|(dsimp only)|exact trivial)
def sB(a:Zw)(k:FloatKind)(x y:Nat):St P P' O (Op.floatArith a k x y):=by
 unfold Op.floatArith;dsimp only
 split
 all_goals first|exact ag (ay _) λ_=>(by split<;>first|exact trivial|exact ag (cT _) λ_=>trivial)|exact ag trivial λ_=>(by split<;>first|exact trivial|exact ag (cT _) λ_=>trivial)
def wE(a:Zw)(k:FloatKind)(x y:Nat):St P P' O (Op.floatCmp a k x y):=by unfold Op.floatCmp;dsimp only;split<;>first|exact trivial|exact ay _
def xj(s:FloatKind)(b:Nat)(d:FloatKind):St P P' O (Conv.floatToFloat s b d):=by
 unfold Conv.floatToFloat
 (try dsimp only)
 repeat' first|exact trivial|exact ay _|exact cT _|refine ag ?_ (λ_=>?_)|intro _|split|dsimp only
def rN(a:Zw)(k:FloatKind)(x y:Nat):St P P' O (ZU a k x y):=by
 unfold ZU;refine ag (sB _ _ _ _) λ_=>?_
 split<;>first|exact trivial|exact ay _
def Dg(a:Zw)(k:FloatKind)(x y:Nat):St P P' O (ZY a k x y):=by
 unfold ZY;exact ag (wE _ _ _ _) λ_=>vA _
def lH(s:FloatKind)(b:Nat)(d:FloatKind):St P P' O (ZV s b d):=by
 unfold ZV
 split
 ·exact trivial
 ·refine ag (xj _ _ _) λ_=>?_
  split<;>first|exact trivial|exact ay _
def Oo(a b c d:Nat):St P P' O (ZQ a b c d):=by
 unfold ZQ Z0 ZZ ZX
 repeat' first|exact trivial|exact rN _ _ _ _|refine ag ?_ (λ_=>?_)
def Oq(a b c d:Nat):St P P' O (ZO a b c d):=by
 unfold ZO Z1 Z0 ZZ ZX Op.Complex.quo
 repeat' first|exact rN _ _ _ _|exact Dg _ _ _ _|refine ag ?_ (λ_=>?_)|split|dsimp only|exact trivial
def Dh(e:Zw)(k:FloatKind)(a b c d:Nat):St P P' O (Op.complexOp e k a b c d):=by
 unfold Op.complexOp
 split
 all_goals first
  |exact ag (rN _ _ _ _) λ_=>ag (rN _ _ _ _) λ_=>trivial
  |exact ag (Dg _ _ _ _) λ_=>ag (Dg _ _ _ _) λ_=>trivial
  |exact ay _
  |(refine ag (lH _ _ _) λ_=>ag (lH _ _ _) λ_=>ag (lH _ _ _) λ_=>ag (lH _ _ _) λ_=>?_;dsimp only
    split
    ·exact ag (Oo _ _ _ _) λ_=>ag (lH _ _ _) λ_=>ag (lH _ _ _) λ_=>trivial
    ·exact ag (Oq _ _ _ _) λ_=>ag (lH _ _ _) λ_=>ag (lH _ _ _) λ_=>trivial)
def wK(a:Zw)(x y:ByteArray):St P P' O (Op.stringOp a x y):=by
 unfold Op.stringOp
 repeat' first|exact trivial|exact ay _|exact aT _ Y|split|dsimp only
def Oz(a:UnOp)(x:U):St P P' O (Op.unary a x):=by
 unfold Op.unary
 repeat' first|exact trivial|exact ay _|exact aT _ Y|exact wF _ _ _ _|exact zR _ _ _ _|split|dsimp only
def uh(c:Twin P P')(d:Plain O)(a b:VI):St P P' O (Op.twoPlaces a b):=by
 unfold Op.twoPlaces;refine cA (by rw[c.yE]) ?_
 ((try dsimp only);repeat' first|(refine aT _ ?_;rfl)|exact rM c d _|assumption|(refine ag ?_ (λ_=>?_))|(refine bN ?_ ?_)|intro _|split|(dsimp only)|exact trivial)
def Ij(d:Twin P P')(c:Plain O)(k:XL)(a b:VI):St P P' O (Op.addrSub k a b):=by unfold Op.addrSub;((try dsimp only);repeat' first|exact uh d c _ _|assumption|(refine ag ?_ (λ_=>?_))|intro _|split|(dsimp only)|exact trivial)
def Ih(d:Twin P P')(c:Plain O)(k:Zw)(a b:VI):St P P' O (Op.addrCmp k a b):=by unfold Op.addrCmp;((try dsimp only);repeat' first|(refine aT _ ?_;rfl)|exact uh d c _ _|assumption|(refine ag ?_ (λ_=>?_))|intro _|split|(dsimp only)|exact trivial)
def Ii(b:Twin P P')(c:Plain O)(k:XL)(a:VI)(n:Int):St P P' O (Op.addrMod k a n):=by unfold Op.addrMod;((try dsimp only);repeat' first|exact bG b _|exact gL _|(refine aT _ ?_;rfl)|exact rM b c _|assumption|(refine ag ?_ (λ_=>?_))|(refine bN ?_ ?_)|intro _|split|(dsimp only)|exact trivial)
def uj(b:Twin P P')(k:Plain O)(o:Array Vc)(t:Vc)(d:Array U):St P P' O (Yq o t d):=by
 have f:∀s:String,St P P' O (stuck s:XH U):=λs=>ay s;unfold Yq;obtain⟨h⟩:=d;rcases h with _|⟨a,_|⟨p,_|⟨q,h⟩⟩⟩
 case cons.cons.nil=>
  cases a with
  |pointer n=>
   dsimp only;refine ag (lG _) λl=>?_
   split
   ·((try dsimp only);repeat' first|exact ay _|exact gL _|(refine aT _ ?_;rfl)|exact lG _|exact BX b k _|assumption|(refine ag ?_ (λ_=>?_))|(refine bN ?_ ?_)|intro _|split|(dsimp only)|exact trivial)
   ·have g:St P P' O (match n with
     |some a=>do
      let i <-shape a.block
      match i with
       |some (e,j)=>do
        let c <-program
        match cellAtBytes c c.depth e (j/c.cellsOf e) a.off l with
         |some m=>pure (Value.pointer (I {block:=a.block,off:=m,spot:=a.spot}))
         |none=>unsupported (Zy "Add")
       |x=>unsupported (Zy "Add")
     |x=>unsupported (Zy "Add"):XH U):=by
     split
     ·refine ag (gL _) λs=>?_
      split
      ·refine cA (by simp only[b.cells,b.cellAt,b.depth]) ?_
       ((try dsimp only);repeat' first|exact ay _|exact gL _|(refine aT _ ?_;rfl)|exact lG _|assumption|(refine ag ?_ (λ_=>?_))|(refine bN ?_ ?_)|intro _|split|(dsimp only)|exact trivial)
      ·exact aT _ Y
     ·exact aT _ Y
    split
    ·exact ag (aT _ Y) λ_=>g
    ·exact g
  |_=>exact f _
 all_goals exact f _
def Fy(c:∀a b,O (.number a b))(a:VI)(l:Bool):St P P' O (asNumber a l):=ag (mB (c _ _)) λ_=>trivial
def qV(c:Twin P P')(d:Plain O)(e:∀a b,O (.number a b))(t:Vc)(x y:U):St P P' O (movedNumber t x y):=by unfold movedNumber;((try dsimp only);repeat' first|exact aE c _|(refine aT _ ?_;rfl)|exact uj c d _ _ _|exact dZ c d _|exact Fy e _ _|assumption|(refine ag ?_ (λ_=>?_))|(refine bN ?_ ?_)|intro _|split|(dsimp only)|exact trivial)
def xk(b:Twin P P')(a:Plain O)(t:Vc)(x y:U):St P P' O (movedPointer t x y):=by unfold movedPointer;((try dsimp only);repeat' first|(refine aT _ ?_;rfl)|exact uj b a _ _ _|exact wH b a _|assumption|(refine ag ?_ (λ_=>?_))|(refine bN ?_ ?_)|intro _|split|(dsimp only)|exact trivial)
theorem zP(a:Twin P P')(b:Plain O):∀(d:Nat) (t:Vc) (x y:U),St P P' O (Op.equalIn d t x y)
 |0,t,x,y=>aT _ Y
 |d+1,t,x,y=>by
  have c:=zP a b d;unfold Op.equalIn;refine ag (aE a t) λh=>?_
  split
  all_goals first
   |exact trivial
   |exact ay _
   |exact aT _ Y
   |exact zW a b _ _
   |exact bN trivial (ay _)
   |(refine ag (dZ a b _) λe=>?_;refine ag (dZ a b _) λf=>?_;dsimp only;refine cA (by rw[a.yE]) ?_
     ((try dsimp only);repeat' first|exact bG a _|exact aE a _|exact bM a _|exact ay _|exact bJ a b _|exact cT _|(refine aT _ ?_;rfl)|exact gX a _ _ _|exact rM a b _|assumption|(refine ag ?_ (λ_=>?_))|(refine bN ?_ ?_)|intro _|split|(dsimp only)|exact trivial))
   |(refine ag (bM a _) λg=>?_
     ((try dsimp only);repeat' first|exact bG a _|exact aE a _|exact bM a _|exact ay _|exact bJ a b _|exact cT _|(refine aT _ ?_;rfl)|exact gX a _ _ _|exact wI a b _ _|assumption|(refine ag ?_ (λ_=>?_))|(refine bN ?_ ?_)|intro _|split|(dsimp only)|exact trivial))
   |skip
  ·refine bN trivial ?_;refine ag (bG a _) λinfo=>?_;dsimp only
   split
   ·refine cA (by simp only[a.NI]) ?_;refine cA (by simp only[a.depth]) ?_
    ((try dsimp only);repeat' first|exact bG a _|exact aE a _|exact bM a _|exact ay _|exact bJ a b _|exact cT _|(refine aT _ ?_;rfl)|exact gX a _ _ _|exact td a _|assumption|(refine ag ?_ (λ_=>?_))|(refine bN ?_ ?_)|intro _|split|(dsimp only)|exact trivial)
   ·exact c _ _ _
  ·refine cA (by rw[a.JE]) ?_
   ((try dsimp only);repeat' first|exact bG a _|exact aE a _|exact bM a _|exact ay _|exact bJ a b _|exact cT _|(refine aT _ ?_;rfl)|exact gX a _ _ _|exact c _ _ _|assumption|(refine pH _ _ (λ_ _=>?_))|(refine rO _ _ (λ_ _=>?_))|(refine ag ?_ (λ_=>?_))|(refine bN ?_ ?_)|intro _|split|(dsimp only)|exact trivial)
  ·((try dsimp only);repeat' first|exact bG a _|exact aE a _|exact bM a _|exact ay _|exact bJ a b _|exact cT _|(refine aT _ ?_;rfl)|exact gX a _ _ _|exact c _ _ _|assumption|(refine pH _ _ (λ_ _=>?_))|(refine rO _ _ (λ_ _=>?_))|(refine ag ?_ (λ_=>?_))|(refine bN ?_ ?_)|intro _|split|(dsimp only)|exact trivial)
def FB(b:Twin P P')(a:Plain O)(t:Vc)(x y:U):St P P' O (Op.equal t x y):=zP b a _ t x y
theorem pG(a:Twin P P')(c:Plain O):∀(d:Nat) (t:Vc) (x y:U),St P P' O (Op.eqGuardIn d t x y)
 |0,t,x,y=>aT _ Y
 |d+1,t,x,y=>by
  have b:=pG a c d;unfold Op.eqGuardIn;refine ag (aE a t) λe=>?_
  split
  ·exact trivial
  ·((try dsimp only);repeat' first|exact aE a _|exact bM a _|(refine aT _ ?_;rfl)|exact gX a _ _ _|exact b _ _ _|assumption|(refine pH _ _ (λ_ _=>?_))|(refine rO _ _ (λ_ _=>?_))|(refine ag ?_ (λ_=>?_))|(refine bN ?_ ?_)|intro _|split|(dsimp only)|exact trivial)
  ·((try dsimp only);repeat' first|exact aE a _|exact bM a _|(refine aT _ ?_;rfl)|exact gX a _ _ _|exact b _ _ _|assumption|(refine pH _ _ (λ_ _=>?_))|(refine rO _ _ (λ_ _=>?_))|(refine ag ?_ (λ_=>?_))|(refine bN ?_ ?_)|intro _|split|(dsimp only)|exact trivial)
  ·exact trivial
def Iq(c:Twin P P')(d:Plain O)(e:Zw)(t:Vc)(x y:V4)(a b:U):St P P' O (eqGuard e t x y a b):=by
 unfold eqGuard;refine bN trivial ?_
 split
 ·((try dsimp only);repeat' first|(refine aT _ ?_;rfl)|exact pG c d _ _ _ _|assumption|(refine ag ?_ (λ_=>?_))|(refine bN ?_ ?_)|intro _|split|(dsimp only)|exact trivial)
 ·refine cA (by simp only[c.T5]) ?_;refine cA (by simp only[c.depth]) ?_
  ((try dsimp only);repeat' first|(refine aT _ ?_;rfl)|exact pG c d _ _ _ _|assumption|(refine ag ?_ (λ_=>?_))|(refine bN ?_ ?_)|intro _|split|(dsimp only)|exact trivial)
 ·exact trivial
def Om(c:Twin P P')(d:Plain O)(e:∀a b,O (.number a b))(f:Zw)(t:Vc)(x y:U):St P P' O (binOp f t x y):=by
 unfold binOp
 split
 all_goals first
  |exact Ow c d _ _ _ _ _
  |exact wK _ _ _
  |exact aT _ Y
  |exact ay _
  |exact qV c d e _ _ _
  |exact ag (FB c d _ _ _) λ_=>trivial
  |(refine bN (ay _) ?_
    split<;>first|exact wF _ _ _ _|exact LD c d _ _ _ _|exact zR _ _ _ _|exact LC _ _ _|exact sB _ _ _ _|exact wE _ _ _ _)
  |exact bN (ay _) (Dh _ _ _ _ _ _)
  |(refine ag (aE c _) λg=>?_
    split<;>first|exact xk c d _ _ _|exact qV c d e _ _ _)
  |exact ag (dZ c d _) λ_=>ag (dZ c d _) λ_=>Ij c d _ _ _
  |exact ag (dZ c d _) λ_=>ag (dZ c d _) λ_=>Ih c d _ _ _
  |exact ag (dZ c d _) λ_=>Ii c d _ _ _
end
section
variable {P P':Vb}{O:Yk->Prop}{α β:Type}
theorem qT(a:Twin P P')(b:Plain O)(e:Bool):∀(n:Nat) (t:Vc) (v:U),St P P' O (YU e n t v)
 |0,t,v=>aT _ Y
 |n+1,t,v=>by
  have c:=qT a b e n;unfold YU;refine ag (aE a t) λd=>?_
  split
  ·((try dsimp only);repeat' first|exact bG a _|exact aE a _|exact bM a _|exact ay _|exact bJ a b _|(refine aT _ ?_;rfl)|exact gX a _ _ _|exact c _ _|exact td a _|assumption|(refine ag ?_ (λ_=>?_))|(refine bN ?_ ?_)|intro _|split|(dsimp only)|exact trivial)
  ·((try dsimp only);repeat' first|exact bG a _|exact aE a _|exact bM a _|exact ay _|exact bJ a b _|(refine aT _ ?_;rfl)|exact gX a _ _ _|exact c _ _|assumption|(refine pH _ _ (λ_ _=>?_))|(refine rO _ _ (λ_ _=>?_))|(refine ag ?_ (λ_=>?_))|(refine bN ?_ ?_)|intro _|split|(dsimp only)|exact trivial)
  ·((try dsimp only);repeat' first|exact bG a _|exact aE a _|exact bM a _|exact ay _|exact bJ a b _|(refine aT _ ?_;rfl)|exact gX a _ _ _|exact c _ _|assumption|(refine pH _ _ (λ_ _=>?_))|(refine rO _ _ (λ_ _=>?_))|(refine ag ?_ (λ_=>?_))|(refine bN ?_ ?_)|intro _|split|(dsimp only)|exact trivial)
  all_goals first|exact trivial|exact ay _
theorem sA(b:Twin P P')(a:Plain O)(t:Vc)(k:U):∀(es:List WQ) (i:Nat),St P P' O (Instr.findAsking t k es i)
 | [],i=>trivial
 |e::es,i=>by
  unfold Instr.findAsking;refine ag (FB b a _ _ _) λc=>?_
  split
  ·exact trivial
  ·exact sA b a t k es (i+1)
def zQ(a:Twin P P')(b:Plain O)(t:Vc)(k:U)(es:List WQ):St P P' O (Zn t k es):=by unfold Zn;((try dsimp only);repeat' first|exact aE a _|exact sA a b _ _ _ _|assumption|(refine ag ?_ (λ_=>?_))|intro _|split|(dsimp only)|exact trivial)
def LG(a:Twin P P')(b:Plain O)(t:Vc)(x i:U)(c:Bool):St P P' O (Instr.lookup t x i c):=by unfold Instr.lookup;((try dsimp only);repeat' first|exact aE a _|exact fy a _|exact ay _|(refine jz _ (λ_ _=>?_) ?_)|exact qD Y|exact zQ a b _ _ _|exact qT a b _ _ _ _|assumption|(refine ag ?_ (λ_=>?_))|intro _|split|(dsimp only)|exact trivial)
def Dm(a:Twin P P')(b:Plain O)(d:∀e c,O (.map e c))(t:Vc)(m k v:U):St P P' O (Instr.mapUpdate t m k v):=by unfold Instr.mapUpdate Instr.keyThatStays;((try dsimp only);repeat' first|exact aE a _|exact ay _|exact bJ a b _|exact cT _|(refine jz _ (λ_ _=>?_) ?_)|exact qD Y|exact zQ a b _ _ _|exact qT a b _ _ _ _|exact mC _ (d _ _)|assumption|(refine ag ?_ (λ_=>?_))|(refine bN ?_ ?_)|intro _|split|(dsimp only)|exact trivial)
def vB(e:Twin P P')(d:Plain O)(x:U):St P P' O (Conv.bytesToString x):=by
 unfold Conv.bytesToString
 split
 ·exact trivial
 ·refine ag (pJ _ _) λc=>?_;dsimp only;refine ag (pH _ _ λb a=>?_) λ_=>trivial
  split
  ·exact trivial
  ·exact ay _
 ·exact ay _
def xK(b:Twin P P')(t:Vc):Still P P' O (λd=>P.underlying t=I d) (Yt t):=by
 unfold Yt;refine cA (by rw[b.rP]) ?_
 split
 ·rename_i d a;exact a
 ·exact ay _
def GI (P:Vb)(s d:Vc):Bool:=match P.underlying s,P.underlying d with
 |some (.int _),I (.int _)=>Z
 |some (.slice a),I .string=>match P.underlying a with|some (.int .u8)=>Z|_=>U5
 |some (.slice _),I (.slice _)=>Z
 |_,_=>U5
def FH(x:U):St P P' O (YO x):=by unfold YO;split<;>first|exact trivial|exact ay _
def kU(s n:Nat)(x:U):St P P' O (XP s n x):=by unfold XP;split<;>first|exact trivial|exact pJ _ _|exact ay _
def A0(a:VI)(c:Nat):St P P' O (Yp a c):=by unfold Yp;refine ag (gL _) λs=>?_;split<;>exact trivial
def FJ(f:Twin P P')(e:Plain O)(a b c:Nat)(d:Option VI)(x:U):St P P' O (Zb a b c d x):=by unfold Zb;((try dsimp only);repeat' first|exact vE _|exact A0 _ _|assumption|(refine ag ?_ (λ_=>?_))|(refine bN ?_ ?_)|intro _|split|(dsimp only)|exact trivial)
def QE(a:Twin P P')(d:Plain O)(c:Array Vc)(t:Vc)(b:Array U):St P P' O (Yx c t b):=by unfold Yx;((try dsimp only);repeat' first|exact aE a _|exact bM a _|exact ay _|exact ji _ _ _|exact FH _|exact kU _ _ _|assumption|(refine ag ?_ (λ_=>?_))|intro _|split|(dsimp only)|exact trivial)
def SM(b:Twin P P')(d:Plain O)(c:Array Vc)(t:Vc)(a:Array U):St P P' O (Builtin.len_ c t a):=by unfold Builtin.len_;((try dsimp only);repeat' first|exact aE b _|exact ay _|(refine jz _ (λ_ _=>?_) ?_)|exact qD Y|assumption|(refine ag ?_ (λ_=>?_))|intro _|split|(dsimp only)|exact trivial)
def QG(x y:U):St P P' O (Builtin.min2 x y):=by
 unfold Builtin.min2
 repeat' first|exact ay _|exact aT _ Y|exact cT _|exact wK _ _ _|exact vA _|refine ag ?_ (λ_=>?_)|split|dsimp only|exact trivial
def SN(c:Array Vc)(t:Vc)(a:Array U):St P P' O (Builtin.min_ c t a):=by
 unfold Builtin.min_
 split
 ·exact ay _
 ·exact FD _ _ _ λb d=>QG b d
def xp(a:Twin P P')(b:Plain O)(g:Array Vc)(t:Vc)(c:Array U):St P P' O (Builtin.unsafeString_ g t c):=by
 have d:∀s:String,St P P' O (stuck s:XH U):=λs=>ay s;unfold Builtin.unsafeString_;obtain⟨e⟩:=c;rcases e with _|⟨f,_|⟨h,_|⟨i,e⟩⟩⟩
 case cons.cons.nil=>
  cases f with
  |pointer j=>
   dsimp only
   ((try dsimp only);repeat' first|exact ay _|exact bJ a b _|exact BS _ _|(refine aT _ ?_;rfl)|exact lG _|exact vC a _|exact zY a b _ _ _|exact Dk a b _ _ _|assumption|(refine ag ?_ (λ_=>?_))|(refine bN ?_ ?_)|intro _|split|(dsimp only)|exact trivial)
  |_=>exact d _
 all_goals exact d _
end
end Cc
namespace Rl
section
structure mG where
 g:Nat
 b:Nat->Bool
structure aN(G:mG) where
 f:Nat->Option Nat
 inj:∀a b c,f a=I c->f b=I c->a=b
 PN:∀a b,f a=I b->(a<G.g↔b<G.g)
variable {G:mG}
def aN.le(ρ σ:aN G):Prop:=∀a b,ρ.f a=I b->σ.f a=I b
def aN.le.refl(ρ:aN G):ρ.le ρ:=λ_ _ a=>a
def aN.le.trans{ρ σ a:aN G}(h:ρ.le σ)(b:σ.le a):ρ.le a:=λd e c=>b _ _ (h _ _ c)
structure RD(ρ:aN G)(r r':Nat):Prop where
 left:ρ.f r=K
 right:∀b,ρ.f b≠I r'
 gl:G.g<=r
 gr:G.g<=r'
def aN.ext(ρ:aN G)(r r':Nat)(h:RD ρ r r'):aN G where
 f:=λb=>if b=r then I r' else ρ.f b
 inj:=λc b e a d=>by
  split at a<;>split at d
  ·omega
  ·cases a;exact absurd d (h.right b)
  ·cases d;exact absurd a (h.right c)
  ·exact ρ.inj c b e a d
 PN:=λc b a=>by
  have:=h.gl;have:=h.gr
  split at a
  ·cases a;omega
  ·exact ρ.PN c b a
def aN.M3{ρ:aN G}{r r':Nat}(h:RD ρ r r'):ρ.le (ρ.ext r r' h):=λc d a=>by
 unfold aN.ext;dsimp only
 split
 ·rename_i b;subst b;rw[h.left] at a;cases a
 ·exact a
def aN.xA(ρ:aN G)(r r':Nat)(h:RD ρ r r'):(ρ.ext r r' h).f r=I r':=by simp[aN.ext]
def cP (ρ:aN G)(a a':VI):Prop:=ρ.f a.block=I a'.block/\a.off=a'.off/\a.spot=a'.spot
def cP.mono{ρ σ:aN G}{a a':VI}(b:ρ.le σ)(h:cP ρ a a'):cP σ a a':=⟨b _ _ h.1,h.2⟩
def cP.add{ρ:aN G}{a a':VI}(h:cP ρ a a')(n:Nat):cP ρ (a.add n) (a'.add n):=by
 unfold Addr.add
 split
 ·exact h
 ·exact⟨h.1,by show a.off+n=a'.off+n;rw[h.2.1],rfl⟩
def nV (ρ:aN G)(b:Fn)(c:Fn):Prop:=∀a:Fn->Fn->Prop,(∀(f:Xb) (d:G.b f=Z),a (.func f) (.func f))->a b c
def nV.func{ρ:aN G}(f:Xb)(h:G.b f=Z):nV ρ (.func f) (.func f):=λb a=>a f h
def nV.ind{ρ:aN G}{c:∀(a:Fn) (b:Fn),nV ρ a b->Prop}(func:∀(f:Xb) (h:G.b f=true),c _ _ (nV.func f h)){a:Fn}{b:Fn}(h:nV ρ a b):c a b h:=(h (λa b=>nV ρ a b/\∀h,c a b h) (λf h=>⟨nV.func f h,λ_=>func f h⟩)).2 h
def nV.mono{ρ σ:aN G}{f f':Fn}(a:ρ.le σ)(h:nV ρ f f'):nV σ f f':=by
 cases h using nV.ind with
 |func f h=>exact .func f h
def aq (ρ:aN G)(y:U)(z:U):Prop:=∀a:U->U->Prop,(∀(p:Bool),a (.bool p) (.bool p))->(∀(u:XL) (g:Int),a (.int u g) (.int u g))->(∀(s:ByteArray),a (.string s) (.string s))->(a (.pointer K) (.pointer K))->(∀{h i:VI} (e:cP ρ h i),a (.pointer (I h)) (.pointer (I i)))->(∀(g j:Nat),a (.slice K g j) (.slice K g j))->(∀{h i:VI} (e:cP ρ h i) (g j:Nat),a (.slice (I h) g j) (.slice (I i) g j))->(a (.map K) (.map K))->(∀{k l:Nat} (e:ρ.f k=I l),a (.map (I k)) (.map (I l)))->(a (.chan K) (.chan K))->(∀{k l:Nat} (e:ρ.f k=I l),a (.chan (I k)) (.chan (I l)))->(∀{f q:Fn} {c d m n:Array U} (A:nV ρ f q) (r:c.size=d.size) (t:∀b (e:b<c.size) (o:b<d.size),a c[b] d[b]) (B:m.size=n.size) (C:∀b (e:b<m.size) (o:b<n.size),a m[b] n[b]),a (.func f c m) (.func q d n))->(a .nilFunc .nilFunc)->(∀(w:Vc) {v x:U} (e:a v x),a (.iface w v) (.iface w x))->(a .nilIface .nilIface)->(∀{c d:Array U} (r:c.size=d.size) (t:∀b (e:b<c.size) (o:b<d.size),a c[b] d[b]),a (.agg c) (.agg d))->(∀{c d:Array U} (r:c.size=d.size) (t:∀b (e:b<c.size) (o:b<d.size),a c[b] d[b]),a (.tuple c) (.tuple d))->a y z
def aq.bool{ρ:aN G}(b:Bool):aq ρ (.bool b) (.bool b):=λc a l m n o p q r s d e f g h i j k=>a b
def aq.int{ρ:aN G}(k:XL)(n:Int):aq ρ (.int k n) (.int k n):=λb c a m o p q r s t d e f g h i j l=>a k n
def aq.string{ρ:aN G}(s:ByteArray):aq ρ (.string s) (.string s):=λb c l a m n o p q r d e f g h i j k=>a s
def aq.cZ{ρ:aN G}:aq ρ (.pointer K) (.pointer K):=λb c l m a n o p q r d e f g h i j k=>a
def aq.ptr{ρ:aN G}{a a':VI}(h:cP ρ a a'):aq ρ (.pointer (I a)) (.pointer (I a')):=λc d n o p b q r s t e f g i j k l m=>b h
def aq.jR{ρ:aN G}(n c:Nat):aq ρ (.slice K n c) (.slice K n c):=λb d m o p q a r s t e f g h i j k l=>a n c
def aq.sl{ρ:aN G}{a a':VI}(h:cP ρ a a')(n c:Nat):aq ρ (.slice (I a) n c) (.slice (I a') n c):=λd e p q r s t b u v f g i j k l m o=>b h n c
def aq.kG{ρ:aN G}:aq ρ (.map K) (.map K):=λb c l m n o p q a r d e f g h i j k=>a
def aq.map{ρ:aN G}{r r':Nat}(h:ρ.f r=I r'):aq ρ (.map (I r)) (.map (I r')):=λb c m n o p q s t a d e f g i j k l=>a h
def aq.iK{ρ:aN G}:aq ρ (.chan K) (.chan K):=λb c k l m n o p q r a d e f g h i j=>a
def aq.chan{ρ:aN G}{r r':Nat}(h:ρ.f r=I r'):aq ρ (.chan (I r)) (.chan (I r')):=λb c l m n o p q s t d a e f g i j k=>a h
def aq.func{ρ:aN G}{f f':Fn}{x a y b:Array U}(D:nV ρ f f')(E:x.size=a.size)(F:∀i (h:i<x.size) (C:i<a.size),aq ρ x[i] a[i])(H:y.size=b.size)(I:∀i (h:i<y.size) (C:i<b.size),aq ρ y[i] b[i]):aq ρ (.func f x y) (.func f' a b):=λj k s t u v w z A B l m c n o p q r=>c D E (λd e g=>F d e g j k s t u v w z A B l m c n o p q r) H (λd e g=>I d e g j k s t u v w z A B l m c n o p q r)
def aq.nilFunc{ρ:aN G}:aq ρ .nilFunc .nilFunc:=λb c k l m n o p q r d e f a g h i j=>a
def aq.iface{ρ:aN G}(t:Vc){v b:U}(h:aq ρ v b):aq ρ (.iface t v) (.iface t b):=λc d m n o p q r s u e f g i a j k l=>a t (h c d m n o p q r s u e f g i a j k l)
def aq.nilIface{ρ:aN G}:aq ρ .nilIface .nilIface:=λb c k l m n o p q r d e f g h a i j=>a
def aq.agg{ρ:aN G}{x a:Array U}(v:x.size=a.size)(w:∀i (h:i<x.size) (B:i<a.size),aq ρ x[i] a[i]):aq ρ (.agg x) (.agg a):=λc d n o p q r s t u e f g j k l b m=>b v (λy z A=>w y z A c d n o p q r s t u e f g j k l b m)
def aq.tuple{ρ:aN G}{x a:Array U}(v:x.size=a.size)(w:∀i (h:i<x.size) (B:i<a.size),aq ρ x[i] a[i]):aq ρ (.tuple x) (.tuple a):=λc d n o p q r s t u e f g j k l m b=>b v (λy z A=>w y z A c d n o p q r s t u e f g j k l m b)
def aq.ind{ρ:aN G}{j:∀(p:U) (q:U),aq ρ p q->Prop}(bool:∀(b:Bool),j _ _ (aq.bool b))(int:∀(k:XL) (n:Int),j _ _ (aq.int k n))(string:∀(s:ByteArray),j _ _ (aq.string s))(cZ:j _ _ (aq.cZ))(ptr:∀{a a':VI} (h:cP ρ a a'),j _ _ (aq.ptr h))(jR:∀(n c:Nat),j _ _ (aq.jR n c))(sl:∀{a a':VI} (h:cP ρ a a') (n c:Nat),j _ _ (aq.sl h n c))(kG:j _ _ (aq.kG))(map:∀{r r':Nat} (h:ρ.f r=some r'),j _ _ (aq.map h))(iK:j _ _ (aq.iK))(chan:∀{r r':Nat} (h:ρ.f r=some r'),j _ _ (aq.chan h))(func:∀{f f':Fn} {x o y B:Array U} (w:nV ρ f f') (m:x.size=o.size) (l:∀i (h:i<x.size) (A:i<o.size),aq ρ x[i] o[i]) (z:y.size=B.size) (u:∀i (h:i<y.size) (A:i<B.size),aq ρ y[i] B[i]),(∀d e g,j _ _ (l d e g))->(∀d e g,j _ _ (u d e g))->j _ _ (aq.func w m l z u))(nilFunc:j _ _ (aq.nilFunc))(iface:∀(t:Vc) {v C:U} (h:aq ρ v C),(j _ _ h)->j _ _ (aq.iface t h))(nilIface:j _ _ (aq.nilIface))(agg:∀{x o:Array U} (m:x.size=o.size) (l:∀i (h:i<x.size) (A:i<o.size),aq ρ x[i] o[i]),(∀d e g,j _ _ (l d e g))->j _ _ (aq.agg m l))(tuple:∀{x o:Array U} (m:x.size=o.size) (l:∀i (h:i<x.size) (A:i<o.size),aq ρ x[i] o[i]),(∀d e g,j _ _ (l d e g))->j _ _ (aq.tuple m l)){p:U}{q:U}(h:aq ρ p q):j p q h:=(h (λp q=>aq ρ p q/\∀h,j p q h) (λb=>⟨aq.bool b,λ_=>bool b⟩) (λk n=>⟨aq.int k n,λ_=>int k n⟩) (λs=>⟨aq.string s,λ_=>string s⟩) (⟨aq.cZ,λ_=>cZ⟩) (λh=>⟨aq.ptr h,λ_=>ptr h⟩) (λn c=>⟨aq.jR n c,λ_=>jR n c⟩) (λh n c=>⟨aq.sl h n c,λ_=>sl h n c⟩) (⟨aq.kG,λ_=>kG⟩) (λh=>⟨aq.map h,λ_=>map h⟩) (⟨aq.iK,λ_=>iK⟩) (λh=>⟨aq.chan h,λ_=>chan h⟩) (λw m l z u=>⟨aq.func w m (λd e g=>(l d e g).1) z (λd e g=>(u d e g).1),λ_=>func w m (λd e g=>(l d e g).1) z (λd e g=>(u d e g).1) (λd e g=>(l d e g).2 _) (λd e g=>(u d e g).2 _)⟩) (⟨aq.nilFunc,λ_=>nilFunc⟩) (λt {v} {C} h=>⟨aq.iface t h.1,λ_=>iface t h.1 (h.2 _)⟩) (⟨aq.nilIface,λ_=>nilIface⟩) (λm l=>⟨aq.agg m (λd e g=>(l d e g).1),λ_=>agg m (λd e g=>(l d e g).1) (λd e g=>(l d e g).2 _)⟩) (λm l=>⟨aq.tuple m (λd e g=>(l d e g).1),λ_=>tuple m (λd e g=>(l d e g).1) (λd e g=>(l d e g).2 _)⟩)).2 h
def aW (ρ:aN G)(x b:Array U):Prop:=x.size=b.size/\∀a (c:a<x.size) (d:a<b.size),aq ρ x[a] b[a]
def aq.mono{ρ σ:aN G}(c:ρ.le σ){v f:U}(h:aq ρ v f):aq σ v f:=by
 induction h using aq.ind with
 |ptr h=>exact .ptr (h.mono c)
 |sl h m g=>exact .sl (h.mono c) m g
 |map h=>exact .map (c _ _ h)
 |chan h=>exact .chan (c _ _ h)
 |func i d _ j _ k l=>exact .func (i.mono c) d (λb h a=>k b h a) j (λb h a=>l b h a)
 |iface n _ e=>exact .iface n e
 |agg d _ e=>exact .agg d (λb h a=>e b h a)
 |tuple d _ e=>exact .tuple d (λb h a=>e b h a)
 |_=>first|exact .bool _|exact .int _ _|exact .string _|exact .cZ|exact .jR _ _|exact .kG|exact .iK|exact .nilFunc|exact .nilIface
def aW.mono{ρ σ:aN G}(d:ρ.le σ){x a:Array U}(h:aW ρ x a):aW σ x a:=⟨h.1,λe b c=>(h.2 e b c).mono d⟩
def aW.nil(ρ:aN G):aW ρ #[] #[]:=⟨rfl,λb a=>by simp at a⟩
def aW.push{ρ:aN G}{x b:Array U}{v a:U}(h:aW ρ x b)(c:aq ρ v a):aW ρ (x.push v) (b.push a):=by
 refine⟨by simp[h.1],λd e f=>?_⟩;simp only[Array.getElem_push];have:=h.1
 split
 ·rw[dif_pos (by omega)];exact h.2 d _ _
 ·rw[dif_neg (by omega)];exact c
def aW.append{ρ:aN G}{x b y e:Array U}(h:aW ρ x b)(d:aW ρ y e):aW ρ (x++y) (b++e):=by
 have c:=h.1;have f:=d.1;refine⟨by simp[c,f],λa g i=>?_⟩;simp only[Array.getElem_append]
 split
 ·rw[dif_pos (by omega)];exact h.2 a _ _
 ·rw[dif_neg (by omega)];have:a-x.size=a-b.size:=by rw[c]
  simp only[this];exact d.2 (a-b.size) (by simp at g;omega) (by simp at i;omega)
def aW.get{ρ:aN G}{x a:Array U}(h:aW ρ x a)(i:Nat):(x[i]? =K/\a[i]? =K)\/∃v c,x[i]? =I v/\a[i]? =I c/\aq ρ v c:=by
 have d:=h.1;by_cases b:i<x.size
 ·exact .inr ⟨_,_,VT b,VT (by omega),h.2 i b (by omega)⟩
 ·exact .inl ⟨Wl (by omega),Wl (by omega)⟩
def aW.set{ρ:aN G}{x d:Array U}(h:aW ρ x d){v c:U}(g:aq ρ v c)(i:Nat):aW ρ (x.setIfInBounds i v) (d.setIfInBounds i c):=by
 refine⟨by simp[h.1],λb e f=>?_⟩;by_cases a:i=b
 ·subst a;simp only[Array.getElem_setIfInBounds_self];exact g
 ·rw[Array.getElem_setIfInBounds_ne (by simpa using e) a,Array.getElem_setIfInBounds_ne (by simpa using f) a];exact h.2 b _ _
def aW.extract{ρ:aN G}{x a:Array U}(h:aW ρ x a)(i j:Nat):aW ρ (x.extract i j) (a.extract i j):=by
 refine⟨by simp[h.1],λd b c=>?_⟩;simp only[Array.getElem_extract];exact h.2 _ _ _
def aq.cells{ρ:aN G}{v a:U}(h:aq ρ v a):aW ρ v.cells a.cells:=by
 cases h using aq.ind with
 |agg c d=>exact⟨c,d⟩
 |_=>exact⟨rfl,λe b f=>by
  have:e=0:=by simp[Value.cells] at b;omega
  subst this
  first|exact .bool _|exact .int _ _|exact .string _|exact .cZ|exact .ptr ‹_› |exact .jR _ _|exact .sl ‹_› _ _|exact .kG|exact .map ‹_› |exact .iK|exact .chan ‹_› |exact .func ‹_› ‹_› ‹_› ‹_› ‹_› |exact .nilFunc|exact .iface _ ‹_› |exact .nilIface|exact .tuple ‹_› ‹_›⟩
structure tB(ρ:aN G)(e e':WQ):Prop where
 key:aq ρ e.key e'.key
 val:aq ρ e.val e'.val
 born:e.born=e'.born
def tB.mono{ρ σ:aN G}(a:ρ.le σ){e e':WQ}(h:tB ρ e e'):tB σ e e':=⟨h.key.mono a,h.val.mono a,h.born⟩
def dG (ρ:aN G)(r:Yk)(t:Yk):Prop:=∀a:Yk->Yk->Prop,(∀{b l:Array U} (g:aW ρ b l) (c:Vc) (m:Nat×Nat),a (.cells b c m) (.cells l c m))->(∀{d e:Array WQ} (w:d.size=e.size) (g:∀f (u:f<d.size) (v:f<e.size),tB ρ d[f] e[f]) (n:Nat),a (.map d n) (.map e n))->(∀(p:Nat) {j k:Array U} (g:aW ρ j k) (b:Bool) (s q:Nat) (c:Bool),a (.chan p j b s q c) (.chan p k b s q c))->(∀{h i:VI} (g:cP ρ h i) (o:Bool),a (.number h o) (.number i o))->a r t
def dG.cells{ρ:aN G}{c b:Array U}(h:aW ρ c b)(t:Vc)(a:Nat×Nat):dG ρ (.cells c t a) (.cells b t a):=λe d f g i=>d h t a
def dG.map{ρ:aN G}{es a:Array WQ}(c:es.size=a.size)(h:∀i (h1:i<es.size) (j:i<a.size),tB ρ es[i] a[i])(k:Nat):dG ρ (.map es k) (.map a k):=λd e b f g=>b c h k
def dG.chan{ρ:aN G}(n:Nat){b b':Array U}(h:aW ρ b b')(c:Bool)(s r:Nat)(t:Bool):dG ρ (.chan n b c s r t) (.chan n b' c s r t):=λd e f a g=>a n h c s r t
def dG.number{ρ:aN G}{a a':VI}(h:cP ρ a a')(l:Bool):dG ρ (.number a l) (.number a' l):=λc d e f b=>b h l
def dG.ind{ρ:aN G}{f:∀(d:Yk) (e:Yk),dG ρ d e->Prop}(cells:∀{c o:Array U} (h:aW ρ c o) (t:Vc) (g:Nat×Nat),f _ _ (dG.cells h t g))(map:∀{es m:Array WQ} (j:es.size=m.size) (h:∀i (h1:i<es.size) (p:i<m.size),tB ρ es[i] m[i]) (k:Nat),f _ _ (dG.map j h k))(chan:∀(n:Nat) {b b':Array U} (h:aW ρ b b') (c:Bool) (s r:Nat) (t:Bool),f _ _ (dG.chan n h c s r t))(number:∀{a a':VI} (h:cP ρ a a') (l:Bool),f _ _ (dG.number h l)){d:Yk}{e:Yk}(h:dG ρ d e):f d e h:=(h (λd e=>dG ρ d e/\∀h,f d e h) (λh t g=>⟨dG.cells h t g,λ_=>cells h t g⟩) (λj h k=>⟨dG.map j h k,λ_=>map j h k⟩) (λn {b} {b'} h c s r t=>⟨dG.chan n h c s r t,λ_=>chan n h c s r t⟩) (λh l=>⟨dG.number h l,λ_=>number h l⟩)).2 h
def dG.mono{ρ σ:aN G}(a:ρ.le σ){o o':Yk}(h:dG ρ o o'):dG σ o o':=by
 cases h using dG.ind with
 |cells h b d=>exact .cells (h.mono a) b d
 |map g h j=>exact .map g (λi e f=>(h i e f).mono a) j
 |chan l h c s m b=>exact .chan l (h.mono a) c s m b
 |number h k=>exact .number (h.mono a) k
structure eJ(ρ:aN G)(bu:Nat)(w w':F):Prop where
 gl:G.g<=w.heap.size
 gr:G.g<=w'.heap.size
 at_:∀b b',ρ.f b=I b'->∃o o',w.heap[b]? =I o/\w'.heap[b']? =I o'/\dG ρ o o'
 tape:∀i q,i<bu->w.tape (w.drawn+i) q=w'.tape (w'.drawn+i) q
def qy:Halt->Bool
 | .stuck _=>Z
 | .unsupported (.initOrder _)=>U5
 | .unsupported _=>Z
 |_=>U5
def lP (ρ:aN G)(d:Halt)(e:Halt):Prop:=∀b:Halt->Halt->Prop,(∀{v c:U} (a:aq ρ v c),b (.panic v) (.panic c))->(∀(a:Halt) (f:qy a=Z),b a a)->b d e
def lP.panic{ρ:aN G}{v a:U}(h:aq ρ v a):lP ρ (.panic v) (.panic a):=λc b d=>b h
def lP.same{ρ:aN G}(h:Halt)(b:qy h=Z):lP ρ h h:=λc d a=>a h b
def lP.ind{ρ:aN G}{c:∀(a:Halt) (b:Halt),lP ρ a b->Prop}(panic:∀{v e:U} (h:aq ρ v e),c _ _ (lP.panic h))(same:∀(h:Halt) (d:qy h=true),c _ _ (lP.same h d)){a:Halt}{b:Halt}(h:lP ρ a b):c a b h:=(h (λa b=>lP ρ a b/\∀h,c a b h) (λh=>⟨lP.panic h,λ_=>panic h⟩) (λh d=>⟨lP.same h d,λ_=>same h d⟩)).2 h
end
section
variable {G:mG}{bu:Nat}
def an {α β:Type}(P P':Vb)(A:aN G->α->β->Prop)(y:aN G)(z:XH α)(C:XH β):Prop:=∀d:aN G->XH α->XH β->Prop,(∀{a:aN G} {e:α} {l:β} (f:A a e l),d a (.pure e) (.pure l))->(∀{a:aN G} {m:Mode} {e i:VI} {b:U->XH α} {c:U->XH β} (p:cP a e i) (f:∀v o,aq a v o->d a (b v) (c o)),d a (.load m e b) (.load m i c))->(∀{a:aN G} {m:Mode} {e i:VI} {v o:U} {b:XH α} {c:XH β} (p:cP a e i) (D:aq a v o) (f:d a b c),d a (.store m e v b) (.store m i o c))->(∀{a:aN G} {j k:Yk} {b:Nat->XH α} {c:Nat->XH β} (x:dG a j k) (f:∀g h (w:RD a g h),d (a.ext g h w) (b g) (c h)),d a (.new j b) (.new k c))->(∀{a:aN G} {g h:Nat} {b:Option (Vc×Nat)->XH α} {c:Option (Vc×Nat)->XH β} (q:a.f g=I h) (f:∀s,d a (b s) (c s)),d a (.shape g b) (.shape h c))->(∀{a:aN G} {e i:VI} {n:Nat} {b:XH α} {c:XH β} (p:cP a e i) (f:d a b c),d a (.freeze e n b) (.freeze i n c))->(∀{a:aN G} {e i:VI} {b:Bool->XH α} {c:Bool->XH β} (p:cP a e i) (f:∀l,d a (b l) (c l)),d a (.frozen e b) (.frozen i c))->(∀{a:aN G} {g h:Nat} {b:Yk->XH α} {c:Yk->XH β} (q:a.f g=I h) (f:∀j k,dG a j k->d a (b j) (c k)),d a (.getObj g b) (.getObj h c))->(∀{a:aN G} {g h:Nat} {j k:Yk} {b:XH α} {c:XH β} (q:a.f g=I h) (x:dG a j k) (f:d a b c),d a (.setObj g j b) (.setObj h k c))->(∀{a:aN G} {r:Question} {b:Nat->XH α} {c:Nat->XH β} (f:∀n,d a (b n) (c n)),d a (.choose r b) (.choose r c))->(∀{a:aN G} {b:Vb->XH α} {c:Vb->XH β} (f:d a (b P) (c P')),d a (.program b) (.program c))->(∀{a:aN G} {b:XH α} {c:XH β} (f:d a b c),d a (.mark .noRoom b) (.mark .noRoom c))->(∀{a:aN G} {t u:Halt} (f:lP a t u),d a (.halt t) (.halt u))->d y z C
def an.pure{α β:Type}{P P':Vb}{A:aN G->α->β->Prop}{ρ:aN G}{a:α}{b:β}(h:A ρ a b):an P P' A ρ (.pure a) (.pure b):=λd c j k l m n o p q e f g i=>c h
def an.load{α β:Type}{P P':Vb}{A:aN G->α->β->Prop}{ρ:aN G}{m:Mode}{a a':VI}{k:U->XH α}{k':U->XH β}(t:cP ρ a a')(h:∀v c,aq ρ v c->an P P' A ρ (k v) (k' c)):an P P' A ρ (.load m a k) (.load m a' k'):=λd e b l n o p q r s f g i j=>b t (λu w x=>h u w x d e b l n o p q r s f g i j)
def an.store{α β:Type}{P P':Vb}{A:aN G->α->β->Prop}{ρ:aN G}{m:Mode}{a a':VI}{v c:U}{k:XH α}{k':XH β}(t:cP ρ a a')(u:aq ρ v c)(h:an P P' A ρ k k'):an P P' A ρ (.store m a v k) (.store m a' c k'):=λd e l b n o p q r s f g i j=>b t u (h d e l b n o p q r s f g i j)
def an.new{α β:Type}{P P':Vb}{A:aN G->α->β->Prop}{ρ:aN G}{o o':Yk}{k:Nat->XH α}{k':Nat->XH β}(t:dG ρ o o')(h:∀r r' (s:RD ρ r r'),an P P' A (ρ.ext r r' s) (k r) (k' r')):an P P' A ρ (.new o k) (.new o' k'):=λb c i j a l m n p q d e f g=>a t (λu v w=>h u v w b c i j a l m n p q d e f g)
def an.shape{α β:Type}{P P':Vb}{A:aN G->α->β->Prop}{ρ:aN G}{r r':Nat}{k:Option (Vc×Nat)->XH α}{k':Option (Vc×Nat)->XH β}(q:ρ.f r=I r')(h:∀s,an P P' A ρ (k s) (k' s)):an P P' A ρ (.shape r k) (.shape r' k'):=λb c i j l a m n o p d e f g=>a q (λt=>h t b c i j l a m n o p d e f g)
def an.freeze{α β:Type}{P P':Vb}{A:aN G->α->β->Prop}{ρ:aN G}{a a':VI}{n:Nat}{k:XH α}{k':XH β}(s:cP ρ a a')(h:an P P' A ρ k k'):an P P' A ρ (.freeze a n k) (.freeze a' n k'):=λc d j l m o b p q r e f g i=>b s (h c d j l m o b p q r e f g i)
def an.frozen{α β:Type}{P P':Vb}{A:aN G->α->β->Prop}{ρ:aN G}{a a':VI}{k:Bool->XH α}{k':Bool->XH β}(s:cP ρ a a')(h:∀b,an P P' A ρ (k b) (k' b)):an P P' A ρ (.frozen a k) (.frozen a' k'):=λd e l m n o p c q r f g i j=>c s (λt=>h t d e l m n o p c q r f g i j)
def an.getObj{α β:Type}{P P':Vb}{A:aN G->α->β->Prop}{ρ:aN G}{r r':Nat}{k:Yk->XH α}{k':Yk->XH β}(s:ρ.f r=I r')(h:∀o o',dG ρ o o'->an P P' A ρ (k o) (k' o')):an P P' A ρ (.getObj r k) (.getObj r' k'):=λb c i j l m n p a q d e f g=>a s (λt u v=>h t u v b c i j l m n p a q d e f g)
def an.setObj{α β:Type}{P P':Vb}{A:aN G->α->β->Prop}{ρ:aN G}{r r':Nat}{o o':Yk}{k:XH α}{k':XH β}(t:ρ.f r=I r')(s:dG ρ o o')(h:an P P' A ρ k k'):an P P' A ρ (.setObj r o k) (.setObj r' o' k'):=λb c i j l m n p q a d e f g=>a t s (h b c i j l m n p q a d e f g)
def an.choose{α β:Type}{P P':Vb}{A:aN G->α->β->Prop}{ρ:aN G}{q:Question}{k:Nat->XH α}{k':Nat->XH β}(h:∀n,an P P' A ρ (k n) (k' n)):an P P' A ρ (.choose q k) (.choose q k'):=λb c g i j l m o p r a d e f=>a (λs=>h s b c g i j l m o p r a d e f)
def an.program{α β:Type}{P P':Vb}{A:aN G->α->β->Prop}{ρ:aN G}{k:Vb->XH α}{k':Vb->XH β}(h:an P P' A ρ (k P) (k' P')):an P P' A ρ (.program k) (.program k'):=λb c g i j l m n o p d a e f=>a (h b c g i j l m n o p d a e f)
def an.room{α β:Type}{P P':Vb}{A:aN G->α->β->Prop}{ρ:aN G}{k:XH α}{k':XH β}(h:an P P' A ρ k k'):an P P' A ρ (.mark .noRoom k) (.mark .noRoom k'):=λb c g i j l m n o p d e a f=>a (h b c g i j l m n o p d e a f)
def an.halt{α β:Type}{P P':Vb}{A:aN G->α->β->Prop}{ρ:aN G}{x a:Halt}(h:lP ρ x a):an P P' A ρ (.halt x) (.halt a):=λc d i j k l m n o p e f g b=>b h
def an.ind{α β:Type}{P P':Vb}{A:aN G->α->β->Prop}{d:∀(l:aN G) (p:XH α) (t:XH β),an P P' A l p t->Prop}(pure:∀{ρ:aN G} {a:α} {b:β} (h:A ρ a b),d ρ (.pure a) (.pure b) (an.pure h))(load:∀{ρ:aN G} {m:Mode} {a a':VI} {k:U->XH α} {k':U->XH β} (g:cP ρ a a') (h:∀v u,aq ρ v u->an P P' A ρ (k v) (k' u)),(∀c e f,d _ _ _ (h c e f))->d ρ (.load m a k) (.load m a' k') (an.load g h))(store:∀{ρ:aN G} {m:Mode} {a a':VI} {v u:U} {k:XH α} {k':XH β} (g:cP ρ a a') (w:aq ρ v u) (h:an P P' A ρ k k'),(d _ _ _ h)->d ρ (.store m a v k) (.store m a' u k') (an.store g w h))(new:∀{ρ:aN G} {o o':Yk} {k:Nat->XH α} {k':Nat->XH β} (j:dG ρ o o') (h:∀r r' (z:RD ρ r r'),an P P' A (ρ.ext r r' z) (k r) (k' r')),(∀c e f,d _ _ _ (h c e f))->d ρ (.new o k) (.new o' k') (an.new j h))(shape:∀{ρ:aN G} {r r':Nat} {k:Option (Vc×Nat)->XH α} {k':Option (Vc×Nat)->XH β} (i:ρ.f r=some r') (h:∀s,an P P' A ρ (k s) (k' s)),(∀c,d _ _ _ (h c))->d ρ (.shape r k) (.shape r' k') (an.shape i h))(freeze:∀{ρ:aN G} {a a':VI} {n:Nat} {k:XH α} {k':XH β} (g:cP ρ a a') (h:an P P' A ρ k k'),(d _ _ _ h)->d ρ (.freeze a n k) (.freeze a' n k') (an.freeze g h))(frozen:∀{ρ:aN G} {a a':VI} {k:Bool->XH α} {k':Bool->XH β} (g:cP ρ a a') (h:∀b,an P P' A ρ (k b) (k' b)),(∀c,d _ _ _ (h c))->d ρ (.frozen a k) (.frozen a' k') (an.frozen g h))(getObj:∀{ρ:aN G} {r r':Nat} {k:Yk->XH α} {k':Yk->XH β} (i:ρ.f r=some r') (h:∀o o',dG ρ o o'->an P P' A ρ (k o) (k' o')),(∀c e f,d _ _ _ (h c e f))->d ρ (.getObj r k) (.getObj r' k') (an.getObj i h))(setObj:∀{ρ:aN G} {r r':Nat} {o o':Yk} {k:XH α} {k':XH β} (i:ρ.f r=some r') (j:dG ρ o o') (h:an P P' A ρ k k'),(d _ _ _ h)->d ρ (.setObj r o k) (.setObj r' o' k') (an.setObj i j h))(choose:∀{ρ:aN G} {q:Question} {k:Nat->XH α} {k':Nat->XH β} (h:∀n,an P P' A ρ (k n) (k' n)),(∀c,d _ _ _ (h c))->d ρ (.choose q k) (.choose q k') (an.choose h))(program:∀{ρ:aN G} {k:Vb->XH α} {k':Vb->XH β} (h:an P P' A ρ (k P) (k' P')),(d _ _ _ h)->d ρ (.program k) (.program k') (an.program h))(room:∀{ρ:aN G} {k:XH α} {k':XH β} (h:an P P' A ρ k k'),(d _ _ _ h)->d ρ (.mark .noRoom k) (.mark .noRoom k') (an.room h))(halt:∀{ρ:aN G} {x y:Halt} (h:lP ρ x y),d ρ (.halt x) (.halt y) (an.halt h)){l:aN G}{p:XH α}{t:XH β}(h:an P P' A l p t):d l p t h:=(h (λl p t=>an P P' A l p t/\∀h,d l p t h) (λh=>⟨an.pure h,λ_=>pure h⟩) (λg h=>⟨an.load g (λc e f=>(h c e f).1),λ_=>load g (λc e f=>(h c e f).1) (λc e f=>(h c e f).2 _)⟩) (λg w h=>⟨an.store g w h.1,λ_=>store g w h.1 (h.2 _)⟩) (λj h=>⟨an.new j (λc e f=>(h c e f).1),λ_=>new j (λc e f=>(h c e f).1) (λc e f=>(h c e f).2 _)⟩) (λi h=>⟨an.shape i (λc=>(h c).1),λ_=>shape i (λc=>(h c).1) (λc=>(h c).2 _)⟩) (λg h=>⟨an.freeze g h.1,λ_=>freeze g h.1 (h.2 _)⟩) (λg h=>⟨an.frozen g (λc=>(h c).1),λ_=>frozen g (λc=>(h c).1) (λc=>(h c).2 _)⟩) (λi h=>⟨an.getObj i (λc e f=>(h c e f).1),λ_=>getObj i (λc e f=>(h c e f).1) (λc e f=>(h c e f).2 _)⟩) (λi j h=>⟨an.setObj i j h.1,λ_=>setObj i j h.1 (h.2 _)⟩) (λh=>⟨an.choose (λc=>(h c).1),λ_=>choose (λc=>(h c).1) (λc=>(h c).2 _)⟩) (λh=>⟨an.program h.1,λ_=>program h.1 (h.2 _)⟩) (λh=>⟨an.room h.1,λ_=>room h.1 (h.2 _)⟩) (λh=>⟨an.halt h,λ_=>halt h⟩)).2 h
section
variable {P P':Vb}{α β γ δ:Type}{A:aN G->α->β->Prop}{B:aN G->γ->δ->Prop}
def an.bind{ρ:aN G}{s:XH α}{s':XH β}{f:α->XH γ}{f':β->XH δ}(h:an P P' A ρ s s')(d:∀ σ a b,ρ.le σ->A σ a b->an P P' B σ (f a) (f' b)):an P P' B ρ (s.bind f) (s'.bind f'):=by
 induction h using an.ind with
 |pure h=>exact d _ _ _ (aN.le.refl _) h
 |load g _ c=>exact .load g (λv r j=>c v r j d)
 |store g j _ c=>exact .store g j (c d)
 |new i _ c=>exact .new i (λp q e=>c p q e (λσ a b l k=>d σ a b ((aN.M3 e).trans l) k))
 |shape e _ c=>exact .shape e (λs=>c s d)
 |freeze g _ c=>exact .freeze g (c d)
 |frozen g _ c=>exact .frozen g (λb=>c b d)
 |getObj e _ c=>exact .getObj e (λn o i=>c n o i d)
 |setObj e i _ c=>exact .setObj e i (c d)
 |choose _ c=>exact .choose (λm=>c m d)
 |program _ c=>exact .program (c d)
 |room _ c=>exact .room (c d)
 |halt h=>exact .halt h
end
def kr (σ:aN G)(e:Wm):Prop:=match e.loc with
 | .cell b=>∃a,σ.f a=I b.block
 | .obj c=>∃a,σ.f a=I c
 | .mark .noRoom=>True
 |_=>False
def kr.mono{ρ σ:aN G}(c:ρ.le σ){e:Wm}(h:kr ρ e):kr σ e:=by
 unfold kr at*
 split<;>simp_all
 ·obtain⟨a,b⟩:=h;exact⟨a,c _ _ b⟩
 ·obtain⟨a,b⟩:=h;exact⟨a,c _ _ b⟩
structure Fr(ρ σ:aN G)(w w1:F):Prop where
 le:ρ.le σ
 os:w1.os=w.os
 output:w1.output=w.output
 tape:w1.tape=w.tape
 drawn:w.drawn<=w1.drawn
 size:w.heap.size<=w1.heap.size
 keep:∀b',(∀b,σ.f b≠I b')->b'<w.heap.size->w1.heap[b']? =w.heap[b']?
 fresh:∀b b',σ.f b=I b'->ρ.f b=I b'\/w.heap.size<=b'
 all:∀b',w.heap.size<=b'->b'<w1.heap.size->∃b,σ.f b=I b'
def Fr.refl(ρ:aN G)(w:F):Fr ρ ρ w w:=⟨aN.le.refl _,rfl,rfl,rfl,U7 _,U7 _,λ_ _ _=>rfl,λ_ _ a=>.inl a,λ_ c b=>absurd b (by omega)⟩
def Fr.trans{ρ σ k:aN G}{w g j:F}(h:Fr ρ σ w g)(a:Fr σ k g j):Fr ρ k w j:=
 ⟨h.le.trans a.le,a.os.trans h.os,a.output.trans h.output,a.tape.trans h.tape,Vm h.drawn a.drawn,Vm h.size a.size,
  λb d i=>(a.keep b d (U9 i h.size)).trans (h.keep b (λc l=>d c (a.le _ _ l)) i),
  λc b d=>by
   rcases a.fresh c b d with e|e
   ·exact h.fresh c b e
   ·exact .inr (Vm h.size e),
  λb e m=>by
   rcases WG b g.heap.size with f|f
   ·obtain⟨c,d⟩:=h.all b e f;exact⟨c,a.le _ _ d⟩
   ·exact a.all b f m⟩
def Result.drawn{α:Type}:YX α->Nat
 | .ok _ a=>a.drawn
 | .halt _ a=>a.drawn
def JV{α:Type}(a:Ask α):∀w:F,w.drawn<=(w.ask a).2.drawn:=by
 induction a with
 |done a=>intro w;exact U7 _
 |ask e d c b=>
  intro w;unfold World.ask;dsimp only
  split
  ·exact b _ w
  ·exact Vm (Nat.le_succ _) (b _ {w with drawn:=w.drawn+1})
def LJ(w:F)(c:Sys):w.drawn<=(w.sys c).2.drawn:=by
 have a:=JV (Kernel.perform c w.os) w;unfold World.sys;generalize w.ask (Kernel.perform c w.os)=d at a;obtain⟨⟨b,e⟩,f⟩:=d;cases b<;>first|exact a|exact U7 _
def IM{P:Vb}{w c:F}{a k:VI}{u:Vc}{v:U}{b:Bool}{l:List VI}(h:w.viewStore P a u k v b= .ok (c,l)):c.drawn=w.drawn:=by
 unfold World.viewStore at h;simp only[bind,Except.bind,pure,Except.pure,throw,throwThe,ZG] at h
 repeat' split at h
 all_goals first
  |(cases h;rfl)
  |(cases h;done)
  |(simp at h;done)
def Kn{P:Vb}{w c:F}{a:VI}{v:U}{b:Bool}{l:List VI}(h:w.farStore P a v b= .ok (c,l)):c.drawn=w.drawn:=by
 unfold YD at h
 split at h
 ·split at h
  ·rename_i d;cases h;exact IM d
  ·cases h
 ·cases h
def Lk{α:Type}(P:Vb)(s:XH α):∀(w:F) (es:Array Wm),w.drawn<=Result.drawn (s.runT P w es).1:=by
 induction s with
 |pure c=>intro w es;exact U7 _
 |load m c b a=>
  intro w es;simp only[V2]
  split
  ·exact a _ w _
  ·split
   ·exact a _ w _
   ·exact U7 _
 |store m c v b a=>
  intro w es;have k:∀d:F,d.drawn=w.drawn->w.drawn<=Result.drawn (b.runT P d es).1:=λd h=>by rw[<-h];exact a d _
  cases v<;>simp only[V2]<;>first|exact U7 _|skip
  all_goals
   split
   ·split
    ·exact U7 _
    ·exact a (w.setCell c _) _
   ·split
    ·rename_i i;have:=Kn i;rw[<-this];exact a _ _
    ·exact U7 _
 |new e b a=>intro w es;simp only[V2];exact a _ {w with heap:=w.heap.push e} _
 |shape f b a=>intro w es;simp only[V2];exact a _ w _
 |freeze c j b a=>intro w es;simp only[V2];exact Vm (by unfold WR;split<;>exact U7 _) (a (w.freeze c j) _)
 |frozen c b a=>intro w es;simp only[V2];exact a _ w _
 |getObj f b a=>intro w es;simp only[V2];split<;>first|exact U7 _|exact a _ w _
 |setObj f e b a=>intro w es;simp only[V2];split<;>first|exact U7 _|exact a {w with heap:=w.heap.setIfInBounds f e} _
 |choose l b a=>
  intro w es;simp only[V2]
  split
  ·exact a _ w _
  ·exact Vm (Nat.le_succ _) (a _ {w with drawn:=w.drawn+1} _)
 |sys g b a=>intro w es;simp only[V2];exact Vm (LJ w g) (a _ (w.sys g).2 _)
 |program b a=>intro w es;simp only[V2];exact a _ w _
 |mark m b a=>intro w es;simp only[V2];exact a w _
 |halt h=>intro w es;exact U7 _
def jq (es:Array Wm):Prop:=∀a∈es,a.loc≠.output
def jq.push{es:Array Wm}(h:jq es){e:Wm}(b:e.loc≠.output):jq (es.push e):=λc a=>by
 rcases Array.mem_push.1 a with a|rfl
 ·exact h c a
 ·exact b
def fM {α β:Type}(A:aN G->α->β->Prop)(ρ:aN G)(t:Nat)(w':F)(v:YX α×Array Wm)(w:YX β×Array Wm):Prop:=∀e:YX α×Array Wm->YX β×Array Wm->Prop,(∀{b:aN G} {g:Nat} {f:α} {j:β} {a d:F} {c h:Array Wm} (p:A b f j) (s:eJ b g a d) (r:Fr ρ b w' d) (q:∀l∈h,kr b l) (n:a.drawn+g=t) (m:jq c),e (.ok f a,c) (.ok j d,h))->(∀{b:aN G} {g:Nat} {i k:Halt} {a d:F} {c h:Array Wm} (u:lP b i k) (s:eJ b g a d) (r:Fr ρ b w' d) (q:∀l∈h,kr b l) (n:a.drawn+g=t) (m:jq c),e (.halt i a,c) (.halt k d,h))->(∀{b:aN G} {f:α} {j:β} {a:F} {c:Array Wm} {o:YX β×Array Wm} (p:A b f j) (n:t<a.drawn) (m:jq c),e (.ok f a,c) o)->(∀{b:aN G} {i k:Halt} {a:F} {c:Array Wm} {o:YX β×Array Wm} (u:lP b i k) (n:t<a.drawn) (m:jq c),e (.halt i a,c) o)->e v w
def fM.ok{α β:Type}{A:aN G->α->β->Prop}{ρ:aN G}{t:Nat}{w':F}{σ:aN G}{b1:Nat}{a:α}{b:β}{c w1':F}{es d:Array Wm}(g:A σ a b)(l:eJ σ b1 c w1')(i:Fr ρ σ w' w1')(h:∀e∈d,kr σ e)(k:c.drawn+b1=t)(j:jq es):fM A ρ t w' (.ok a c,es) (.ok b w1',d):=λm f n o p=>f g l i h k j
def fM.halt{α β:Type}{A:aN G->α->β->Prop}{ρ:aN G}{t:Nat}{w':F}{σ:aN G}{b1:Nat}{x c:Halt}{a w1':F}{es b:Array Wm}(k:lP σ x c)(j:eJ σ b1 a w1')(g:Fr ρ σ w' w1')(f:∀e∈b,kr σ e)(i:a.drawn+b1=t)(h:jq es):fM A ρ t w' (.halt x a,es) (.halt c w1',b):=λl m d n o=>d k j g f i h
def fM.over{α β:Type}{A:aN G->α->β->Prop}{ρ:aN G}{t:Nat}{w':F}{σ:aN G}{a:α}{b:β}{c:F}{es:Array Wm}{r:YX β×Array Wm}(e:A σ a b)(g:t<c.drawn)(f:jq es):fM A ρ t w' (.ok a c,es) r:=λh i j d k=>d e g f
def fM.oN{α β:Type}{A:aN G->α->β->Prop}{ρ:aN G}{t:Nat}{w':F}{σ:aN G}{x f:Halt}{a:F}{es:Array Wm}{r:YX β×Array Wm}(e:lP σ x f)(d:t<a.drawn)(c:jq es):fM A ρ t w' (.halt x a,es) r:=λg h i j b=>b e d c
def fM.ind{α β:Type}{A:aN G->α->β->Prop}{ρ:aN G}{t:Nat}{w':F}{o:∀(m:YX α×Array Wm) (n:YX β×Array Wm),fM A ρ t w' m n->Prop}(ok:∀{σ:aN G} {b1:Nat} {a:α} {b:β} {f w1':F} {es p:Array Wm} (g:A σ a b) (k:eJ σ b1 f w1') (j:Fr ρ σ w' w1') (i:∀e∈p,kr σ e) (d:f.drawn+b1=t) (c:jq es),o (.ok a f,es) (.ok b w1',p) (fM.ok g k j i d c))(halt:∀{σ:aN G} {b1:Nat} {x q:Halt} {f w1':F} {es p:Array Wm} (l:lP σ x q) (k:eJ σ b1 f w1') (j:Fr ρ σ w' w1') (i:∀e∈p,kr σ e) (d:f.drawn+b1=t) (c:jq es),o (.halt x f,es) (.halt q w1',p) (fM.halt l k j i d c))(over:∀{σ:aN G} {a:α} {b:β} {f:F} {es:Array Wm} {r:YX β×Array Wm} (g:A σ a b) (d:t<f.drawn) (c:jq es),o (.ok a f,es) r (fM.over g d c))(oN:∀{σ:aN G} {x q:Halt} {f:F} {es:Array Wm} {r:YX β×Array Wm} (l:lP σ x q) (d:t<f.drawn) (c:jq es),o (.halt x f,es) r (fM.oN l d c)){m:YX α×Array Wm}{n:YX β×Array Wm}(h:fM A ρ t w' m n):o m n h:=(h (λm n=>fM A ρ t w' m n/\∀h,o m n h) (λg k j i d c=>⟨fM.ok g k j i d c,λ_=>ok g k j i d c⟩) (λl k j i d c=>⟨fM.halt l k j i d c,λ_=>halt l k j i d c⟩) (λg d c=>⟨fM.over g d c,λ_=>over g d c⟩) (λl d c=>⟨fM.oN l d c,λ_=>oN l d c⟩)).2 h
def fM.after{α β:Type}{A:aN G->α->β->Prop}{ρ σ:aN G}{t:Nat}{w' w1':F}{r:YX α×Array Wm}{r':YX β×Array Wm}(i:Fr ρ σ w' w1')(h:fM A σ t w1' r r'):fM A ρ t w' r r':=by
 cases h using fM.ind with
 |ok c f e d b a=>exact .ok c f (i.trans e) d b a
 |halt g f e d b a=>exact .halt g f (i.trans e) d b a
 |over c b a=>exact .over c b a
 |oN g b a=>exact .oN g b a
def fM.left{α β:Type}{A:aN G->α->β->Prop}{ρ l:aN G}{t e:Nat}{w' k:F}{r:YX α×Array Wm}{r' j:YX β×Array Wm}(h:fM A ρ t w' r r')(b:e<Result.drawn r.1):fM A l e k r j:=by
 cases h using fM.ind with
 |ok c i g f _ a=>exact .over c b a
 |halt d i g f _ a=>exact .oN d b a
 |over c _ a=>exact .over c b a
 |oN d _ a=>exact .oN d b a
def eJ.lt{ρ:aN G}{w w':F}(h:eJ ρ bu w w'){b b':Nat}(d:ρ.f b=I b'):b<w.heap.size/\b'<w'.heap.size:=by
 obtain⟨e,f,a,c,-⟩:=h.at_ b b' d;exact⟨(U4.1 a).1,(U4.1 c).1⟩
structure Rh(w W:F)(b:Nat)(o:Yk):Prop where
 at_:W.heap[b]? =I o
 other:∀c,c≠b->W.heap[c]? =w.heap[c]?
 size:W.heap.size=w.heap.size
 tape:W.tape=w.tape
 drawn:W.drawn=w.drawn
 os:W.os=w.os
 output:W.output=w.output
def eJ.upd{ρ:aN G}{w w' i W':F}(h:eJ ρ bu w w'){b b':Nat}(j:ρ.f b=I b'){o o':Yk}(r:dG ρ o o')(c:Rh w i b o)(d:Rh w' W' b' o'):eJ ρ bu i W':=by
 refine⟨by rw[c.size];exact h.gl,by rw[d.size];exact h.gr,λe a f=>?_,λs v q=>by rw[c.tape,c.drawn,d.tape,d.drawn];exact h.tape s v q⟩;by_cases g:e=b
 ·subst g;have:a=b':=by rw[j] at f;cases f;rfl
  subst this;exact⟨o,o',c.at_,d.at_,r⟩
 ·have k:a≠b':=λl=>g (ρ.inj e b a f (by rw[l];exact j));obtain⟨t,u,m,n,p⟩:=h.at_ e a f;exact⟨t,u,(c.other e g).trans m,(d.other a k).trans n,p⟩
def Rh.fr{ρ:aN G}{w' W':F}{b b':Nat}(e:ρ.f b=I b'){o':Yk}(h:Rh w' W' b' o'):Fr ρ ρ w' W':=
 ⟨aN.le.refl _,h.os,h.output,h.tape,by rw[h.drawn];exact U7 _,by rw[h.size];exact U7 _,λa f _=>h.other a (λc=>f b (by rw[c];exact e)),λ_ _ h=>.inl h,λ_ g d=>absurd d (by rw[h.size];omega)⟩
def wN{w:F}{a:VI}{c:Array U}{t:Vc}{b:Nat×Nat}(h:w.heap[a.block]? =I (.cells c t b))(v:U):Rh w (w.setCell a v) a.block (.cells (if a.spot.isSome then c else c.setIfInBounds a.off v) t b):=by
 refine⟨?_,λc d=>?_,by simp[Za],rfl,rfl,rfl,rfl⟩
 ·simp[Za,WT,h]
 ·simp[Za,WT,Ne.symm d]
def Ab{w:F}{a:VI}{n:Nat}(b:n≠0){c:Array U}{t:Vc}{d:Nat×Nat}(h:w.heap[a.block]? =I (.cells c t d)):Rh w (w.freeze a n) a.block (.cells c t (if d.1==d.2 then(a.off,a.off+n) else(min d.1 a.off,max d.2 (a.off+n)))):=by
 obtain⟨g,f⟩:=d;refine⟨?_,λc e=>?_,by simp[WR,b],by simp[WR,b],by simp[WR,b],by simp[WR,b],by simp[WR,b]⟩
 ·simp[WR,b,WT,h]
 ·simp[WR,b,WT,Ne.symm e]
def iQ{w:F}{a:VI}{n:Nat}(b:n≠0){o:Yk}(h:w.heap[a.block]? =I o)(f:∀c t d,o≠.cells c t d):Rh w (w.freeze a n) a.block o:=by
 refine⟨?_,λc e=>?_,by simp[WR,b],by simp[WR,b],by simp[WR,b],by simp[WR,b],by simp[WR,b]⟩
 ·simp only[WR,b,if_false,WT,h];cases o<;>first|rfl|exact absurd rfl (f _ _ _)
 ·simp[WR,b,WT,Ne.symm e]
def Ac{w:F}{r:Nat}(o:Yk)(h:r<w.heap.size):Rh w {w with heap:=w.heap.setIfInBounds r o} r o:=
 ⟨by simp[VE,h],λb a=>by simp[WY (Ne.symm a)],by simp,rfl,rfl,rfl,rfl⟩
def oC {ρ:aN G} {w w':F} (h:eJ ρ bu w w') {a a':VI} (n:cP ρ a a'):(w.cell? a=K/\w'.cell? a'=K/\(∀P b,w.farLoad P a b= .error (.stuck "load: no such cell"))/\(∀P b,w'.farLoad P a' b= .error (.stuck "load: no such cell"))/\(∀P v b,w.farStore P a v b= .error (.stuck "store: no such cell"))/\(∀P v b,w'.farStore P a' v b= .error (.stuck "store: no such cell")))\/
 ∃c i t j v k,w.heap[a.block]? =I (.cells c t j)/\w'.heap[a'.block]? =I (.cells i t j)/\aW ρ c i/\w.cell? a=I v/\w'.cell? a'=I k/\aq ρ v k:=by
 obtain⟨s,u,d,e,r⟩:=h.at_ _ _ n.1;have o:=n.2.1;have f:=n.2.2;cases r using dG.ind with
 |cells p t j=>
  rename_i c i;cases g:a.spot with
  |some x=>
   rw[g] at f;exact .inl ⟨by simp[Ve,d,g],by simp[Ve,e,<-f],λP b=>by simp[Y9,X7,d],λP b=>by simp[Y9,X7,e],λP v b=>by simp[YD,X7,d],λP v b=>by simp[YD,X7,e]⟩
  |none=>
   rw[g] at f;rcases p.get a.off with⟨l,m⟩|⟨v,k,l,m,q⟩
   ·exact .inl ⟨by simp[Ve,d,g,l],by simp[Ve,e,<-f,<-o,m],λP b=>by simp[Y9,X7,d],λP b=>by simp[Y9,X7,e],λP v b=>by simp[YD,X7,d],λP v b=>by simp[YD,X7,e]⟩
   ·exact .inr ⟨c,i,t,j,v,k,d,e,p,by simp[Ve,d,g,l],by simp[Ve,e,<-f,<-o,m],q⟩
 |_=>exact .inl ⟨by simp[Ve,d],by simp[Ve,e],λP b=>by simp[Y9,X7,d],λP b=>by simp[Y9,X7,e],λP v b=>by simp[YD,X7,d],λP v b=>by simp[YD,X7,e]⟩
def yB{ρ:aN G}{w w':F}(h:eJ ρ bu w w'){a a':VI}(d:cP ρ a a'):w.frozen? a=w'.frozen? a':=by
 obtain⟨j,k,b,c,f⟩:=h.at_ _ _ d.1;have e:=d.2.1;cases f using dG.ind with
 |cells i l g=>simp[VW,b,c,e]
 |_=>simp[VW,b,c]
def Ly{ρ:aN G}{w w':F}(h:eJ ρ bu w w'){r r':Nat}(e:ρ.f r=I r'):w.shape? r=w'.shape? r':=by
 obtain⟨g,i,a,b,c⟩:=h.at_ _ _ e;cases c using dG.ind with
 |cells d j f=>simp[World.shape?,a,b,d.1]
 |_=>simp[World.shape?,a,b]
def eJ.fresh{ρ:aN G}{w w':F}(h:eJ ρ bu w w'):RD ρ w.heap.size w'.heap.size:=by
 refine⟨?_,λc a=>?_,h.gl,h.gr⟩
 ·cases b:ρ.f w.heap.size with
  |none=>rfl
  |some d=>have:=(h.lt b).1;omega
 ·have:=(h.lt a).2;omega
def eJ.new{ρ:aN G}{w w':F}(h:eJ ρ bu w w'){o o':Yk}(j:dG ρ o o'):eJ (ρ.ext w.heap.size w'.heap.size h.fresh) bu {w with heap:=w.heap.push o} {w' with heap:=w'.heap.push o'}/\Fr ρ (ρ.ext w.heap.size w'.heap.size h.fresh) w' {w' with heap:=w'.heap.push o'}:=by
 have e:=aN.M3 h.fresh;refine⟨⟨by have:=h.gl;simp;omega,by have:=h.gr;simp;omega,λf b a=>?_,h.tape⟩,⟨e,rfl,rfl,rfl,U7 _,by simp,λb a k=>by simp[VF,Nat.ne_of_lt k],λf b a=>?_,λb g d=>⟨w.heap.size,by
  have c:b=w'.heap.size:=by simp at d;omega
  rw[c];exact aN.xA _ _ _ _⟩⟩⟩
 ·unfold aN.ext at a;dsimp only at a
  split at a
  ·rename_i c;cases a;subst c;exact⟨o,o',by simp,by simp,j.mono e⟩
  ·obtain⟨l,m,g,d,i⟩:=h.at_ f b a;have:=h.lt a;exact⟨l,m,by simp[VF,Nat.ne_of_lt this.1];simpa using g,by simp[VF,Nat.ne_of_lt this.2];simpa using d,i.mono e⟩
 ·unfold aN.ext at a;dsimp only at a
  split at a
  ·cases a;exact .inr (U7 _)
  ·exact .inl a
def mS{σ:aN G}{es:Array Wm}(h:∀e∈es,kr σ e){e:Wm}(b:kr σ e):∀x∈es.push e,kr σ x:=λx a=>by
 rcases Array.mem_push.1 a with a|rfl
 ·exact h x a
 ·exact b
def an.runs{P P':Vb}{α β:Type}{A:aN G->α->β->Prop}{ρ:aN G}{s:XH α}{s':XH β}(h:an P P' A ρ s s'):∀(w w':F) (es g:Array Wm) (bu:Nat),eJ ρ bu w w'->(∀e∈g,kr ρ e)->jq es->fM A ρ (w.drawn+bu) w' (s.runT P w es) (s'.runT P' w' g):=by
 induction h using an.ind with
 |pure h=>intro w w' es g bu a b c;exact .ok h a (Fr.refl _ _) b Y c
 |load i _ d=>
  intro w w' es g bu a b c;rcases oC a i with⟨j,f,o,R,-⟩|⟨D,O,r,t,v,n,-,-,-,j,f,o⟩
  ·simp only[V2,j,f,o,R];exact .halt (.same _ Y) a (Fr.refl _ _) b Y c
  ·simp only[V2,j,f];exact d v n o w w' _ _ _ a (mS b ⟨_,i.1⟩) (c.push (by simp))
 |store i ao _ d=>
  intro w w' es g bu a b c;rename_i ρ m k y v n q C _;have V:(∀x,v≠.agg x)->(∀x,v≠.tuple x)->(∀x,n≠.agg x)->(∀x,n≠.tuple x)->fM A ρ (w.drawn+bu) w' ((Sem.store m k v q).runT P w es) ((Sem.store m y n C).runT P' w' g):=by
   intro a5 a6 a7 a8;have ae:=yB a i;rcases oC a i with⟨j,f,-,-,o,R⟩|⟨D,O,r,t,bd,be,au,aw,ab,j,f,o⟩
   ·have I:(Sem.store m k v q).runT P w es=(.halt (.stuck "store: no such cell") w,es):=by cases v<;>first|exact absurd Y (a5 _)|exact absurd Y (a6 _)|simp only[V2,j,o]
    have J:(Sem.store m y n C).runT P' w' g=(.halt (.stuck "store: no such cell") w',g):=by cases n<;>first|exact absurd Y (a7 _)|exact absurd Y (a8 _)|simp only[V2,f,R]
    rw[I,J];exact .halt (.same _ Y) a (Fr.refl _ _) b Y c
   ·cases ar:w.frozen? k with
    |true=>
     rw[ar] at ae;have I:(Sem.store m k v q).runT P w es=(.halt (.unsupported (.unsafePointer "a write to bytes that a string shares")) w,es):=by cases v<;>simp_all [V2]
     have J:(Sem.store m y n C).runT P' w' g=(.halt (.unsupported (.unsafePointer "a write to bytes that a string shares")) w',g):=by cases n<;>simp_all [V2]
     rw[I,J];exact .halt (.same _ Y) a (Fr.refl _ _) b Y c
    |false=>
     rw[ar] at ae;have I:(Sem.store m k v q).runT P w es=q.runT P (w.setCell k v) (es.push ⟨.cell k,Z,m == .atomic⟩):=by cases v<;>simp_all [V2]
     have J:(Sem.store m y n C).runT P' w' g=C.runT P' (w'.setCell y n) (g.push ⟨.cell y,Z,m == .atomic⟩):=by cases n<;>simp_all [V2]
     rw[I,J];have L:dG ρ (.cells (if k.spot.isSome then D else D.setIfInBounds k.off v) r t) (.cells (if y.spot.isSome then O else O.setIfInBounds y.off n) r t):=by
      rw[<-i.2.1,<-i.2.2];refine .cells ?_ r t
      split
      ·exact ab
      ·exact ab.set ao _
     have z:=wN aw n;exact fM.after (z.fr i.1) (d _ _ _ _ _ (a.upd i.1 L (wN au v) z) (mS b ⟨_,i.1⟩) (c.push (by simp)))
  cases ao using aq.ind with
  |agg a2 a3=>simp only[V2];exact .halt (.same _ Y) a (Fr.refl _ _) b Y c
  |tuple a2 a3=>simp only[V2];exact .halt (.same _ Y) a (Fr.refl _ _) b Y c
  |_=>exact V (by simp) (by simp) (by simp) (by simp)
 |new T _ d=>
  intro w w' es g bu a b c;obtain⟨j,f⟩:=a.new T;simp only[V2];exact fM.after f (d _ _ a.fresh _ _ _ _ _ j (λe a1=>(b e a1).mono f.le) c)
 |shape l _ d=>
  intro w w' es g bu a b c;simp only[V2];rw[Ly a l];exact d _ w w' _ _ _ a b c
 |freeze i _ d=>
  intro w w' es g bu a b c;rename_i ρ k y H q C _;simp only[V2];by_cases p:H=0
  ·subst p;simp only[WR,if_pos];exact d w w' _ _ _ a b c
  ·obtain⟨X,aa,j,f,o⟩:=a.at_ _ _ i.1;have a0:w.drawn=(w.freeze k H).drawn:=by unfold WR;split<;>rfl
   rw[a0];cases o using dG.ind with
   |cells S r t=>
    have z:=Ab (n:=H) p f;have L:dG ρ _ _:=.cells S r (if t.1==t.2 then(k.off,k.off+H) else(min t.1 k.off,max t.2 (k.off+H)));have am:=Ab (n:=H) p j;rw[i.2.1] at am L;exact fM.after (z.fr i.1) (d _ _ _ _ _ (a.upd i.1 L am z) b c)
   |map U K a4=>exact fM.after ((iQ p f (λ_ _ _ e=>by cases e)).fr i.1) (d _ _ _ _ _ (a.upd i.1 (.map U K a4) (iQ p j (λ_ _ _ e=>by cases e)) (iQ p f (λ_ _ _ e=>by cases e))) b c)
   |chan D E Q s N r=>exact fM.after ((iQ p f (λ_ _ _ e=>by cases e)).fr i.1) (d _ _ _ _ _ (a.upd i.1 (.chan D E Q s N r) (iQ p j (λ_ _ _ e=>by cases e)) (iQ p f (λ_ _ _ e=>by cases e))) b c)
   |number E W=>exact fM.after ((iQ p f (λ_ _ _ e=>by cases e)).fr i.1) (d _ _ _ _ _ (a.upd i.1 (.number E W) (iQ p j (λ_ _ _ e=>by cases e)) (iQ p f (λ_ _ _ e=>by cases e))) b c)
 |frozen i _ d=>
  intro w w' es g bu a b c;simp only[V2];rw[yB a i];exact d _ w w' _ _ _ a b c
 |getObj l _ d=>
  intro w w' es g bu a b c;obtain⟨X,aa,j,f,o⟩:=a.at_ _ _ l;cases o using dG.ind with
  |cells S r t=>
   simp only[V2,j,f];exact .halt (.same _ Y) a (Fr.refl _ _) b Y c
  |map U K q=>
   simp only[V2,j,f];exact d _ _ (.map U K q) w w' _ _ _ a (mS b ⟨_,l⟩) (c.push (by simp))
  |chan D E Q s N r=>
   simp only[V2,j,f];exact d _ _ (.chan D E Q s N r) w w' _ _ _ a (mS b ⟨_,l⟩) (c.push (by simp))
  |number E W=>
   simp only[V2,j,f];exact d _ _ (.number E W) w w' _ _ _ a (mS b ⟨_,l⟩) (c.push (by simp))
 |setObj l T _ d=>
  intro w w' es g bu a b c;rename_i ρ N bc X aa q C _;obtain⟨ba,bb,j,f,o⟩:=a.at_ _ _ l;cases o using dG.ind with
  |cells S r t=>
   simp only[V2,j,f];exact .halt (.same _ Y) a (Fr.refl _ _) b Y c
  |_=>
   simp only[V2,j,f];have al:=a.lt l;have z:=Ac (w:=w') aa al.2;exact fM.after (z.fr l) (d _ _ _ _ _ (a.upd l T (Ac X al.1) z) (mS b ⟨_,l⟩) (c.push (by simp)))
 |choose _ d=>
  intro w w' es g bu a b c;rename_i ρ u q C _;simp only[V2]
  split
  ·exact d 0 w w' _ _ _ a b c
  ·cases bu with
   |zero=>
    have K:=Lk P (q (u.cut (w.tape w.drawn u))) {w with drawn:=w.drawn+1} es;have l:=d (u.cut (w.tape w.drawn u)) {w with drawn:=w.drawn+1} {w' with tape:=λM x=>w.tape (w.drawn+1+(M-w'.drawn)) x} es g (Result.drawn ((q (u.cut (w.tape w.drawn u))).runT P {w with drawn:=w.drawn+1} es).1) ⟨a.gl,a.gr,a.at_,λM x _=>by simp⟩ b c;exact l.left K
   |succ bu=>
    have ad:=a.tape 0 u (by omega);simp only[Nat.add_zero] at ad;rw[ad];have V:=d (u.cut (w'.tape w'.drawn u)) {w with drawn:=w.drawn+1} {w' with drawn:=w'.drawn+1} es g bu ⟨a.gl,a.gr,a.at_,λM u a9=>by
     have:=a.tape (1+M) u (by omega);simpa [Wc] using this⟩ b c
    have e:w.drawn+(bu+1)=w.drawn+1+bu:=by omega
    rw[e];exact fM.after (σ:=ρ) (w1':={w' with drawn:=w'.drawn+1}) ⟨aN.le.refl _,rfl,rfl,rfl,by simp,U7 _,λ_ _ _=>rfl,λ_ _ h=>.inl h,λ_ j f=>absurd f (by simp;omega)⟩ V
 |program _ d=>intro w w' es g bu a b c;simp only[V2];exact d w w' _ _ _ a b c
 |room _ d=>intro w w' es g bu a b c;simp only[V2];exact d w w' _ _ _ a (mS b trivial) (c.push (by simp))
 |halt h=>intro w w' es g bu a b c;exact .halt h a (Fr.refl _ _) b Y c
end
section
variable {G:mG}
structure wS(P P':Vb):Prop where
 info:∀t,P'.info? t=P.info? t
 rP:∀t,P'.underlying t=P.underlying t
 rt:P'.rt=P.rt
 zero:∀t i v,P.info? t=I i->i.zero=I v->∀(G:mG) (ρ:aN G),aq ρ v v
def ja (ρ:aN G)(e:List U)(f:List U):Prop:=∀a:List U->List U->Prop,(a [] [])->(∀{v d:U} {b c:List U} (g:aq ρ v d) (h:a b c),a (v::b) (d::c))->a e f
def ja.nil{ρ:aN G}:ja ρ [] []:=λb a c=>a
def ja.cons{ρ:aN G}{v c:U}{l b:List U}(h:aq ρ v c)(f:ja ρ l b):ja ρ (v::l) (c::b):=λd e a=>a h (f d e a)
def ja.ind{ρ:aN G}{d:∀(a:List U) (b:List U),ja ρ a b->Prop}(nil:d _ _ (ja.nil))(cons:∀{v f:U} {l e:List U} (h:aq ρ v f) (c:ja ρ l e),(d _ _ c)->d _ _ (ja.cons h c)){a:List U}{b:List U}(h:ja ρ a b):d a b h:=(h (λa b=>ja ρ a b/\∀h,d a b h) (⟨ja.nil,λ_=>nil⟩) (λh c=>⟨ja.cons h c.1,λ_=>cons h c.1 (c.2 _)⟩)).2 h
theorem Ji{ρ:aN G}:∀(l a:List U),l.length=a.length->(∀i (h:i<l.length) (e:i<a.length),aq ρ l[i] a[i])->ja ρ l a
 | [],[],_,_=>.nil
 | [],_::_,h,_=>by simp at h
 |_::_,[],h,_=>by simp at h
 |v::l,f::a,h,b=>.cons (b 0 (by simp) (by simp)) (Ji l a (by simpa using h) (λi c d=>b (i+1) (by simpa using c) (by simpa using d)))
def aW.toList{ρ:aN G}{x a:Array U}(h:aW ρ x a):ja ρ x.toList a.toList:=
 Ji _ _ (by simpa using h.1) (λd b c=>by simpa using h.2 d (by simpa using b) (by simpa using c))
def ja.toArray{ρ:aN G}{l c:List U}(h:ja ρ l c):aW ρ l.toArray c.toArray:=by
 induction h using ja.ind with
 |nil=>exact aW.nil _
 |cons f _ b=>
  refine⟨by simpa using b.1,λa d e=>?_⟩;cases a with
  |zero=>exact f
  |succ a=>exact b.2 a (by simpa using d) (by simpa using e)
def iX {α:Type}(_:aN G)(a b:α):Prop:=a=b
section
variable {P P':Vb}{α β γ δ:Type}{A:aN G->α->β->Prop}{B:aN G->γ->δ->Prop}{ρ:aN G}
def an.bindM{s:XH α}{s':XH β}{f:α->XH γ}{f':β->XH δ}(h:an P P' A ρ s s')(c:∀ σ a b,ρ.le σ->A σ a b->an P P' B σ (f a) (f' b)):an P P' B ρ (s >>= f) (s' >>= f'):=h.bind c
def an.aA{a:α}{b:β}(h:A ρ a b):an P P' A ρ (Pure.pure a) (Pure.pure b):=.pure h
def an.stuck{w:String}:an P P' A ρ (Go.stuck w) (Go.stuck w):=.halt (.same _ Y)
def an.dx{u:Unsupported}(a:qy (.unsupported u)=Z:=by rfl):an P P' A ρ (Go.unsupported u) (Go.unsupported u):=.halt (.same _ a)
def an.panics{v a:U}(h:aq ρ v a):an P P' A ρ (Go.goPanic v) (Go.goPanic a):=.halt (.panic h)
def an.asks{k:Vb->XH α}{k':Vb->XH β}(h:an P P' A ρ (k P) (k' P')):an P P' A ρ (Go.program >>= k) (Go.program >>= k'):=.program h
def fF(S:wS P P')(t:Vc):an P P' (λ_ (i a:TypeInfo)=>i=a/\P.info? t=I i) ρ (Yc t) (Yc t):=by
 unfold Yc;refine .asks ?_;rw[S.info];cases b:P.info? t with
 |none=>exact .stuck
 |some i=>exact .aA ⟨rfl,rfl⟩
def aO(S:wS P P')(t:Vc):an P P' (λ_ (i a:TypeDesc)=>i=a/\P.underlying t=I i) ρ (Yt t) (Yt t):=by
 unfold Yt;refine .asks ?_;rw[S.rP];cases b:P.underlying t with
 |none=>exact .stuck
 |some i=>exact .aA ⟨rfl,rfl⟩
def cW(S:wS P P')(t:Vc):an P P' (iX (α:=Nat)) ρ (Zg t) (Zg t):=by
 unfold Zg;exact(fF S t).bindM (λd b c _ a=>.aA (by rw[a.1];rfl))
def jG(S:wS P P')(t:Vc):an P P' aq ρ (Xl t) (Xl t):=by
 unfold Xl;refine(fF S t).bindM (λe a f _ b=>?_);obtain⟨rfl,c⟩:=b;cases d:a.zero with
 |none=>exact .dx
 |some v=>exact .aA (S.zero t a v c d _ e)
def Js(S:wS P P')(t:Vc):an P P' (iX (α:=Bool)) ρ (isAgg t) (isAgg t):=by
 unfold isAgg;refine(aO S t).bindM (λe b c _ a=>?_);obtain⟨rfl,d⟩:=a
 split<;>exact .aA Y
theorem p8:∀(n:Nat) {ρ:aN G} {a a':VI} (i:Nat) {b c:Array U},cP ρ a a'->aW ρ b c->an P P' aW ρ (loadCellsFrom a i n b) (loadCellsFrom a' i n c)
 |0,ρ,a,a',i,b,c,e,d=>.aA d
 |n+1,ρ,a,a',i,b,c,e,d=>.load (e.add i) (λv g f=>p8 n (i+1) e (d.push f))
def we{a a':VI}(n:Nat)(b:cP ρ a a'):an P P' aW ρ (loadCells a n) (loadCells a' n):=p8 n 0 b (aW.nil _)
theorem jX:∀(vs d:List U) {ρ:aN G} {a a':VI} (i:Nat),cP ρ a a'->ja ρ vs d->an P P' (iX (α:=Unit)) ρ (storeCells a vs i) (storeCells a' d i)
 | [],[],ρ,a,a',i,c,b=>.aA Y
 | [],_::_,ρ,a,a',i,c,b=>by cases b using ja.ind
 |_::_,[],ρ,a,a',i,c,b=>by cases b using ja.ind
 |v::g,j::h,ρ,a,a',i,c,b=>by
  cases b using ja.ind with
  |cons f e=>exact .store (c.add i) f (jX g h (i+1) c e)
def BF(S:wS P P'){a a':VI}(t:Vc)(d:cP ρ a a'):an P P' aq ρ (loadVar t a) (loadVar t a'):=by
 unfold loadVar;refine(Js S t).bindM (λk c f e b=>?_);cases b;cases c
 ·exact .load (d.mono e) (λv j h=>.pure h)
 ·refine(cW S t).bindM (λi c f g b=>?_);cases b;exact(we _ (d.mono (e.trans g))).bindM (λi c f _ b=>.aA (.agg b.1 b.2))
def Hq(S:wS P P'){a a':VI}(t:Vc){v g:U}(e:cP ρ a a')(h:aq ρ v g):an P P' (iX (α:=Unit)) ρ (storeVar t a v) (storeVar t a' g):=by
 unfold storeVar;refine(cW S t).bindM (λk i j b d=>?_);cases d;have c:=h.cells;rw[<-c.1]
 split
 ·exact an.stuck.bindM (A:=iX (α:=PUnit)) (λl i j f d=>jX _ _ 0 (e.mono (b.trans f)) (c.mono (b.trans f)).toList)
 ·exact jX _ _ 0 (e.mono b) (c.mono b).toList
def qM(t:Vc){c a:Array U}(h:aW ρ c a):an P P' cP ρ (newRow t c) (newRow t a):=by
 unfold newRow;exact .new (.cells h t (0,0)) (λd e b=>.pure ⟨aN.xA _ _ _ b,rfl,rfl⟩)
def E8(t:Vc){v a:U}(h:aq ρ v a):an P P' cP ρ (newVar t v) (newVar t a):=qM t h.cells
def lV(S:wS P P')(t:Vc){c f:Array U}(h:aW ρ c f)(off:Nat):an P P' aq ρ (part t c off) (part t f off):=by
 unfold part;refine(Js S t).bindM (λm e k g d=>?_);cases d;cases e
 ·rcases(h.mono g).get off with⟨a,b⟩|⟨v,l,a,b,i⟩
  ·simp only[a,b];exact .stuck
  ·simp only[a,b];exact .aA i
 ·refine(cW S t).bindM (λn e k j d=>?_);cases d;have:=(h.mono (g.trans j)).extract off (off+e);exact .aA (.agg this.1 this.2)
def rH{v a:U}(h:aq ρ v a):an P P' (iX (α:=XL×Int)) ρ (asIntOf v) (asIntOf a):=by
 cases h using aq.ind with
 |int b c=>exact .aA Y
 |ptr h=>exact .dx
 |_=>exact .stuck
def pp{v a:U}(h:aq ρ v a):an P P' (iX (α:=Int)) ρ (asInt v) (asInt a):=by
 unfold asInt;exact(rH h).bindM (λd b c _ h=>by cases h;exact .aA Y)
def NQ{v a:U}(h:aq ρ v a):an P P' (iX (α:=Bool)) ρ (asBool v) (asBool a):=by
 cases h using aq.ind with
 |bool b=>exact .aA Y
 |_=>exact .stuck
def eF(S:wS P P'){A:aN G->α->β->Prop}(e:RuntimeError)(d:∀i c a m,e≠.typeAssertion i c a m)(f:∀t,e≠.unhashable t)(g:e≠.panicNil):an P P' A ρ (runtimePanic e) (runtimePanic e):=by
 unfold runtimePanic;refine .asks ?_;rw[S.rt];cases e with
 |typeAssertion i c a m=>exact absurd Y (d _ _ _ _)
 |unhashable t=>exact absurd Y (f _)
 |panicNil=>exact absurd Y g
 |bounds j k s c=>exact .panics (.iface _ (.agg Y (λi b h=>by
  have:i=0\/i=1\/i=2\/i=3:=by simp at b;omega
  rcases this with rfl|rfl|rfl|rfl<;>first|exact .bool _|exact .int _ _)))
 |error m=>exact .panics (.iface _ (.string _))
 |plain m=>exact .panics (.iface _ (.string _))
 |nilDeref=>exact .panics (.iface _ (.string _))
def oO(S:wS P P'){A:aN G->α->β->Prop}(k:XL)(x y:Int)(c:BoundsCode):an P P' A ρ (boundsPanic k x y c) (boundsPanic k x y c):=by
 unfold boundsPanic
 split
 ·refine an.bindM (A:=iX (α:=Bool)) ?_ (λe b d _ a=>by cases a;exact eF S _ (by simp) (by simp) (by simp));exact an.bind (A:=iX (α:=Nat)) (an.choose (λf=>.pure Y)) (λe b d _ a=>by cases a;exact .pure Y)
 ·refine an.bindM (A:=iX (α:=Bool)) (.aA Y) (λe b d _ a=>by cases a;exact eF S _ (by simp) (by simp) (by simp))
end
end
section
variable {G:mG}
structure Alike(G:mG)(P P':Vb):Prop where
 S:wS P P'
 cells:∀t,P'.cellsOf t=P.cellsOf t
 bytes:∀t,P'.bytesOf t=P.bytesOf t
 depth:P'.depth=P.depth
 lU:∀d e c o u n,liesAt P' d e c o u n=liesAt P d e c o u n
 cellAt:∀d e c o b,cellAtBytes P' d e c o b=cellAtBytes P d e c o b
 Cq:∀d t o,byteOfCell P' d t o=byteOfCell P d t o
 T5:∀d t,P'.eqGuardType d t=P.eqGuardType d t
 JE:∀t,P'.stoodInHeld t=P.stoodInHeld t
 NI:∀d t,P'.holdsPacked d t=P.holdsPacked d t
 yE:P.globals.size=G.g
 Nd:P'.globals.size=G.g
 RJ:∀f:Nat,G.b f=Z->∃fn,P.funcs[f]? =I fn/\fn.body.isNone=U5/\(fn.name == "runtime.NumGoroutine")=U5
 R5:∀f:Nat,(P'.funcs[f]?).map (fun(x:XJ)=>(x.name,x.body.isNone))=(P.funcs[f]?).map (fun(x:XJ)=>(x.name,x.body.isNone))
section
variable {P P':Vb}{ρ:aN G}
def ng{v a:U}(h:aq ρ v a):an P P' cP ρ (Yg v) (Yg a):=by
 cases h using aq.ind with
 |ptr h=>exact .aA h
 |_=>exact .stuck
def NU(L:Alike G P P')(t:Vc){v a:U}(h:aq ρ v a):an P P' aq ρ (Instr.loadAt t v) (Instr.loadAt t a):=
 (ng h).bindM (λd b c _ h=>BF L.S t h)
def Ld(L:Alike G P P')(t:Vc){v a x b:U}(h:aq ρ v a)(d:aq ρ x b):an P P' (iX (α:=Unit)) ρ (Instr.storeAt t v x) (Instr.storeAt t a b):=
 (ng h).bindM (λg e f c h=>Hq L.S t h (d.mono c))
def E9{r r':Nat}(h:ρ.f r=I r'):an P P' (λ_ (x y:Option (VI×Vc))=>x=K/\y=K) ρ (viewAt r) (viewAt r'):=by
 unfold viewAt;refine an.bindM (A:=iX (α:=Option (Vc×Nat))) (.shape h (λs=>.pure Y)) (λj f g c b=>?_);cases b
 split
 ·exact .aA ⟨rfl,rfl⟩
 ·refine an.bindM (A:=dG) (.getObj (c _ _ h) (λd e a=>.pure a)) (λk d e i a=>?_);cases a using dG.ind<;>exact .aA ⟨rfl,rfl⟩
def zi{a a':VI}(h:cP ρ a a'):an P P' (iX (α:=Unit)) ρ (noView a) (noView a'):=by
 unfold noView;refine(E9 h.1).bindM (λf d e c b=>?_);obtain⟨rfl,rfl⟩:=b;exact .aA Y
def m9(L:Alike G P P'){a a':VI}(h:cP ρ a a'):an P P' (iX (α:=Nat)) ρ (byteOf a) (byteOf a'):=by
 unfold byteOf;rw[<-h.2.2];cases g:a.spot with
 |some s=>exact .aA Y
 |none=>
  refine .asks ?_;refine(zi h).bindM (λj c e d b=>?_);refine an.bindM (A:=iX (α:=Option (Vc×Nat))) (.shape (d _ _ h.1) (λs=>.pure Y)) (λk c e f b=>?_);cases b;cases c with
  |none=>exact .stuck
  |some i=>
   simp only[L.cells,L.bytes,L.Cq,L.depth,<-h.2.1]
   split
   ·exact .aA Y
   ·split
    ·exact .aA Y
    ·exact .stuck
def NX(L:Alike G P P'){a a':VI}(h:cP ρ a a')(c b:Nat):an P P' cP ρ (partAt a c b) (partAt a' c b):=by
 unfold partAt;refine(m9 L h).bindM (λk i j g e=>?_);cases e;have d:cP k {block:=a.block,off:=a.off+c} {block:=a'.block,off:=a'.off+c}:=⟨g _ _ h.1,by show a.off+c=a'.off+c;rw[h.2.1],rfl⟩;refine(m9 L d).bindM (λl i j f e=>?_);cases e;refine .aA ?_
 split
 ·exact d.mono f
 ·exact⟨f _ _ d.1,d.2.1,rfl⟩
def CX(L:Alike G P P'){a a':VI}(h:cP ρ a a')(f:Field):an P P' cP ρ (fieldPlace a f) (fieldPlace a' f):=by
 unfold fieldPlace;refine(cW L.S _).bindM (λg d e b c=>?_);cases c
 split
 ·exact NX L (h.mono b) _ _
 ·exact .aA ((h.mono b).add _)
def K6(L:Alike G P P')(s:Vc){v a:U}(h:aq ρ v a)(f:Nat):an P P' aq ρ (Instr.fieldAt s v f) (Instr.fieldAt s a f):=by
 unfold Instr.fieldAt;refine(aO L.S s).bindM (λm j l i g=>?_);obtain⟨rfl,-⟩:=g;cases j with
 |struct e=>
  simp only;cases e[f]? with
  |none=>exact .stuck
  |some d=>exact(ng (h.mono i)).bindM (λk b c _ h=>(CX L h d).bindM (λk b c _ h=>.aA (.ptr h)))
 |_=>exact .stuck
def Qn(L:Alike G P P')(t:Vc):an P P' aq ρ (Instr.alloc t Z (.tuple #[])) (Instr.alloc t Z (.tuple #[])):=by
 unfold Instr.alloc;exact(jG L.S t).bindM (λg e f d a=>(E8 t a).bindM (λh b c _ a=>.aA (.ptr a)))
def TS(t:Vc){v a:U}(h:aq ρ v a):an P P' aq ρ (Instr.box t v) (Instr.box t a):=by
 unfold Instr.box;exact(E8 t h).bindM (λd b c _ h=>.aA (.ptr h))
def K7(L:Alike G P P')(t:Vc){x n i l:U}(u:aq ρ x n)(q:aq ρ i l):an P P' aq ρ (Instr.indexAt t x i) (Instr.indexAt t n l):=by
 unfold Instr.indexAt;refine(rH q).bindM (λE k z r b=>?_);cases b;obtain⟨B,D⟩:=k;refine(aO L.S t).bindM (λF d j s a=>?_);obtain⟨rfl,a⟩:=a;have h:=u.mono (r.trans s);cases d with
 |array C e=>
  refine(ng h).bindM (λH k y A f=>?_);refine(aO L.S t).bindM (λo d j c a=>?_);obtain⟨rfl,-⟩:=a;dsimp only
  split
  ·exact(cW L.S e).bindM (λw x v g b=>by cases b;exact .aA (.ptr ((f.mono (c.trans g)).add _)))
  ·(repeat' split)<;>first|exact an.dx|exact oO L.S _ _ _ _
 |slice e=>
  cases h using aq.ind with
  |jR m p=>
   refine(aO L.S t).bindM (λo d j c a=>?_);exact oO L.S _ _ _ _
  |sl f m p=>
   refine(aO L.S t).bindM (λo d j c a=>?_);obtain⟨rfl,-⟩:=a;dsimp only
   split
   ·exact(cW L.S e).bindM (λw x v g b=>by cases b;exact .aA (.ptr ((f.mono (c.trans g)).add _)))
   ·(repeat' split)<;>first|exact an.dx|exact oO L.S _ _ _ _
  |_=>exact an.stuck
 |_=>cases h using aq.ind<;>exact an.stuck
def BD(n:Nat):an P P' (iX (α:=Unit)) ρ (askRoom n) (askRoom n):=by
 unfold askRoom
 split
 ·exact .room (.pure Y)
 ·exact .aA Y
def iL(L:Alike G P P'){v a:U}(h:aq ρ v a)(y:Nat)(c:BoundsCode):an P P' (iX (α:=Nat)) ρ (Instr.sliceBound v y c) (Instr.sliceBound a y c):=by
 unfold Instr.sliceBound;refine(rH h).bindM (λi b e _ d=>?_);cases d;obtain⟨g,f⟩:=b;dsimp only
 split
 ·exact .aA Y
 ·exact oO L.S _ _ _ _
def ej (ρ:aN G)(c:Option U)(d:Option U):Prop:=∀a:Option U->Option U->Prop,(a K K)->(∀{v b:U} (e:aq ρ v b),a (I v) (I b))->a c d
def ej.none{ρ:aN G}:ej ρ K K:=λb a c=>a
def ej.some{ρ:aN G}{v a:U}(h:aq ρ v a):ej ρ (I v) (I a):=λc d b=>b h
def ej.ind{ρ:aN G}{c:∀(a:Option U) (b:Option U),ej ρ a b->Prop}(none:c _ _ (ej.none))(some:∀{v d:U} (h:aq ρ v d),c _ _ (ej.some h)){a:Option U}{b:Option U}(h:ej ρ a b):c a b h:=(h (λa b=>ej ρ a b/\∀h,c a b h) (⟨ej.none,λ_=>none⟩) (λh=>⟨ej.some h,λ_=>some h⟩)).2 h
def ej.mono{σ:aN G}(a:ρ.le σ){o o':Option U}(h:ej ρ o o'):ej σ o o':=by
 cases h using ej.ind with
 |none=>exact .none
 |some h=>exact .some (h.mono a)
def jh(L:Alike G P P')(b:Bool)(len cap:Nat){k l i j m n:Option U}(h1:ej ρ k l)(h:ej ρ i j)(o:ej ρ m n):an P P' (iX (α:=Nat×Nat×Nat)) ρ (Instr.sliceBounds b len cap k i m) (Instr.sliceBounds b len cap l j n):=by
 unfold Instr.sliceBounds;cases o using ej.ind with
 |none=>
  cases h using ej.ind with
  |none=>
   cases h1 using ej.ind with
   |none=>exact .aA Y
   |some d=>exact(iL L d _ _).bindM (λf c b _ a=>by cases a;exact .aA Y)
  |some g=>
   refine(iL L g _ _).bindM (λf c b e a=>?_);cases a;cases h1 using ej.ind with
   |none=>exact .aA Y
   |some d=>exact(iL L (d.mono e) _ _).bindM (λf c b _ a=>by cases a;exact .aA Y)
 |some q=>
  refine(iL L q _ _).bindM (λf c b e a=>?_);cases a;cases h using ej.ind with
  |none=>exact an.stuck
  |some g=>
   refine(iL L (g.mono e) _ _).bindM (λr c b p a=>?_);cases a;cases h1 using ej.ind with
   |none=>exact .aA Y
   |some d=>exact(iL L (d.mono (e.trans p)) _ _).bindM (λf c b _ a=>by cases a;exact .aA Y)
def Qv(L:Alike G P P')(t:Vc){x u:U}{B C w y p q:Option U}(f:aq ρ x u)(h1:ej ρ B C)(c:ej ρ w y)(d:ej ρ p q):an P P' aq ρ (Instr.slice t x B w p) (Instr.slice t u C y q):=by
 unfold Instr.slice;refine(aO L.S t).bindM (λK r J k o=>?_);obtain⟨rfl,-⟩:=o;have f:=f.mono k;have h1:=h1.mono k;have c:=c.mono k;have d:=d.mono k;cases r with
 |string=>
  cases f using aq.ind with
  |string s=>
   dsimp only;have F:p.isSome=q.isSome:=by cases d using ej.ind<;>rfl
   rw[F]
   split
   ·exact an.stuck
   ·exact(jh L U5 s.size s.size h1 c .none).bindM (λl i m _ a=>by cases a;exact .aA (.string _))
  |_=>exact an.stuck
 |slice j=>
  cases f using aq.ind with
  |jR g n=>
   refine(jh L Z g n h1 c d).bindM (λl i m _ a=>?_);cases a;refine(cW L.S j).bindM (λv x D _ a=>?_);cases a;refine .aA ?_
   split
   ·exact .jR _ _
   ·exact .jR _ _
  |sl h g n=>
   refine(jh L Z g n h1 c d).bindM (λl i m e a=>?_);cases a;refine(cW L.S j).bindM (λv x D b a=>?_);cases a;refine .aA ?_
   split
   ·exact .sl (h.mono (e.trans b)) _ _
   ·exact .sl ((h.mono (e.trans b)).add _) _ _
  |_=>exact an.stuck
 |pointer E=>
  have I:an P P' cP K (asAddr x) (asAddr u):=by
   cases f using aq.ind with
   |ptr H=>exact .aA H
   |cZ=>exact eF L.S .nilDeref (by simp) (by simp) (by simp)
   |_=>exact an.stuck
  refine I.bindM (λl i M e h=>?_);refine(aO L.S E).bindM (λv r J b o=>?_);obtain⟨rfl,-⟩:=o;cases r with
  |array g j=>
   refine(jh L U5 g g (h1.mono (e.trans b)) (c.mono (e.trans b)) (d.mono (e.trans b))).bindM (λl i m z a=>?_);cases a;refine(cW L.S j).bindM (λv x D A a=>?_);cases a;refine .aA ?_
   split
   ·exact .sl (h.mono (b.trans (z.trans A))) _ _
   ·exact .sl ((h.mono (b.trans (z.trans A))).add _) _ _
  |_=>exact an.stuck
 |_=>cases f using aq.ind<;>exact an.stuck
def Lc(L:Alike G P P')(t:Vc){x q:U}{l m g h n o:Option U}(k:aq ρ x q)(h1:ej ρ l m)(d:ej ρ g h)(e:ej ρ n o):an P P' aq ρ (Instr.sliceAt t x l g n) (Instr.sliceAt t q m h o):=by
 unfold Instr.sliceAt;refine(aO L.S t).bindM (λC w A a v=>?_);obtain⟨rfl,-⟩:=v;cases w with
 |array p s=>
  refine(ng (k.mono a)).bindM (λD r y u f=>?_);have c:=a.trans u;refine(jh L U5 p p (h1.mono c) (d.mono c) (e.mono c)).bindM (λE r z i b=>?_);cases b;refine(cW L.S s).bindM (λF x B j b=>?_);cases b;refine .aA ?_
  split
  ·exact .sl (f.mono (i.trans j)) _ _
  ·exact .sl ((f.mono (i.trans j)).add _) _ _
 |_=>exact Qv L t (k.mono a) (h1.mono a) (d.mono a) (e.mono a)
end
end
section
variable {G:mG}
section
variable {P P':Vb}{ρ:aN G}
def mr{z a:Array U}(h:aW ρ z a)(n:Nat):aW ρ ((Y3 n).map (z[· % z.size]!)) ((Y3 n).map (a[· % a.size]!)):=by
 refine⟨by simp,λd f g=>?_⟩;simp only[Array.getElem_map,Array.getElem_range];have c:=h.1;by_cases e:0<z.size
 ·have b:d%z.size<z.size:=Nat.mod_lt _ e;rw[getElem!_pos z _ b,getElem!_pos a _ (by rw[<-c];exact b)];have:d%a.size=d%z.size:=by rw[c]
  simp only[this];exact h.2 _ b (by rw[<-c];exact b)
 ·rw[getElem!_neg z _ (by omega),getElem!_neg a _ (by omega)];exact .bool _
def vm(L:Alike G P P'){α k γ b:Type}{B:aN G->γ->b->Prop}(e:RuntimeError)(g:∀i c a m,e≠.typeAssertion i c a m)(h:∀t,e≠.unhashable t)(j:e≠.panicNil){f:α->XH γ}{f':k->XH b}:an P P' B ρ (runtimePanic e >>= f) (runtimePanic e >>= f'):=
 (eF (A:=λ_ _ _=>False) L.S e g h j).bindM (λ_ _ _ _ d=>d.elim)
def qJ{γ a:Type}{B:aN G->γ->a->Prop}(q:Question){f:Nat->XH γ}{f':Nat->XH a}(h:∀n,an P P' B ρ (f n) (f' n)):an P P' B ρ (choose q >>= f) (choose q >>= f'):=.choose (λn=>h n)
def E6(L:Alike G P P')(t:Vc){l j c h:U}(m:aq ρ l j)(hc:aq ρ c h):an P P' aq ρ (YZ t l c) (YZ t j h):=by
 unfold YZ;refine(aO L.S t).bindM (λw p v i n=>?_);obtain⟨rfl,-⟩:=n;cases p with
 |slice e=>
  refine(pp (m.mono i)).bindM (λx b d k a=>?_);cases a;refine(pp (hc.mono (i.trans k))).bindM (λy b d q a=>?_);cases a;refine(fF L.S e).bindM (λz b d r a=>?_);obtain⟨rfl,-⟩:=a;dsimp only
  split
  ·split
   ·exact vm L _ (by simp) (by simp) (by simp)
   ·split
    ·exact vm L _ (by simp) (by simp) (by simp)
    ·exact qJ _ (λu=>vm L _ (by simp) (by simp) (by simp))
  ·refine(BD _).bindM (λA b d s a=>?_);refine(cW L.S e).bindM (λg b d _ a=>?_);cases a
   split
   ·exact(qM e (mr (aW.nil _) _)).bindM (λg b d _ f=>.aA (.sl f _ _))
   ·refine(jG L.S e).bindM (λg b d _ o=>?_);exact(qM e (mr o.cells _)).bindM (λg b d _ f=>.aA (.sl f _ _))
 |_=>exact an.stuck
def qi (ρ:aN G)(f:List (U×Nat))(g:List (U×Nat)):Prop:=∀a:List (U×Nat)->List (U×Nat)->Prop,(a [] [])->(∀{v e:U} (b:Nat) {c d:List (U×Nat)} (h:aq ρ v e) (i:a c d),a ((v,b)::c) ((e,b)::d))->a f g
def qi.nil{ρ:aN G}:qi ρ [] []:=λb a c=>a
def qi.cons{ρ:aN G}{v c:U}(j:Nat){l b:List (U×Nat)}(h:aq ρ v c)(f:qi ρ l b):qi ρ ((v,j)::l) ((c,j)::b):=λd e a=>a j h (f d e a)
def qi.ind{ρ:aN G}{d:∀(a:List (U×Nat)) (b:List (U×Nat)),qi ρ a b->Prop}(nil:d _ _ (qi.nil))(cons:∀{v f:U} (j:Nat) {l e:List (U×Nat)} (h:aq ρ v f) (c:qi ρ l e),(d _ _ c)->d _ _ (qi.cons j h c)){a:List (U×Nat)}{b:List (U×Nat)}(h:qi ρ a b):d a b h:=(h (λa b=>qi ρ a b/\∀h,d a b h) (⟨qi.nil,λ_=>nil⟩) (λ{v} {f} j {l} {e} h c=>⟨qi.cons j h c.1,λ_=>cons j h c.1 (c.2 _)⟩)).2 h
def ic (ρ:aN G)(f:List (Nat×U))(g:List (Nat×U)):Prop:=∀a:List (Nat×U)->List (Nat×U)->Prop,(a [] [])->(∀{v e:U} (b:Nat) {c d:List (Nat×U)} (h:aq ρ v e) (i:a c d),a ((b,v)::c) ((b,e)::d))->a f g
def ic.nil{ρ:aN G}:ic ρ [] []:=λb a c=>a
def ic.cons{ρ:aN G}{v c:U}(j:Nat){l b:List (Nat×U)}(h:aq ρ v c)(f:ic ρ l b):ic ρ ((j,v)::l) ((j,c)::b):=λd e a=>a j h (f d e a)
def ic.ind{ρ:aN G}{d:∀(a:List (Nat×U)) (b:List (Nat×U)),ic ρ a b->Prop}(nil:d _ _ (ic.nil))(cons:∀{v f:U} (j:Nat) {l e:List (Nat×U)} (h:aq ρ v f) (c:ic ρ l e),(d _ _ c)->d _ _ (ic.cons j h c)){a:List (Nat×U)}{b:List (Nat×U)}(h:ic ρ a b):d a b h:=(h (λa b=>ic ρ a b/\∀h,d a b h) (⟨ic.nil,λ_=>nil⟩) (λ{v} {f} j {l} {e} h c=>⟨ic.cons j h c.1,λ_=>cons j h c.1 (c.2 _)⟩)).2 h
def ic.mono{σ:aN G}(b:ρ.le σ){l a:List (Nat×U)}(h:ic ρ l a):ic σ l a:=by
 induction h using ic.ind with
 |nil=>exact .nil
 |cons d h _ c=>exact .cons d (h.mono b) c
def ja.zip{l a:List U}(h:ja ρ l a):∀k,qi ρ (l.zipIdx k) (a.zipIdx k):=by
 induction h using ja.ind with
 |nil=>exact λ_=>.nil
 |cons b _ c=>exact λk=>.cons k b (c (k+1))
def QR(off:Nat){l b:List (U×Nat)}(h:qi ρ l b):∀{cs a:Array U},aW ρ cs a->aW ρ (l.foldl (λcs (c,j)=>cs.setIfInBounds (off+j) c) cs) (b.foldl (λcs (c,j)=>cs.setIfInBounds (off+j) c) a):=by
 induction h using qi.ind with
 |nil=>exact λh=>h
 |cons j d _ e=>exact λh=>e (h.set d _)
def DD(a:Nat->Option (Nat×Nat)){ps d:List (Nat×U)}(g:ic ρ ps d):∀{cs b:Array U},aW ρ cs b->(YL a cs ps=K/\YL a b d=K)\/∃x f,YL a cs ps=I x/\YL a b d=I f/\aW ρ x f:=by
 induction g using ic.ind with
 |nil=>exact λc=>.inr ⟨_,_,rfl,rfl,c⟩
 |cons i h _ j=>
  intro cs b c;have e:=h.cells;simp only[YL];cases a i with
  |none=>exact .inl ⟨rfl,rfl⟩
  |some l=>
   obtain⟨k,m⟩:=l;simp only[e.1,c.1]
   split
   ·exact .inl ⟨rfl,rfl⟩
   ·refine j ?_;rw[<-Array.foldl_toList,<-Array.foldl_toList,Array.toList_zipIdx,Array.toList_zipIdx];exact QR k (e.toList.zip 0) c
theorem NW{α c:Type}(g:α->XH c):∀(l:List α) {ρ:aN G},(∀ σ,ρ.le σ->∀x∈l,an P P' (iX (α:=c)) σ (g x) (g x))->an P P' (iX (α:=List c)) ρ (l.mapM g) (l.mapM g)
 | [],ρ,a=>by rw[List.mapM_nil];exact .aA Y
 |x::l,ρ,a=>by
  rw[List.mapM_cons];refine(a ρ (aN.le.refl _) x (by simp)).bindM (λσ e f h b=>?_);cases b;refine(NW g l (λd i k j=>a d (h.trans i) k (by simp[j]))).bindM (λd e f _ b=>?_);cases b;exact .aA Y
def SF{α a:Type}(g:α->XH a)(l:Array α)(h:∀ σ,ρ.le σ->∀x∈l.toList,an P P' (iX (α:=a)) σ (g x) (g x)):an P P' (iX (α:=Array a)) ρ (l.mapM g) (l.mapM g):=by
 rw[Array.mapM_eq_mapM_toList];exact an.bind (A:=iX (α:=List a)) (NW g l.toList h) (λσ c d _ b=>by cases b;exact .pure Y)
def Qp(L:Alike G P P')(t:Vc){ps n:Array (Nat×U)}(h:ic ρ ps.toList n.toList):an P P' aq ρ (Instr.build t ps) (Instr.build t n):=by
 unfold Instr.build;refine(jG L.S t).bindM (λy C D r i=>?_);refine(aO L.S t).bindM (λp w B l u=>?_);obtain⟨rfl,-⟩:=u;have m:=h.mono (r.trans l);have i:=i.cells.mono l;cases w with
 |struct k=>
  have s:an P P' (iX (α:=Array (Nat×Nat))) p (k.mapM λf=>do pure (f.offset,<-Zg f.type)) (k.mapM λf=>do pure (f.offset,<-Zg f.type)):=
   SF _ _ (λy _ o _=>(cW L.S _).bindM (λp c j _ e=>by cases e;exact .aA Y))
  refine s.bindM (λz c j g e=>?_);cases e;rcases DD (c[·]?) (m.mono g) (i.mono g) with⟨a,b⟩|⟨o,x,a,b,d⟩
  ·rw[a,b];exact an.stuck
  ·rw[a,b];exact .aA (.agg d.1 d.2)
 |array A q=>
  refine(cW L.S q).bindM (λz c j g e=>?_);cases e;rcases DD (λv=>I (v*c,c)) (m.mono g) (i.mono g) with⟨a,b⟩|⟨o,x,a,b,d⟩
  ·rw[a,b];exact an.stuck
  ·rw[a,b];exact .aA (.agg d.1 d.2)
 |_=>exact an.stuck
def CV(L:Alike G P P')(t:Vc)(n:Nat){ps m:Array (Nat×U)}(h:ic ρ ps.toList m.toList):an P P' aq ρ (X9 t n ps) (X9 t n m):=by
 unfold X9;refine(aO L.S t).bindM (λq y A u x=>?_);obtain⟨rfl,-⟩:=x;cases y with
 |slice b=>
  refine(cW L.S b).bindM (λz a o v s=>?_);cases s;have w:=h.mono (u.trans v);dsimp only;have p:∀{f:aN G} {d e:Array U},z.le f->aW f d e->an P P' aq f (match YL (λc=>I (c*a,a)) ((Y3 (n*a)).map (d[· % d.size]!)) ps.toList with|some g=>do pure (.slice (I (<-newRow b g)) n n)|_=>stuck "buildSlice: a part of the wrong size") (match YL (λc=>I (c*a,a)) ((Y3 (n*a)).map (e[· % e.size]!)) m.toList with|some g=>do pure (.slice (I (<-newRow b g)) n n)|_=>stuck "buildSlice: a part of the wrong size"):=by
   intro f d e k l;rcases DD (λc=>I (c*a,a)) (w.mono k) (mr l (n*a)) with⟨i,j⟩|⟨B,C,i,j,r⟩
   ·rw[i,j];exact an.stuck
   ·rw[i,j];exact(qM b r).bindM (λq a o _ h=>.aA (.sl h _ _))
  split
  ·exact an.dx
  ·split
   ·exact p (aN.le.refl _) (aW.nil _)
   ·exact(jG L.S b).bindM (λq a o k l=>p k l.cells)
 |_=>exact an.stuck
def wY(L:Alike G P P')(t:Vc){v a:U}(h:aq ρ v a):an P P' aq ρ (Instr.makeInterface t v) (Instr.makeInterface t a):=by
 unfold Instr.makeInterface;refine(aO L.S t).bindM (λf d e b c=>?_);obtain⟨rfl,-⟩:=c
 split
 ·exact an.stuck
 ·exact .aA (.iface t (h.mono b))
def Lb(L:Alike G P P')(t:Vc){o o':Option U}(h:ej ρ o o'):an P P' aq ρ (Instr.makeMap t o) (Instr.makeMap t o'):=by
 unfold Instr.makeMap;have a:∀{g:aN G},an P P' aq g (do pure (.map (I (<-newObj (.map #[] 0))))) (do pure (.map (I (<-newObj (.map #[] 0))))):=.new (.map Y (λn b=>by simp at b) 0) (λq r d=>.pure (.map (aN.xA _ _ _ d)));cases h using ej.ind with
 |none=>exact a
 |some h=>
  refine(aO L.S t).bindM (λi f s c e=>?_);obtain⟨rfl,-⟩:=e;cases f with
  |map p l=>exact(pp (h.mono c)).bindM (λi j k _ m=>a)
  |_=>exact an.stuck
def Qq(L:Alike G P P')(t:Vc){v a:U}(h:aq ρ v a)(i:Nat):an P P' aq ρ (Instr.field t v i) (Instr.field t a i):=by
 unfold Instr.field;refine(aO L.S t).bindM (λl j k c d=>?_);obtain⟨rfl,-⟩:=d;cases j with
 |struct b=>
  dsimp only;cases b[i]? with
  |none=>exact an.stuck
  |some f=>
   have h:=h.mono c;cases h using aq.ind with
   |agg e g=>exact lV L.S _ ⟨e,g⟩ _
   |_=>exact an.stuck
 |_=>exact an.stuck
def Qt(L:Alike G P P')(t:Vc){v d i c:U}(h:aq ρ v d)(g:aq ρ i c):an P P' aq ρ (Instr.index t v i) (Instr.index t d c):=by
 unfold Instr.index;refine(rH g).bindM (λx b e j a=>?_);cases a;obtain⟨q,u⟩:=b;refine(aO L.S t).bindM (λy p w k m=>?_);obtain⟨rfl,-⟩:=m;have h:=h.mono (j.trans k);cases p with
 |array r f=>
  cases h using aq.ind with
  |agg n o=>
   dsimp only
   split
   ·exact(cW L.S f).bindM (λz b e l a=>by cases a;exact lV L.S _ (aW.mono l ⟨n,o⟩) _)
   ·exact oO L.S _ _ _ _
  |_=>exact an.stuck
 |string=>
  cases h using aq.ind with
  |string s=>
   dsimp only
   split
   ·exact .aA (.int _ _)
   ·exact oO L.S _ _ _ _
  |_=>exact an.stuck
 |_=>cases h using aq.ind<;>exact an.stuck
def K4{v c:U}(h:aq ρ v c)(i:Nat):an P P' aq ρ (Instr.extract v i) (Instr.extract c i):=by
 cases h using aq.ind with
 |tuple e f=>
  simp only[Instr.extract];rcases aW.get ⟨e,f⟩ i with⟨a,b⟩|⟨v,c,a,b,d⟩
  ·rw[a,b];exact an.stuck
  ·rw[a,b];exact .aA d
 |_=>exact an.stuck
def Qw(a:UnOp){v b:U}(h:aq ρ v b):an P P' aq ρ (Op.unary a v) (Op.unary a b):=by
 cases h using aq.ind<;>cases a<;>simp only[Op.unary,Op.intArith,Op.intBits]<;>first|exact an.stuck|exact an.dx|exact .aA (.int _ _)|exact .aA (.bool _)
end
end
section
variable {G:mG}
section
variable {P P':Vb}{ρ:aN G}
def sN{a a' b b':VI}(e:cP ρ a a')(f:cP ρ b b'):(a.block==b.block)=(a'.block==b'.block):=by
 rw[Bool.eq_iff_iff];simp only[beq_iff_eq];constructor
 ·intro c;have d:=e.1;rw[c,f.1] at d;exact(Zm d).symm
 ·intro c;exact ρ.inj _ _ _ e.1 (by rw[c];exact f.1)
def addr_eq{a a' b b':VI}(f:cP ρ a a')(g:cP ρ b b'):(a==b)=(a'==b'):=by
 have c:=sN f g;have d:=f.2;have e:=g.2;obtain⟨h,i,j⟩:=a;obtain⟨k,l,m⟩:=a';obtain⟨n,o,p⟩:=b;obtain⟨u1,u2,u3⟩:=b';simp only at c d e;obtain⟨rfl,rfl⟩:=d;obtain⟨rfl,rfl⟩:=e;rw[Bool.eq_iff_iff] at c ⊢;simp only[beq_iff_eq] at c;simp only[beq_iff_eq,Xk,c]
def qL{a a':VI}(h:cP ρ a a'):an P P' (iX (α:=Bool)) ρ (frozen a) (frozen a'):=.frozen h (λb=>.pure Y)
def pu{r r':Nat}(h:ρ.f r=I r'):an P P' (iX (α:=Option (Vc×Nat))) ρ (shape r) (shape r'):=.shape h (λa=>.pure Y)
def wj{a a':VI}(h:cP ρ a a'):an P P' (iX (α:=Bool)) ρ (stringish a) (stringish a'):=by
 unfold stringish;refine(qL h).bindM (λi d f c b=>?_);cases b
 split
 ·exact .aA Y
 ·refine(pu (c _ _ h.1)).bindM (λj d f e b=>?_);cases b;cases d with
  |none=>exact .aA Y
  |some g=>exact qL ⟨e _ _ (c _ _ h.1),rfl,rfl⟩
def Hl{a a' b b':VI}(h:cP ρ a a')(g:cP ρ b b'):an P P' (iX (α:=Bool)) ρ (mayBeOne a b) (mayBeOne a' b'):=by
 unfold mayBeOne;have k:∀{f:aN G} {d l:VI},cP f d l->an P P' (iX (α:=Bool)) f (do pure ((<-shape d.block) matches I (_,0))) (do pure ((<-shape l.block) matches I (_,0))):=λn=>(pu n.1).bindM (λq d m _ c=>by cases c;exact .aA Y);refine(wj h).bindM (λf d m e c=>?_);cases c;refine(wj (g.mono e)).bindM (λq m s i c=>?_);cases c;refine(k (h.mono (e.trans i))).bindM (λr o p j c=>?_);cases c;refine(k (g.mono (e.trans (i.trans j)))).bindM (λr o p j c=>?_);cases c;exact .aA Y
def zl{a a' b b':VI}(h:cP ρ a a')(d:cP ρ b b'):an P P' (iX (α:=Bool)) ρ (sameAddr a b) (sameAddr a' b'):=by
 unfold sameAddr;rw[sN h d,addr_eq h d]
 split
 ·exact .aA Y
 ·refine(qL h).bindM (λr p m e c=>?_);cases c;refine(qL (d.mono e)).bindM (λs m q f c=>?_);cases c
  split
  ·exact an.dx
  ·refine(zi (h.mono (e.trans f))).bindM (λt j k g c=>?_);refine(zi (d.mono (e.trans (f.trans g)))).bindM (λu j k l c=>?_);have i:=e.trans (f.trans (g.trans l));refine(Hl (h.mono i) (d.mono i)).bindM (λv j k n c=>?_);cases c
   split
   ·exact qJ _ (λo=>.aA Y)
   ·exact .aA Y
theorem tX{α a:Type}{f f':α->a->XH (ForInStep a)}:∀(l:List α) {ρ:aN G} (b:a),(∀ σ,ρ.le σ->∀x∈l,∀b,an P P' (iX (α:=ForInStep a)) σ (f x b) (f' x b))->an P P' (iX (α:=a)) ρ (forIn l b f) (forIn l b f')
 | [],ρ,b,c=>by simp only[List.forIn_nil];exact .aA Y
 |x::l,ρ,b,c=>by
  simp only[List.forIn_cons];refine(c ρ (aN.le.refl _) x (by simp) b).bindM (λσ d m h g=>?_);cases g;cases d with
  |done b=>exact .aA Y
  |yield b=>exact tX l b (λk i d j e=>c k (h.trans i) d (by simp[j]) e)
def Hi{α a:Type}{f f':α->a->XH (ForInStep a)}(l:Array α)(b:a)(h:∀ σ,ρ.le σ->∀x∈l.toList,∀b,an P P' (iX (α:=ForInStep a)) σ (f x b) (f' x b)):an P P' (iX (α:=a)) ρ (forIn l b f) (forIn l b f'):=by
 rw[<-Array.forIn_toList,<-Array.forIn_toList];exact tX _ _ h
def fw{α c γ a:Type}{B:aN G->γ->a->Prop}{u:Unsupported}{f:α->XH γ}{f':c->XH a}(b:qy (.unsupported u)=Z:=by rfl):an P P' B ρ (unsupported u >>= f) (unsupported u >>= f'):=.halt (.same _ b)
def Le(L:Alike G P P')(t:Vc):an P P' (iX (α:=String)) ρ (typeStr t) (typeStr t):=by
 unfold typeStr;refine(fF L.S t).bindM (λd b c _ a=>?_);obtain⟨rfl,-⟩:=a;dsimp only
 split
 ·exact an.dx
 ·exact .aA Y
def zk{r r':Nat}(h:ρ.f r=I r'):an P P' (λσ (x y:Option (VI×Bool))=>(x=K/\y=K)\/∃a a' l,x=I (a,l)/\y=I (a',l)/\cP σ a a') ρ (numberAt r) (numberAt r'):=by
 unfold numberAt;refine(pu h).bindM (λσ a i e d=>?_);cases d
 split
 ·exact .aA (.inl ⟨rfl,rfl⟩)
 ·refine an.bindM (A:=dG) (.getObj (e _ _ h) (λf g b=>.pure b)) (λk f g j b=>?_);cases b using dG.ind with
  |number c l=>exact .aA (.inr ⟨_,_,_,rfl,rfl,c⟩)
  |_=>exact .aA (.inl ⟨rfl,rfl⟩)
def jV{a a':VI}(h:cP ρ a a'):an P P' (λσ (x y:VI×Bool)=>cP σ x.1 y.1/\x.2=y.2) ρ (XN a) (XN a'):=by
 unfold XN;refine(zk h.1).bindM (λσ x y d b=>?_);rcases b with⟨rfl,rfl⟩|⟨e,f,g,rfl,rfl,c⟩
 ·exact .aA ⟨h.mono d,rfl⟩
 ·exact .aA ⟨c,rfl⟩
theorem rI(L:Alike G P P'):∀(d:Nat) {ρ:aN G} (t:Vc) {x u y w:U},aq ρ x u->aq ρ y w->an P P' (iX (α:=Bool)) ρ (Op.equalIn d t x y) (Op.equalIn d t u w)
 |0,ρ,t,x,u,y,w,c,a=>by unfold Op.equalIn;exact an.dx
 |d+1,ρ,t,x,u,y,w,c,a=>by
  unfold Op.equalIn;refine(aO L.S t).bindM (λaa V aw H I=>?_);obtain⟨rfl,I⟩:=I;have c:=c.mono H;have a:=a.mono H;cases V with
  |struct N=>
   cases c using aq.ind with
   |agg k o=>
    cases a using aq.ind with
    |agg B C=>
     dsimp only;refine .asks ?_;rw[L.JE]
     split
     ·exact fw
     ·refine an.bindM (A:=iX) (Hi N _ (λp e f _ h=>?_)) (λp g h e b=>?_)
      ·split
       ·refine(lV L.S f.type (aW.mono e ⟨k,o⟩) _).bindM (λz v W q s=>?_);refine(lV L.S f.type (aW.mono (e.trans q) ⟨B,C⟩) _).bindM (λA X Z i D=>?_);refine(rI L d f.type (s.mono i) D).bindM (λab g h _ b=>?_);cases b
        split<;>exact .aA Y
       ·exact .aA Y
      ·cases b
       split<;>exact .aA Y
    |_=>exact an.stuck
   |_=>cases a using aq.ind<;>exact an.stuck
  |array ao j=>
   cases c using aq.ind with
   |agg k o=>
    cases a using aq.ind with
    |agg B C=>
     dsimp only;refine(cW L.S j).bindM (λp r T e b=>?_);cases b;rw[WC,WC];refine an.bindM (A:=iX) (tX _ _ (λz q al _ h=>?_)) (λp g h e b=>?_)
     ·refine(lV L.S j (aW.mono (e.trans q) ⟨k,o⟩) _).bindM (λz v W i s=>?_);refine(lV L.S j (aW.mono (e.trans (q.trans i)) ⟨B,C⟩) _).bindM (λA X Z i D=>?_);refine(rI L d j (s.mono i) D).bindM (λab g h _ b=>?_);cases b
      split<;>exact .aA Y
     ·cases b
      split<;>exact .aA Y
    |_=>exact an.stuck
   |_=>cases a using aq.ind<;>exact an.stuck
  |interface ar=>
   cases c using aq.ind with
   |nilIface=>cases a using aq.ind<;>first|exact an.stuck|exact .aA Y
   |iface F s=>
    cases a using aq.ind with
    |nilIface=>exact .aA Y
    |iface au R=>
     dsimp only
     split
     ·exact .aA Y
     ·refine(fF L.S F).bindM (λp g h e b=>?_);obtain⟨rfl,-⟩:=b
      split
      ·refine .asks ?_;refine .asks ?_;rw[L.NI,L.depth]
       split
       ·exact fw
       ·exact(Le L F).bindM (λp g h _ b=>by cases b;exact eF L.S _ (by simp) (by simp) (by simp))
      ·exact rI L d F (s.mono e) (R.mono e)
    |_=>exact an.stuck
   |_=>cases a using aq.ind<;>exact an.stuck
  |pointer j=>
   cases c using aq.ind with
   |cZ=>cases a using aq.ind<;>first|exact an.stuck|exact .aA Y
   |ptr l=>
    cases a using aq.ind with
    |cZ=>exact .aA Y
    |ptr n=>
     dsimp only;refine(cW L.S j).bindM (λp r T e b=>?_);cases b;rw[addr_eq l n]
     split
     ·exact zl (l.mono e) (n.mono e)
     ·split
      ·exact .aA Y
      ·exact qJ _ (λr=>.aA Y)
    |_=>exact an.stuck
   |_=>cases a using aq.ind<;>exact an.stuck
  |unsafePointer=>
   cases c using aq.ind with
   |cZ=>cases a using aq.ind<;>first|exact an.stuck|exact .aA Y
   |ptr l=>
    cases a using aq.ind with
    |cZ=>exact .aA Y
    |ptr n=>exact zl l n
    |_=>exact an.stuck
   |_=>cases a using aq.ind<;>exact an.stuck
  |chan ad j=>
   cases c using aq.ind with
   |iK=>cases a using aq.ind<;>first|exact an.stuck|exact .aA Y
   |chan l=>
    cases a using aq.ind with
    |iK=>exact .aA Y
    |chan n=>
     refine .aA ?_;have:=sN (ρ:=aa) (a:=⟨_,0,K⟩) (a':=⟨_,0,K⟩) (b:=⟨_,0,K⟩) (b':=⟨_,0,K⟩) ⟨l,rfl,rfl⟩ ⟨n,rfl,rfl⟩;simpa [iX] using this
    |_=>exact an.stuck
   |_=>cases a using aq.ind<;>exact an.stuck
  |int E=>
   cases c using aq.ind with
   |int S g=>
    rcases g with(_|r)|r
    all_goals
     cases a using aq.ind with
     |int am h=>
      rcases h with(_|m)|m
      all_goals
       dsimp only
       split
       ·exact .aA Y
       ·exact an.stuck
     |ptr ae=>first|exact .aA Y|exact an.dx
     |cZ=>exact an.dx
     |_=>exact an.stuck
   |cZ=>cases a using aq.ind<;>exact an.dx
   |ptr l=>
    cases a using aq.ind with
    |ptr n=>
     dsimp only;refine(jV l).bindM (λp g h e b=>?_);refine(jV (n.mono e)).bindM (λz J M q O=>?_);have k:=b.1.mono q;have o:=O.1;refine .asks ?_;rw[sN k o,L.yE,L.Nd];have Q:decide (g.1.block<G.g)=decide (h.1.block<G.g):=by
      rw[decide_eq_decide];exact z.PN _ _ k.1
     rw[Q]
     split
     ·refine(m9 L k).bindM (λA x y i b=>?_);cases b;refine(m9 L (o.mono i)).bindM (λA x y i b=>?_);cases b;exact .aA Y
     ·refine(fF L.S t).bindM (λA x y i b=>?_);obtain⟨rfl,-⟩:=b;rw[addr_eq k o]
      (repeat' split)<;>first|exact an.dx|exact .aA Y
    |int S g=>
     rcases g with(_|r)|r
     ·exact .aA Y
     ·exact an.dx
     ·exact an.dx
    |_=>exact an.dx
   |_=>cases a using aq.ind<;>first|exact an.stuck|exact an.dx
  |slice j=>cases c using aq.ind<;>first|exact an.stuck|(cases a using aq.ind<;>first|exact an.stuck|exact .aA Y)
  |map E M=>cases c using aq.ind<;>first|exact an.stuck|(cases a using aq.ind<;>first|exact an.stuck|exact .aA Y)
  |func g h J=>cases c using aq.ind<;>first|exact an.stuck|(cases a using aq.ind<;>first|exact an.stuck|exact .aA Y)
  |bool=>cases c using aq.ind<;>first|exact an.stuck|(cases a using aq.ind<;>first|exact an.stuck|exact .aA Y)
  |string=>cases c using aq.ind<;>first|exact an.stuck|(cases a using aq.ind<;>first|exact an.stuck|exact .aA Y)
  |float E=>cases c using aq.ind<;>first|exact an.stuck|(cases a<;>first|exact an.stuck|(dsimp only;split<;>first|exact .aA Y|exact an.stuck))
  |complex E=>cases c using aq.ind<;>first|exact an.stuck|(cases a<;>first|exact an.stuck|(dsimp only;split<;>first|exact .aA Y|exact an.stuck))
  |_=>cases c using aq.ind<;>first|exact an.stuck|(cases a<;>exact an.stuck)
end
end
section
variable {G:mG}
section
variable {P P':Vb}{ρ:aN G}
def CW(L:Alike G P P')(t:Vc){x a y b:U}(c:aq ρ x a)(d:aq ρ y b):an P P' (iX (α:=Bool)) ρ (Op.equal t x y) (Op.equal t a b):=rI L _ t c d
theorem qK(L:Alike G P P'):∀(d:Nat) {ρ:aN G} (t:Vc) {x k y l:U},aq ρ x k->aq ρ y l->an P P' (iX (α:=Bool)) ρ (Op.eqGuardIn d t x y) (Op.eqGuardIn d t k l)
 |0,ρ,t,x,k,y,l,e,b=>by unfold Op.eqGuardIn;exact an.dx
 |d+1,ρ,t,x,k,y,l,e,b=>by
  unfold Op.eqGuardIn;refine(aO L.S t).bindM (λR C Q w z=>?_);obtain⟨rfl,z⟩:=z;have e:=e.mono w;have b:=b.mono w;cases C with
  |struct B=>
   cases e using aq.ind with
   |agg n o=>
    cases b using aq.ind with
    |agg p q=>
     dsimp only;refine an.bindM (A:=iX) (Hi B _ (λu c f _ g=>?_)) (λu m g c a=>?_)
     ·split
      ·refine(lV L.S f.type (aW.mono c ⟨n,o⟩) _).bindM (λA v D j r=>?_);refine(lV L.S f.type (aW.mono (c.trans j) ⟨p,q⟩) _).bindM (λH E F h s=>?_);refine(qK L d f.type (r.mono h) s).bindM (λI m g _ a=>?_);cases a
       split<;>exact .aA Y
      ·exact .aA Y
     ·cases a
      split<;>exact .aA Y
    |_=>exact .aA Y
   |_=>cases b using aq.ind<;>exact .aA Y
  |array K i=>
   cases e using aq.ind with
   |agg n o=>
    cases b using aq.ind with
    |agg p q=>
     dsimp only;refine(cW L.S i).bindM (λu N O c a=>?_);cases a;rw[WC,WC];refine an.bindM (A:=iX) (tX _ _ (λA j J _ g=>?_)) (λu m g c a=>?_)
     ·refine(lV L.S i (aW.mono (c.trans j) ⟨n,o⟩) _).bindM (λA v D h r=>?_);refine(lV L.S i (aW.mono (c.trans (j.trans h)) ⟨p,q⟩) _).bindM (λH E F h s=>?_);refine(qK L d i (r.mono h) s).bindM (λI m g _ a=>?_);cases a
      split<;>exact .aA Y
     ·cases a
      split<;>exact .aA Y
    |_=>exact .aA Y
   |_=>cases b using aq.ind<;>exact .aA Y
  |interface M=>cases e using aq.ind<;>first|exact .aA Y|(cases b using aq.ind<;>exact .aA Y)
  |_=>cases e using aq.ind<;>first|exact .aA Y|(cases b<;>exact .aA Y)
def KZ(L:Alike G P P')(f:Zw)(t:Vc)(x y:V4){a a' b b':U}(e:aq ρ a a')(c:aq ρ b b'):an P P' (iX (α:=Unit)) ρ (eqGuard f t x y a b) (eqGuard f t x y a' b'):=by
 have h:∀{d:aN G} {s:String} {a a' b b':U},aq d a a'->aq d b b'->an P P' (iX (α:=Unit)) d (do if <-Op.eqGuardIn Op.maxDepth t a b then unsupported (.noEntry s)) (do if <-Op.eqGuardIn Op.maxDepth t a' b' then unsupported (.noEntry s)):=λe c=>
  (qK L _ t e c).bindM (λd a b _ n=>by
    cases n
    split
    ·exact an.dx
    ·exact .aA Y)
 have i:an P P' (iX (α:=Unit)) ρ (eqGuard .eql t x y a b) (eqGuard .eql t x y a' b'):=by
  unfold eqGuard;cases e using aq.ind with
  |nilIface=>
   cases c using aq.ind with
   |nilIface=>cases x<;>cases y<;>first|exact an.aA (A:=iX (α:=Unit)) Y|exact h .nilIface .nilIface
   |_=>exact an.aA (A:=iX (α:=Unit)) Y
  |agg j k=>
   cases c using aq.ind with
   |agg l m=>
    refine an.asks (k:=λg=>_) (k':=λg=>_) ?_;refine an.asks (k:=λg=>_) (k':=λg=>_) ?_;rw[L.T5,L.depth]
    split
    ·exact .aA Y
    ·exact h (.agg j k) (.agg l m)
   |_=>exact an.aA (A:=iX (α:=Unit)) Y
  |_=>cases c using aq.ind<;>exact an.aA (A:=iX (α:=Unit)) Y
 cases f<;>first|exact an.aA (A:=iX (α:=Unit)) rfl|exact i
def nQ(L:Alike G P P')(e:Array Vc)(t:Vc){x f:U}(k:XL)(n:Int)(i:aq ρ x f):an P P' aq ρ (Yq e t #[x,.int k n]) (Yq e t #[f,.int k n]):=by
 unfold Yq;cases i using aq.ind with
 |cZ=>
  dsimp only;refine(pp (.int k n)).bindM (λl g h c a=>?_);cases a
  split
  ·exact an.dx
  ·split<;>exact an.dx
 |ptr b=>
  dsimp only;refine(pp (.int k n)).bindM (λl g h c a=>?_);cases a
  split
  ·refine(E9 (c _ _ b.1)).bindM (λm x j d a=>?_);obtain⟨rfl,rfl⟩:=a;exact .aA (.ptr (b.mono (c.trans d)))
  ·split
   ·exact an.dx
   ·refine(pu (c _ _ b.1)).bindM (λm x j d a=>?_);cases a;cases x with
    |none=>exact an.dx
    |some o=>
     dsimp only;refine .asks ?_;rw[L.cells,L.cellAt,L.depth,<-b.2.1]
     split
     ·exact .aA (.ptr ⟨(c.trans d) _ _ b.1,rfl,b.2.2⟩)
     ·exact an.dx
 |_=>exact an.stuck
def jg(L:Alike G P P')(t:Vc){o o':Option VI}(k:XL)(n:Int)(d:aq ρ (.pointer o) (.pointer o')):an P P' aq ρ (movedNumber t (.pointer o) (.int k n)) (movedNumber t (.pointer o') (.int k n)):=by
 unfold movedNumber;refine(aO L.S t).bindM (λj i y q h=>?_);obtain⟨rfl,h⟩:=h;have d:=d.mono q;cases d using aq.ind with
 |ptr m=>
  rename_i f l;have e:an P P' aq j (XN f >>= λa=>Yq #[] t #[.pointer (I a.1),.int k n] >>= λc=>match c with| .pointer (I b)=>asNumber b a.2|v=>pure v) (XN l >>= λa=>Yq #[] t #[.pointer (I a.1),.int k n] >>= λc=>match c with| .pointer (I b)=>asNumber b a.2|v=>pure v):=by
   refine(jV m).bindM (λA f b u g=>?_);refine(nQ L _ _ k n (.ptr g.1)).bindM (λB v z w s=>?_);rw[g.2];cases s using aq.ind with
   |ptr p=>exact .new (.number p _) (λc x r=>.pure (.ptr ⟨aN.xA _ _ _ r,rfl,rfl⟩))
   |_=>exact .aA (by first|exact .bool _|exact .int _ _|exact .string _|exact .cZ|exact .ptr ‹_› |exact .jR _ _|exact .sl ‹_› _ _|exact .kG|exact .map ‹_› |exact .iK|exact .chan ‹_› |exact .nilFunc|exact .nilIface|exact .iface _ ‹_› |exact .agg ‹_› ‹_› |exact .tuple ‹_› ‹_› |exact .func ‹_› ‹_› ‹_› ‹_› ‹_›)
  cases i<;>first|exact fw|exact e
 |cZ=>
  have e:=nQ L (ρ:=j) #[] t k n .cZ;cases i<;>first|exact fw|exact e
def zh(L:Alike G P P')(t:Vc){o o':Option VI}(k:XL)(n:Int)(d:aq ρ (.pointer o) (.pointer o')):an P P' aq ρ (movedPointer t (.pointer o) (.int k n)) (movedPointer t (.pointer o') (.int k n)):=by
 unfold movedPointer;cases d using aq.ind with
 |cZ=>exact nQ L _ _ k n .cZ
 |ptr a=>
  refine(zk a.1).bindM (λl i j c b=>?_);rcases b with⟨rfl,rfl⟩|⟨e,f,h,rfl,rfl,g⟩
  ·exact nQ L #[] t k n (.ptr (a.mono c))
  ·exact fw
def wm(L:Alike G P P'){a a' b b':VI}(c:cP ρ a a')(e:cP ρ b b'):an P P' (iX (α:=Nat×Nat)) ρ (Op.twoPlaces a b) (Op.twoPlaces a' b'):=by
 unfold Op.twoPlaces;refine .asks ?_;have g:decide (a.block>=G.g)=decide (a'.block>=G.g):=by
  rw[decide_eq_decide];have:=ρ.PN _ _ c.1;omega
 have h:(a.block !=b.block)=(a'.block !=b'.block):=by
  have:=sN c e;simp only[bne,this]
 rw[L.yE,L.Nd,h,g]
 split
 ·exact fw
 ·refine(m9 L c).bindM (λk i j f d=>?_);cases d;refine(m9 L (e.mono f)).bindM (λk i j f d=>?_);cases d;exact .aA Y
def BC(L:Alike G P P')(k:XL){a a':VI}(n:Int)(d:cP ρ a a'):an P P' aq ρ (Op.addrMod k a n) (Op.addrMod k a' n):=by
 unfold Op.addrMod;refine(pu d.1).bindM (λh c f e b=>?_);cases b;cases c with
 |none=>exact an.dx
 |some i=>
  refine(fF L.S _).bindM (λj c f g b=>?_);obtain⟨rfl,-⟩:=b;dsimp only
  split
  ·exact fw
  ·refine(m9 L (d.mono (e.trans g))).bindM (λh c f e b=>?_);cases b;exact .aA (.int _ _)
def Hj(c:Zw)(k:XL)(a b:Int):an P P' (aq (ρ:=·)) ρ (Op.intArith c k a b) (Op.intArith c k a b):=by
 cases c<;>first|exact .aA (.int _ _)|exact an.stuck
def La(c:Zw)(k:XL)(a b:Int):an P P' (aq (ρ:=·)) ρ (Op.intBits c k a b) (Op.intBits c k a b):=by
 cases c<;>first|exact .aA (.int _ _)|exact an.stuck
def NS(c:Zw)(a b:Int):an P P' (aq (ρ:=·)) ρ (Op.intCmp c a b) (Op.intCmp c a b):=by
 cases c<;>first|exact .aA (.bool _)|exact an.stuck
def NT(L:Alike G P P')(c:Zw)(k:XL)(a b:Int):an P P' (aq (ρ:=·)) ρ (Op.intDiv c k a b) (Op.intDiv c k a b):=by
 unfold Op.intDiv
 split
 ·exact eF L.S _ (by simp) (by simp) (by simp)
 ·cases c<;>first|exact .aA (.int _ _)|exact an.stuck
def Qu(L:Alike G P P')(c:Zw)(k:XL)(a:Int)(d:XL)(b:Int):an P P' (aq (ρ:=·)) ρ (Op.shift c k a d b) (Op.shift c k a d b):=by
 unfold Op.shift
 split
 ·exact eF L.S _ (by simp) (by simp) (by simp)
 ·cases c<;>first|exact .aA (.int _ _)|exact an.stuck
def Hr(c:Zw)(a b:ByteArray):an P P' (aq (ρ:=·)) ρ (Op.stringOp c a b) (Op.stringOp c a b):=by
 cases c
 all_goals
  unfold Op.stringOp;dsimp only
  first
  |exact .aA (.bool _)
  |exact an.stuck
  |(split
    ·exact an.dx
    ·exact .aA (.string _))
def SE(L:Alike G P P')(c:Zw)(t:Vc)(k:XL)(a:Int)(d:XL)(b:Int):an P P' (aq (ρ:=·)) ρ (binOp c t (.int k a) (.int d b)) (binOp c t (.int k a) (.int d b)):=by
 cases c
 all_goals
  unfold binOp;dsimp only
  first
  |exact Qu L _ _ _ _ _
  |(split
    ·exact an.stuck
    ·first|exact Hj _ _ _ _|exact NT L _ _ _ _|exact La _ _ _ _|exact NS _ _ _)
def Qo(L:Alike G P P')(c:Zw)(t:Vc){x l y m:U}(p:aq ρ x l)(k:aq ρ y m):an P P' aq ρ (binOp c t x y) (binOp c t l m):=by
 have f:∀{x l y m:U},aq ρ x l->aq ρ y m->an P P' aq ρ (do pure (.bool (<-Op.equal t x y))) (do pure (.bool (<-Op.equal t l m))):=λp k=>(CW L t p k).bindM (λq h i _ j=>by cases j;exact .aA (.bool _));have g:∀{x l y m:U},aq ρ x l->aq ρ y m->an P P' aq ρ (do pure (.bool (!(<-Op.equal t x y)))) (do pure (.bool (!(<-Op.equal t l m)))):=λp k=>(CW L t p k).bindM (λq h i _ j=>by cases j;exact .aA (.bool _));have a:=p;have b:=k;have B:∀{w z:Option VI} (d:XL) (o:Int),aq ρ (.pointer w) (.pointer z)->an P P' aq ρ (do if (<-Yt t) matches .unsafePointer then movedPointer t (.pointer w) (.int d o) else movedNumber t (.pointer w) (.int d o)) (do if (<-Yt t) matches .unsafePointer then movedPointer t (.pointer z) (.int d o) else movedNumber t (.pointer z) (.int d o)):=λd o e=>by
  refine(aO L.S t).bindM (λq K O n H=>?_);obtain⟨rfl,-⟩:=H;have e:=e.mono n;cases K<;>first|exact zh L t d o e|exact jg L t d o e
 cases p using aq.ind with
 |int d h=>
  cases k using aq.ind with
  |int I i=>exact SE L c t d h I i
  |ptr e=>
   cases c<;>first
    |exact f (.int d h) (.ptr e)
    |exact g (.int d h) (.ptr e)
    |exact jg L t d h (.ptr e)
    |exact(jV e).bindM (λq h i n j=>BC L _ _ j.1)
    |exact an.dx
  |cZ=>
   cases c<;>first
    |exact f (.int d h) .cZ
    |exact g (.int d h) .cZ
    |exact jg L t d h .cZ
    |exact an.dx
  |_=>cases c<;>first|exact f a b|exact g a b|exact an.stuck
 |string s=>
  cases k using aq.ind with
  |string J=>cases c<;>(unfold binOp;exact Hr _ s J)
  |ptr e=>cases c<;>first|exact f a b|exact g a b|exact an.dx
  |cZ=>cases c<;>first|exact f a b|exact g a b|exact an.dx
  |_=>cases c<;>first|exact f a b|exact g a b|exact an.stuck
 |ptr e=>
  cases k using aq.ind with
  |int d i=>
   cases c<;>first
    |exact f a b
    |exact g a b
    |exact B d i a
    |exact jg L t d (-i) a
    |exact(jV e).bindM (λq h i n j=>BC L _ _ j.1)
    |exact an.dx
  |ptr A=>
   have F:an P P' aq ρ (do Op.addrSub .u64 (<-XN _).1 (<-XN _).1) (do Op.addrSub .u64 (<-XN _).1 (<-XN _).1):=
    (jV e).bindM (λq h i n j=>(jV (A.mono n)).bindM (λM C D u r=>(wm L (j.1.mono u) r.1).bindM (λN x y _ v=>by cases v;exact .aA (.int _ _))))
   have E:∀c,an P P' aq ρ (do Op.addrCmp c (<-XN _).1 (<-XN _).1) (do Op.addrCmp c (<-XN _).1 (<-XN _).1):=λc=>
    (jV e).bindM (λq h i n j=>(jV (A.mono n)).bindM (λM C D u r=>(wm L (j.1.mono u) r.1).bindM (λN x y _ v=>by cases v;cases c<;>first|exact .aA (.bool _)|exact an.dx)))
   cases c<;>first
    |exact f a b
    |exact g a b
    |exact F
    |exact E _
    |exact an.dx
  |_=>cases c<;>first|exact f a b|exact g a b|exact an.dx
 |cZ=>
  cases k using aq.ind with
  |int d i=>
   cases c<;>first
    |exact f a b
    |exact g a b
    |exact B d i a
    |exact jg L t d (-i) a
    |exact an.dx
  |_=>cases c<;>first|exact f a b|exact g a b|exact an.dx
 |_=>
  cases k using aq.ind with
  |ptr e=>cases c<;>first|exact f a b|exact g a b|exact an.dx
  |cZ=>cases c<;>first|exact f a b|exact g a b|exact an.dx
  |_=>cases c<;>first|exact f a b|exact g a b|exact an.stuck
end
end
section
variable {G:mG}
def fj (ρ:aN G)(f:List WQ)(g:List WQ):Prop:=∀a:List WQ->List WQ->Prop,(a [] [])->(∀{b c:WQ} {d e:List WQ} (h:tB ρ b c) (i:a d e),a (b::d) (c::e))->a f g
def fj.nil{ρ:aN G}:fj ρ [] []:=λb a c=>a
def fj.cons{ρ:aN G}{e e':WQ}{l b:List WQ}(h:tB ρ e e')(f:fj ρ l b):fj ρ (e::l) (e'::b):=λc d a=>a h (f c d a)
def fj.ind{ρ:aN G}{d:∀(a:List WQ) (b:List WQ),fj ρ a b->Prop}(nil:d _ _ (fj.nil))(cons:∀{e e':WQ} {l f:List WQ} (h:tB ρ e e') (c:fj ρ l f),(d _ _ c)->d _ _ (fj.cons h c)){a:List WQ}{b:List WQ}(h:fj ρ a b):d a b h:=(h (λa b=>fj ρ a b/\∀h,d a b h) (⟨fj.nil,λ_=>nil⟩) (λh c=>⟨fj.cons h c.1,λ_=>cons h c.1 (c.2 _)⟩)).2 h
def fj.mono{ρ σ:aN G}(b:ρ.le σ){l a:List WQ}(h:fj ρ l a):fj σ l a:=by
 induction h using fj.ind with
 |nil=>exact .nil
 |cons h _ c=>exact .cons (h.mono b) c
theorem Eu{ρ:aN G}:∀(l a:List WQ),l.length=a.length->(∀i (h:i<l.length) (e:i<a.length),tB ρ l[i] a[i])->fj ρ l a
 | [],[],_,_=>.nil
 | [],_::_,h,_=>by simp at h
 |_::_,[],h,_=>by simp at h
 |v::l,f::a,h,b=>.cons (b 0 (by simp) (by simp)) (Eu l a (by simpa using h) (λi c d=>b (i+1) (by simpa using c) (by simpa using d)))
def og (ρ:aN G)(es b:Array WQ):Prop:=es.size=b.size/\∀a (c:a<es.size) (d:a<b.size),tB ρ es[a] b[a]
def og.mono{ρ σ:aN G}(d:ρ.le σ){l a:Array WQ}(h:og ρ l a):og σ l a:=⟨h.1,λe b c=>(h.2 e b c).mono d⟩
def og.toList{ρ:aN G}{es a:Array WQ}(h:og ρ es a):fj ρ es.toList a.toList:=
 Eu _ _ (by simpa using h.1) (λd b c=>by simpa using h.2 d (by simpa using b) (by simpa using c))
def plainKey(P:Vb):Nat->Vc->Bool
 |0,_=>Z
 |d+1,c=>match P.underlying c with
  |some (.interface _)=>U5
  |some (.array _ a)=>plainKey P d a
  |some (.struct b)=>b.toList.all λf=>plainKey P d f.type
  |_=>Z
section
variable {P P':Vb}{ρ:aN G}
theorem pq(L:Alike G P P')(j k:Bool):∀(d:Nat) {ρ:aN G} (t:Vc) {v c:U},plainKey P d t=Z->aq ρ v c->an P P' (iX (α:=Unit)) ρ (YU j d t v) (YU k d t c)
 |0,ρ,t,v,c,a,b=>by unfold YU;exact an.dx
 |d+1,ρ,t,v,c,a,b=>by
  unfold YU;refine(aO L.S t).bindM (λJ z I y o=>?_);obtain⟨rfl,o⟩:=o;have b:=b.mono y;unfold plainKey at a;rw[o] at a;cases z with
  |interface E=>simp at a
  |struct u=>
   cases b using aq.ind with
   |agg l m=>
    dsimp only;refine an.bindM (A:=iX) (Hi u _ (λq g f w e=>?_)) (λq h e g n=>.aA Y);have x:plainKey P d f.type=Z:=by
     simp only at a;exact Vx.1 a f w
    split
    ·refine(lV L.S f.type (aW.mono g ⟨l,m⟩) _).bindM (λA v c r p=>?_);exact(pq L j k d f.type x p).bindM (λs h e _ _=>.aA Y)
    ·exact .aA Y
   |_=>exact an.stuck
  |array D i=>
   cases b using aq.ind with
   |agg l m=>
    dsimp only;rw[WC,WC];refine an.bindM (A:=iX) (tX _ _ (λq g C _ e=>?_)) (λq h e g n=>.aA Y);refine(cW L.S i).bindM (λA F H r n=>?_);cases n;refine(lV L.S i (aW.mono (g.trans r) ⟨l,m⟩) _).bindM (λs v c B p=>?_);exact(pq L j k d i (by simpa using a) p).bindM (λs h e _ _=>.aA Y)
   |_=>exact an.stuck
  |_=>cases b using aq.ind<;>exact .aA Y
def kX (ρ:aN G)(d:Option (Nat×U))(e:Option (Nat×U)):Prop:=∀a:Option (Nat×U)->Option (Nat×U)->Prop,(a K K)->(∀(b:Nat) {v c:U} (f:aq ρ v c),a (I (b,v)) (I (b,c)))->a d e
def kX.none{ρ:aN G}:kX ρ K K:=λb a c=>a
def kX.some{ρ:aN G}(i:Nat){v a:U}(h:aq ρ v a):kX ρ (I (i,v)) (I (i,a)):=λc d b=>b i h
def kX.ind{ρ:aN G}{c:∀(a:Option (Nat×U)) (b:Option (Nat×U)),kX ρ a b->Prop}(none:c _ _ (kX.none))(some:∀(i:Nat) {v d:U} (h:aq ρ v d),c _ _ (kX.some i h)){a:Option (Nat×U)}{b:Option (Nat×U)}(h:kX ρ a b):c a b h:=(h (λa b=>kX ρ a b/\∀h,c a b h) (⟨kX.none,λ_=>none⟩) (λi {v} {d} h=>⟨kX.some i h,λ_=>some i h⟩)).2 h
theorem tW(L:Alike G P P')(t:Vc):∀(es c:List WQ) {ρ:aN G} {k k':U} (i:Nat),aq ρ k k'->fj ρ es c->an P P' kX ρ (Instr.findAsking t k es i) (Instr.findAsking t k' c i)
 | [],[],ρ,k,k',i,b,a=>.aA .none
 | [],_::_,ρ,k,k',i,b,a=>by cases a using fj.ind
 |_::_,[],ρ,k,k',i,b,a=>by cases a using fj.ind
 |e::es,m::c,ρ,k,k',i,b,a=>by
  cases a using fj.ind with
  |cons f h=>
   unfold Instr.findAsking;refine(CW L t b f.key).bindM (λn j l d g=>?_);cases g
   split
   ·exact .aA (.some _ (f.val.mono d))
   ·exact tW L t es c _ (b.mono d) (h.mono d)
def Ob(d:TypeDesc){x a y b:U}(c:aq ρ x a)(e:aq ρ y b):Instr.sameNow d x y=Instr.sameNow d a b:=by
 cases c using aq.ind<;>cases e using aq.ind<;>first|rfl|(cases d<;>rfl)
theorem Ex(d:TypeDesc){k k':U}(f:aq ρ k k'):∀(es b:List WQ) (i:Nat),fj ρ es b->(Instr.findNow d k es i=K/\Instr.findNow d k' b i=K)\/∃x g,Instr.findNow d k es i=I x/\Instr.findNow d k' b i=I g/\kX ρ x g
 | [],[],i,a=>.inr ⟨_,_,rfl,rfl,.none⟩
 | [],_::_,i,a=>by cases a using fj.ind
 |_::_,[],i,a=>by cases a using fj.ind
 |e::es,j::b,i,a=>by
  cases a using fj.ind with
  |cons c h=>
   unfold Instr.findNow;rw[Ob d f c.key]
   split
   ·exact .inr ⟨_,_,rfl,rfl,.some _ c.val⟩
   ·exact Ex d f es b (i+1) h
   ·exact .inl ⟨rfl,rfl⟩
def BE(L:Alike G P P')(t:Vc){k k':U}{es a:List WQ}(e:aq ρ k k')(h:fj ρ es a):an P P' kX ρ (Zn t k es) (Zn t k' a):=by
 unfold Zn;refine(aO L.S t).bindM (λn i j b g=>?_);obtain⟨rfl,-⟩:=g;rcases Ex i (e.mono b) es a 0 (h.mono b) with⟨c,d⟩|⟨l,m,c,d,f⟩
 ·rw[c,d];exact tW L t es a 0 (e.mono b) (h.mono b)
 ·rw[c,d];exact .aA f
def NV(L:Alike G P P')(t:Vc){x z k k':U}(ok:Bool)(C:∀a b,P.underlying t=I (.map a b)->plainKey P 10000 a=Z)(s:aq ρ x z)(h:aq ρ k k'):an P P' aq ρ (Instr.lookup t x k ok) (Instr.lookup t z k' ok):=by
 unfold Instr.lookup;refine(aO L.S t).bindM (λR K Q p r=>?_);obtain⟨rfl,r⟩:=r;cases K with
 |map e n=>
  have u:∀{d:aN G} {f g:Array WQ},ρ.le d->og d f g->an P P' aq d (do
   YU f.isEmpty 10000 e k
   let (v,c) <-match <-Zn e k f.toList with
    |some (_,v)=>pure (v,Z)
    |none=>pure (<-Xl n,U5)
   pure (if ok then .tuple #[v,.bool c] else v)) (do
   YU g.isEmpty 10000 e k'
   let (v,c) <-match <-Zn e k' g.toList with
    |some (_,v)=>pure (v,Z)
    |none=>pure (<-Xl n,U5)
   pure (if ok then .tuple #[v,.bool c] else v)):=by
   intro d f g y B;have w:∀{d:aN G} {v m:U} (c:Bool),aq d v m->aq d (if ok then .tuple #[v,.bool c] else v) (if ok then .tuple #[m,.bool c] else m):=by
    intro d v m c j;cases ok
    ·exact j
    ·exact .tuple Y (λl o N=>by
      have:l=0\/l=1:=by simp at o;omega
      rcases this with rfl|rfl
      ·exact j
      ·exact .bool _)
   refine(pq L _ _ _ e (C _ _ r) (h.mono y)).bindM (λS a b i _=>?_);refine(BE L e (h.mono (y.trans i)) (B.mono i).toList).bindM (λT a b O A=>?_);cases A using kX.ind with
   |none=>exact(jG L.S n).bindM (λV a b _ H=>.aA (w _ H))
   |some l j=>exact .aA (w _ j)
  have s:=s.mono p;cases s using aq.ind with
  |kG=>exact u p ⟨rfl,λl o=>by simp at o⟩
  |map E=>
   refine an.bindM (A:=dG) (.getObj E (λc J q=>.pure q)) (λd c J i q=>?_);cases q using dG.ind with
   |map F D M=>exact u (p.trans i) ⟨F,D⟩
   |_=>exact an.stuck
  |_=>exact an.stuck
 |_=>exact an.stuck
def Q6(f:U->U->Bool){l c:List U}(h:ja ρ l c):∀{m m':List U},ja ρ m m'->(∀x d y e,aq ρ x d->aq ρ y e->f x y=f d e)->((l.zip m).all fun(x,y)=>f x y)=((c.zip m').all fun(x,y)=>f x y):=by
 induction h using ja.ind with
 |nil=>intro m m' _ _;simp
 |cons g _ j=>
  intro m m' a b;cases a using ja.ind with
  |nil=>simp
  |cons i a=>
   simp only[List.zip_cons_cons,List.all_cons];rw[b _ _ _ _ g i,j a b]
def NF{a a' b b':Nat}(c:ρ.f a=I a')(d:ρ.f b=I b'):(a==b)=(a'==b'):=by
 have:=sN (ρ:=ρ) (a:=⟨a,0,K⟩) (a':=⟨a',0,K⟩) (b:=⟨b,0,K⟩) (b':=⟨b',0,K⟩) ⟨c,rfl,rfl⟩ ⟨d,rfl,rfl⟩;simpa using this
theorem vz:∀(n:Nat) {x c y d:U},aq ρ x c->aq ρ y d->YC n x y=YC n c d
 |0,x,c,y,d,e,f=>by
  cases e using aq.ind<;>cases f using aq.ind<;>first
   |rfl
   |(rename_i a _ _ b;simp only[YC];have:=addr_eq a b;simpa using this)
   |(rename_i a _ _ b;simp only[YC];have:=NF a b;simpa using this)
 |n+1,x,c,y,d,e,f=>by
  cases e using aq.ind<;>cases f using aq.ind<;>first
   |rfl
   |(rename_i a _ _ b;simp only[YC];have:=addr_eq a b;simpa using this)
   |(rename_i a _ _ b;simp only[YC];have:=NF a b;simpa using this)
   |(rename_i a _ _ _ b _ _;simp only[YC];rw[vz n a b])
   |(rename_i a b _ _ g h _ _;simp only[YC,a,g];rw[Q6 (YC n) (aW.toList ⟨a,b⟩) (aW.toList ⟨g,h⟩) (λ_ _ _ _ i j=>vz n i j)])
end
end
section
variable {G:mG}
section
variable {P P':Vb}{ρ:aN G}
def og.push{es a:Array WQ}(h:og ρ es a){e e':WQ}(b:tB ρ e e'):og ρ (es.push e) (a.push e'):=by
 refine⟨by simp[h.1],λc d f=>?_⟩;simp only[Array.getElem_push];have:=h.1
 split
 ·rw[dif_pos (by omega)];exact h.2 c _ _
 ·rw[dif_neg (by omega)];exact b
def og.modify{es a:Array WQ}(h:og ρ es a)(i:Nat){f f':WQ->WQ}(c:∀e e',tB ρ e e'->tB ρ (f e) (f' e')):og ρ (es.modify i f) (a.modify i f'):=by
 refine⟨by simp[h.1],λb d g=>?_⟩;simp only[Array.getElem_modify]
 split
 ·exact c _ _ (h.2 b _ _)
 ·exact h.2 b _ _
def zg{a a' b b':U}(d:aq ρ a a')(c:aq ρ b b'):an P P' aq ρ (Instr.keyThatStays a b) (Instr.keyThatStays a' b'):=by
 unfold Instr.keyThatStays;rw[vz _ d c]
 split
 ·exact .aA c
 ·refine qJ _ (λe=>.aA ?_)
  split
  ·exact c
  ·exact d
def wh(L:Alike G P P')(t:Vc){m m' k k' v j:U}(M:∀a b,P.underlying t=I (.map a b)->plainKey P 10000 a=Z)(q:aq ρ m m')(d:aq ρ k k')(C:aq ρ v j):an P P' (iX (α:=Unit)) ρ (Instr.mapUpdate t m k v) (Instr.mapUpdate t m' k' j):=by
 unfold Instr.mapUpdate;refine(aO L.S t).bindM (λad R ab y s=>?_);obtain⟨rfl,s⟩:=s;cases R with
 |map E aa=>
  have q:=q.mono y;cases q using aq.ind with
  |kG=>exact eF L.S _ (by simp) (by simp) (by simp)
  |map A=>
   refine an.bindM (A:=dG) (.getObj A (λO Q r=>.pure r)) (λV O Q z r=>?_);cases r using dG.ind with
   |map N J u=>
    rename_i l w;have x:og V l w:=⟨N,J⟩;have p:=y.trans z;refine(pq L _ _ _ E (M _ _ s) (d.mono p)).bindM (λae _ _ e _=>?_);refine(BE L E (d.mono (p.trans e)) (x.mono e).toList).bindM (λW a b n H=>?_);have c:=x.mono (e.trans n);have f:=p.trans (e.trans n);have B:=(z.trans (e.trans n)) _ _ A;cases H using kX.ind with
    |none=>
     have:=c.push (e:=⟨k,v,u⟩) (e':=⟨k',j,u⟩) ⟨d.mono f,C.mono f,rfl⟩;exact .setObj B (.map this.1 this.2 _) (.pure Y)
    |some g D=>
     have K:aq W ((l[g]?.map (·.key)).getD k) ((w[g]?.map (·.key)).getD k'):=by
      by_cases i:g<l.size
      ·rw[VT i,VT (by rw[<-c.1];exact i)];exact(c.2 g i (by rw[<-c.1];exact i)).key
      ·rw[Wl (by omega),Wl (by have:=c.1;omega)];exact d.mono f
     refine(zg K (d.mono f)).bindM (λal S T o D=>?_);have:=(c.mono o).modify g (f:=λh=>{h with key:=S,val:=v}) (f':=λh=>{h with key:=T,val:=j}) (λh X F=>⟨D,C.mono (f.trans o),F.born⟩);exact .setObj (o _ _ B) (.map this.1 this.2 _) (.pure Y)
   |_=>exact an.stuck
  |_=>exact an.stuck
 |_=>exact an.stuck
def CY{v a:U}(h:aq ρ v a):an P P' (iX (α:=Nat)) ρ (YO v) (YO a):=by
 cases h using aq.ind<;>first|exact .aA rfl|exact an.stuck
def OS(s:ByteArray):aW ρ (s.data.map λb=>.int .u8 b.toNat) (s.data.map λb=>.int .u8 b.toNat):=
 ⟨rfl,λd a c=>by simp only[Array.getElem_map];exact .int _ _⟩
def jW(a n:Nat){v b:U}(h:aq ρ v b):an P P' aW ρ (XP a n v) (XP a n b):=by
 cases h using aq.ind with
 |sl d m c=>exact we _ d
 |jR m c=>exact .aA (aW.nil _)
 |string s=>exact .aA (OS _)
 |_=>exact an.stuck
def TT(L:Alike G P P')(j:Array Vc)(t:Vc){vs m:Array U}(h:aW ρ vs m):an P P' aq ρ (Builtin.len_ j t vs) (Builtin.len_ j t m):=by
 unfold Builtin.len_;cases j[0]? with
 |none=>rcases h.get 0 with⟨b,c⟩|⟨v,A,b,c,d⟩<;>(rw[b,c];exact an.stuck)
 |some y=>
  rcases h.get 0 with⟨b,c⟩|⟨v,A,b,c,d⟩
  ·rw[b,c];exact an.stuck
  ·rw[b,c];dsimp only;refine(aO L.S y).bindM (λB k z l e=>?_);obtain⟨rfl,e⟩:=e;have d:=d.mono l;cases k with
   |pointer o=>
    refine(aO L.S o).bindM (λB k z l e=>?_);obtain⟨rfl,e⟩:=e;cases k<;>first|exact .aA (.int _ _)|exact an.stuck
   |array x D=>exact .aA (.int _ _)
   |map n p=>
    cases d using aq.ind with
    |map f=>
     refine an.bindM (A:=dG) (.getObj f (λg i a=>.pure a)) (λC g i u a=>?_);cases a using dG.ind with
     |map w E q=>dsimp only;rw[w];exact .aA (.int _ _)
     |_=>exact an.stuck
    |kG=>exact .aA (.int _ _)
    |_=>exact an.stuck
   |chan n p=>
    cases d using aq.ind with
    |chan f=>
     refine an.bindM (A:=dG) (.getObj f (λg i a=>.pure a)) (λC g i u a=>?_);cases a using dG.ind with
     |chan x r q s F H=>dsimp only;rw[r.1];exact .aA (.int _ _)
     |_=>exact an.stuck
    |iK=>exact .aA (.int _ _)
    |_=>exact an.stuck
   |_=>cases d using aq.ind<;>first|exact .aA (.int _ _)|exact an.stuck
def SC(L:Alike G P P')(n:Array Vc)(t:Vc){vs q:Array U}(h:aW ρ vs q):an P P' aq ρ (Yx n t vs) (Yx n t q):=by
 unfold Yx;cases n[0]? with
 |none=>exact an.stuck
 |some x=>
  rcases h.get 0 with⟨k,l⟩|⟨v,D,k,l,m⟩
  ·rw[k,l];exact an.stuck
  ·rw[k,l];rcases h.get 1 with⟨i,j⟩|⟨E,F,i,j,e⟩
   ·rw[i,j];exact an.stuck
   ·rw[i,j];dsimp only;refine(aO L.S x).bindM (λH y C d p=>?_);obtain⟨rfl,p⟩:=p;cases y with
    |slice o=>
     have m:=m.mono d;cases m using aq.ind with
     |jR w r=>
      refine(CY (e.mono d)).bindM (λz b c f a=>?_);cases a;refine(cW L.S o).bindM (λA b c g a=>?_);cases a;exact(jW _ _ (e.mono (d.trans (f.trans g)))).bindM (λB b c _ _=>.aA (.int _ _))
     |sl s w r=>
      refine(CY (e.mono d)).bindM (λz b c f a=>?_);cases a;refine(cW L.S o).bindM (λA b c g a=>?_);cases a;refine(jW _ _ (e.mono (d.trans (f.trans g)))).bindM (λB b c u a=>?_);exact(jX _ _ 0 (s.mono (f.trans (g.trans u))) a.toList).bindM (λI b c _ _=>.aA (.int _ _))
     |_=>exact an.stuck
    |_=>exact an.stuck
def tY{a a':VI}(n:Nat)(h:cP ρ a a'):an P P' (iX (α:=Bool)) ρ (Yp a n) (Yp a' n):=by
 unfold Yp;refine(pu h.1).bindM (λf d e c b=>?_);cases b;rw[h.2.1,h.2.2]
 split<;>exact .aA Y
def fI (ρ:aN G)(d:Option VI)(e:Option VI):Prop:=∀a:Option VI->Option VI->Prop,(a K K)->(∀{b c:VI} (f:cP ρ b c),a (I b) (I c))->a d e
def fI.none{ρ:aN G}:fI ρ K K:=λb a c=>a
def fI.some{ρ:aN G}{a a':VI}(h:cP ρ a a'):fI ρ (I a) (I a'):=λc d b=>b h
def fI.ind{ρ:aN G}{d:∀(b:Option VI) (c:Option VI),fI ρ b c->Prop}(none:d _ _ (fI.none))(some:∀{a a':VI} (h:cP ρ a a'),d _ _ (fI.some h)){b:Option VI}{c:Option VI}(h:fI ρ b c):d b c h:=(h (λb c=>fI ρ b c/\∀h,d b c h) (⟨fI.none,λ_=>none⟩) (λh=>⟨fI.some h,λ_=>some h⟩)).2 h
def wi(k:Nat){o o':Option VI}(g:fI ρ o o'):∀{σ:aN G} {x a:U},ρ.le σ->aq σ x a->an P P' (iX (α:=Bool)) σ (match x with| .slice (I b) _ _=>do pure (!(<-Yp b k)||o.any (·.block==b.block))|_=>pure U5) (match a with| .slice (I b) _ _=>do pure (!(<-Yp b k)||o'.any (·.block==b.block))|_=>pure U5):=by
 intro σ x a f h;cases h using aq.ind with
 |sl c m i=>
  refine(tY _ c).bindM (λn x l j e=>?_);cases e;cases g using fI.ind with
  |none=>exact .aA Y
  |some d=>
   refine .aA ?_;simp only[Option.any_some,sN (d.mono f) c];rfl
 |_=>exact .aA Y
def Ho(h sl n:Nat){o o':Option VI}{x i:U}(e:fI ρ o o')(g:aq ρ x i):an P P' (iX (α:=Bool)) ρ (Zb h sl n o x) (Zb h sl n o' i):=by
 unfold Zb;have f:=e;cases e using fI.ind with
 |none=>exact wi _ f (aN.le.refl _) g
 |some c=>
  refine(tY _ c).bindM (λp j l b a=>?_);cases a;refine(qL ((c.mono b).add _)).bindM (λq k m d a=>?_);cases a;cases j<;>cases k<;>first|exact an.aA (A:=iX (α:=Bool)) rfl|exact wi _ f (b.trans d) (g.mono (b.trans d))
def OT{z a:Array U}(h:aW ρ z a)(n:Nat):aW ρ (Builtin.zeroCells z n) (Builtin.zeroCells a n):=by
 unfold Builtin.zeroCells;rw[<-h.1];have:=mr h (n*z.size);rw[<-h.1] at this;exact this
end
end
section
variable {G:mG}
section
variable {P P':Vb}{ρ:aN G}
def yG (a:Vc)(d m n c:Nat)(o:Option VI)(x:U):XH U:=do
 let b <-choose (Question.appendCap (m+n) c a);let f <-Yc a
 askRoom (b*f.bytes)
 let h <-XP d m (VR o m c);let g <-XP d n x;let i <-Xl a;let e <-newRow a (h++g++Builtin.zeroCells i.cells (b-(m+n)))
 pure (VR (I e) (m+n) b)
def yF (a:Vc)(b m n c:Nat)(o:Option VI)(x:U):XH U:=do
 let e <-Yc a
 if Builtin.nextslicecap (m+n) c*e.bytes>2^48 then
  (do
    let d <-Zb b m n o x
    if (!d)=Z then do
     mark Mark.noRoom
     unsupported (ZI "append: a slice or a string whose bytes no memory bears")
    else unsupported (ZI "append: a slice or a string whose bytes no memory bears"):XH PUnit) >>= λ_=>yG a b m n c o x
 else yG a b m n c o x
def nI (b:Vc)(a m n c:Nat)(o:Option VI)(x:U):XH U:=
 if m+n<=c then do
  let f <-XP a n x
  match o with
   |some d=>do
    storeCells (d.add (m*a)) f.toList
    pure (VR o (m+n) c)
   |_=>pure (VR o (m+n) c)
 else do
  let e <-Yc b
  if ((m+n:Nat):Int)>ZA.max/\(False\/e.bytes=0) then do
   runtimePanic (Z4 "growslice: len out of range")
   yF b a m n c o x
  else yF b a m n c o x
def fI.mono{σ:aN G}(a:ρ.le σ){o o':Option VI}(h:fI ρ o o'):fI σ o o':=by
 cases h using fI.ind with
 |none=>exact .none
 |some h=>exact .some (h.mono a)
def fI.slice{o o':Option VI}(h:fI ρ o o')(m c:Nat):aq ρ (.slice o m c) (.slice o' m c):=by
 cases h using fI.ind with
 |none=>exact .jR _ _
 |some h=>exact .sl h _ _
def Qs(L:Alike G P P')(a:Vc)(b m n c:Nat){o o':Option VI}{x f:U}(t:fI ρ o o')(u:aq ρ x f):an P P' aq ρ (yG a b m n c o x) (yG a b m n c o' f):=by
 unfold yG;refine qJ _ (λB=>?_);refine(fF L.S a).bindM (λE z A p l=>?_);obtain⟨rfl,-⟩:=l;refine(BD _).bindM (λF _ _ q _=>?_);have e:=p.trans q;refine(jW b m ((t.mono e).slice m c)).bindM (λH g w r j=>?_);refine(jW b n (u.mono (e.trans r))).bindM (λI h y s k=>?_);refine(jG L.S a).bindM (λJ C D d v=>?_);exact(qM a (((j.mono (s.trans d)).append (k.mono d)).append (OT v.cells _))).bindM (λK g h _ i=>.aA (.sl i _ _))
def Qr(L:Alike G P P')(a:Vc)(d m n c:Nat){o o':Option VI}{x g:U}(e:fI ρ o o')(f:aq ρ x g):an P P' aq ρ (yF a d m n c o x) (yF a d m n c o' g):=by
 unfold yF;refine(fF L.S a).bindM (λs q r b k=>?_);obtain⟨rfl,-⟩:=k
 split
 ·refine an.bindM (A:=λ_ (_ _:PUnit)=>False) ?_ (λ_ _ _ _ i=>i.elim);refine(Ho _ _ _ (e.mono b) (f.mono b)).bindM (λt h l p j=>?_);cases j;cases h
  ·exact an.room (.halt (.same _ Y))
  ·exact an.dx
 ·exact Qs L a d m n c (e.mono b) (f.mono b)
def KW(L:Alike G P P')(b:Vc)(d m n c:Nat){o o':Option VI}{x h:U}(f:fI ρ o o')(g:aq ρ x h):an P P' aq ρ (nI b d m n c o x) (nI b d m n c o' h):=by
 unfold nI
 split
 ·refine(jW d n g).bindM (λl p q a i=>?_);cases f using fI.ind with
  |none=>exact .aA (.jR _ _)
  |some e=>exact(jX _ _ 0 ((e.mono a).add _) i.toList).bindM (λt _ _ k _=>.aA (.sl (e.mono (a.trans k)) _ _))
 ·refine(fF L.S b).bindM (λl r s a j=>?_);obtain⟨rfl,-⟩:=j
  split
  ·exact vm L _ (by simp) (by simp) (by simp)
  ·exact Qr L b d m n c (f.mono a) (g.mono a)
def NP(L:Alike G P P')(e:Array Vc)(t:Vc){vs D:Array U}(Q:∀f,e[1]? =I f->∀k,P.underlying f≠I (.int k))(h:aW ρ vs D):an P P' aq ρ (YY e t vs) (YY e t D):=by
 unfold YY;cases e[0]? with
 |none=>exact an.stuck
 |some R=>
  rcases h.get 0 with⟨p,q⟩|⟨v,C,p,q,j⟩
  ·rw[p,q];exact an.stuck
  ·rw[p,q];rcases h.get 1 with⟨n,o⟩|⟨E,F,n,o,i⟩
   ·rw[n,o];exact an.stuck
   ·rw[n,o];dsimp only;refine(aO L.S R).bindM (λH S X x A=>?_);obtain⟨rfl,A⟩:=A;cases S with
    |slice g=>
     have j:=j.mono x;have i:=i.mono x;obtain⟨b,l,m,a,rfl,rfl,N⟩|M:(∃b l m a,v= .slice b m a/\C= .slice l m a/\fI H b l)\/((∀b m a,v≠.slice b m a)/\∀b m a,C≠.slice b m a):=by
      cases j using aq.ind with
      |jR m a=>exact .inl ⟨_,_,_,_,rfl,rfl,.none⟩
      |sl K m a=>exact .inl ⟨_,_,_,_,rfl,rfl,.some K⟩
      |_=>exact .inr ⟨by simp,by simp⟩
     ·dsimp only;refine(cW L.S g).bindM (λY u T y r=>?_);cases r;have B:∀{w:aN G},H.le w->an P P' aq w (YO E >>= λd=>nI g u m d a b E) (YO F >>= λd=>nI g u m d a l F):=λc=>
       (CY (i.mono c)).bindM (λZ d W z r=>by
         cases r;exact KW L g u m d a (N.mono (c.trans z)) (i.mono (c.trans z)))
      cases O:e[1]? with
      |none=>
       simp only[pure_bind,Vv,if_false,Bool.not_false,if_true];exact B y
      |some f=>
       refine(aO L.S f).bindM (λw J V c s=>?_);obtain⟨rfl,s⟩:=s;cases J with
       |int k=>exact absurd s (Q f O k)
       |_=>
        simp only[pure_bind,Vv,if_false,Bool.not_false,if_true];exact B (y.trans c)
     ·cases j using aq.ind<;>first|exact an.stuck|exact absurd rfl (M.1 _ _ _)
    |_=>exact an.stuck
end
end
end Rl
namespace Cc
open Go
section
variable {P P':Vb}{O:Yk->Prop}{α β:Type}
def AZ(s:FloatKind)(b:Nat)(d:XL):St P P' O (Conv.floatToInt s b d):=by
 unfold Conv.floatToInt
 (try dsimp only)
 repeat' first|exact ay _|exact cT _|refine ag ?_ (λ_=>?_)|split|dsimp only|exact trivial
def zS(n:Int):St P P' O (Conv.intToString n):=by
 unfold Conv.intToString;exact trivial
def vH(b:Twin P P')(a:Plain O)(e:Vc)(s:ByteArray):St P P' O (Conv.stringToBytes e s):=by unfold Conv.stringToBytes;((try dsimp only);repeat' first|exact cT _|exact jH a _ _|exact oT b a _|assumption|(refine ag ?_ (λ_=>?_))|intro _|split|(dsimp only)|exact trivial)
def vI(b:Twin P P')(a:Plain O)(e:Vc)(s:ByteArray):St P P' O (Conv.stringToRunes e s):=by unfold Conv.stringToRunes;((try dsimp only);repeat' first|exact cT _|exact jH a _ _|assumption|(refine ag ?_ (λ_=>?_))|intro _|split|(dsimp only)|exact trivial)
def Io(a:Twin P P')(b:Plain O)(s d:Vc)(x:U)(h:GI P s d=Z):St P P' O (convert s d x):=by
 unfold convert;refine iO (xK a s) λm i=>?_;refine iO (xK a d) λf k=>?_;unfold GI at h;rw[i,k] at h;cases m<;>first|(simp at h;done)|skip
 ·rename_i p;cases f<;>first|(simp at h;done)|skip
  cases x<;>first|exact trivial|exact aT _ rfl|(rename_i c;cases c<;>exact aT _ rfl)|skip
  exact AZ _ _ _
 ·rename_i g;cases f<;>first|(simp at h;done)|skip
  ·cases x<;>first|exact trivial|skip
   all_goals first
    |exact zS _
    |(refine iO (xK a g) λe j=>?_;dsimp only at h;rw[j] at h;cases e<;>first|(simp at h;done)|skip
      rename_i l;cases l<;>first|(simp at h;done)|exact vB a b _)
  ·cases x with
   |string s=>
    refine ag (aE a _) λe=>?_
    split
    ·exact vH a b _ _
    ·exact vI a b _ _
    ·exact ay _
   |slice c q o=>
    cases c with
    |none=>exact aT _ Y
    |some n=>
     refine ag (aE a _) λe=>?_
     split
     ·exact ag (oT a b _) λ_=>trivial
     ·exact aT _ Y
   |_=>exact aT _ Y
def FF(a:Twin P P')(b:Plain O)(e:Vc)(s m n c:Nat)(o:Option VI)(x:U):St P P' O (Rl.yG e s m n c o x):=by
 unfold Rl.yG;exact ag (cT _) λ_=>ag (bG a _) λ_=>ag (zN _) λ_=>ag (kU _ _ _) λ_=>ag (kU _ _ _) λ_=>ag (fy a _) λ_=>ag (jH b _ _) λ_=>trivial
def FE(a:Twin P P')(b:Plain O)(e:Vc)(s m n c:Nat)(o:Option VI)(x:U):St P P' O (Rl.yF e s m n c o x):=by
 unfold Rl.yF;refine ag (bG a _) λf=>?_
 split
 ·refine ag (ag (FJ a b _ _ _ _ _) λd=>?_) λ_=>FF a b _ _ _ _ _ _ _
  split
  ·exact ag BV λ_=>aT _ Y
  ·exact aT _ Y
 ·exact FF a b _ _ _ _ _ _ _
def Ik(a:Twin P P')(b:Plain O)(e:Vc)(s m n c:Nat)(o:Option VI)(x:U):St P P' O (Rl.nI e s m n c o x):=by
 unfold Rl.nI
 split
 ·refine ag (kU _ _ _) λd=>?_
  split
  ·exact ag (ji _ _ _) λ_=>trivial
  ·exact trivial
 ·refine ag (bG a _) λf=>?_
  split
  ·exact ag (bJ a b _) λ_=>FE a b _ _ _ _ _ _ _
  ·exact FE a b _ _ _ _ _ _ _
def Ms (P:Vb)(a:Array Vc):Bool:=match a[1]? with
 |some b=>match P.underlying b with|some (.int _)=>U5|_=>Z
 |none=>Z
def LB(a:Twin P P')(k:Plain O)(b:Array Vc)(t:Vc)(f:Array U)(h:Ms P b=Z):St P P' O (YY b t f):=by
 unfold YY
 split
 ·refine ag (aE a _) λs=>?_
  split
  ·split
   ·rename_i e _ j _ o m g _;refine ag (bM a _) λp=>?_;have d:St P P' O (YO e >>= λc=>Rl.nI j p m c g o e):=ag (FH _) λc=>Ik a k _ _ _ _ _ _ _;unfold Ms at h;cases n:b[1]? with
    |none=>
     simp only[pure_bind,Vv,if_false,Bool.not_false,if_true];exact d
    |some q=>
     rw[n] at h;refine iO (xK a q) λi l=>?_;dsimp only at h;rw[l] at h;cases i with
     |int r=>simp at h
     |_=>
      simp only[pure_bind,Vv,if_false,Bool.not_false,if_true];exact d
   ·exact ay _
  ·exact ay _
 ·exact ay _
end
def D9 (P:Vb)(b:Builtin)(a:Array Vc):Bool:=match b with
 | .len| .copy| .min| .unsafeString=>Z
 | .append=>Ms P a
 |_=>U5
def mQ (P:Vb)(b:Bool):Op->Bool
 | .move _| .assign _| .pick _ _ _| .alloc _| .box _ _| .build _ _| .buildSlice _ _ _| .load _ _| .store _ _ _| .nilCheck _| .binOp _ _ _ _ _| .unOp _ _ _| .makeInterface _ _| .makeFunc _ _ _| .makeMap _ _| .makeSlice _ _ _| .slice _ _ _ _ _| .fieldAddr _ _ _| .field _ _ _| .indexAddr _ _ _| .index _ _ _| .lookup _ _ _ _| .mapUpdate _ _ _ _| .extract _ _| .panic _=>Z
 | .convert s d _=>GI P s d
 | .call a=>match a.callee with
  | .builtin .recover=> !b
  | .builtin c=>D9 P c a.argTypes
  |_=>Z
 | .defer a=> !b&&(match a.callee with| .builtin _=>U5|_=>Z)
 |_=>U5
def aX (P:Vb)(b:Bool):XQ->Bool
 | .region _ e _=>e.toList.all λd=>mQ P b d.op
 | .seq a c=>aX P b a&&aX P b c
 | .cond _ a c=>aX P b a&&aX P b c
 | .block _ a| .loop a=>aX P b a
 | .rangeFunc _ _ a c=>aX P Z a&&aX P Z c
 | .skip| .exit _| .ret| .refuse _=>Z
 | .goto _| .label _| .scope _=>U5
def lY:Target->Bool
 | .nil| .fn _ _| .collected _=>Z
 |_=>U5
def bf (P:Vb):Yk->Prop
 | .loop a=>aX P Z a.assign=Z/\aX P Z a.body=Z/\∀b,a.pending=I b->aX P Z b=Z
 | .deferred (I d)=>∀c∈d,lY c.target=Z
 | .pending _ _=>False
 | .coro _=>False
 |_=>True
def eu(P:Vb):Plain (bf P):=⟨λ_ _ _=>trivial,λ_ _ a=>a,λa=>a,⟨{state:=.ready,pending:=K,fn:=0,tmps:= #[],params:= #[],assign:=.skip,body:=.skip,defers:=0},rfl,rfl,λb a=>by cases a⟩⟩
def qh (P:Vb)(d:Bool):Next->Prop
 | .value _| .skip| .enter _ _=>True
 | .recover=>d=U5
 | .defer c=>lY c.target=Z
 | .round _ _ _ a b=>aX P Z a=Z/\aX P Z b=Z
 |_=>False
structure Ext(P P':Vb):Prop where
 named:∀(f:Nat) (fn:XJ),P.funcs[f]? =I fn->(fn.name == "runtime.NumGoroutine")=U5
 next:∀(f:Nat) (fn:XJ),P.funcs[f]? =I fn->fn.body.isNone=Z->Extern.findNext fn=K
 find:∀(f:Nat) (fn:XJ) (e:Array U->XH U),P.funcs[f]? =I fn->fn.body.isNone=Z->Zz fn=I e->∀args,St P P' (bf P) (e args)
section
variable {P P':Vb}{O:Yk->Prop}{α β:Type}
def qW(a:Twin P P')(t:Vc)(x:Place):St P P' O (x.get t):=by
 cases x with
 |val v=>exact trivial
 |var b=>exact pK a _ _
theorem vD(a:Twin P P')(b:Plain O):∀(l:List FieldStep) (t:Vc) (x:Place),St P P' O (follow l t x)
 | [],t,x=>trivial
 |s::d,t,x=>by
  have c:=vD a b d;unfold follow
  ((try dsimp only);repeat' first|exact aE a _|exact ay _|exact oR a b _|exact gX a _ _ _|exact c _ _|exact qW a _ _|exact sx a b _ _|assumption|(refine ag ?_ (λ_=>?_))|(refine bN ?_ ?_)|intro _|split|(dsimp only)|exact trivial)
def Iz(c:Twin P P')(d:Plain O)(g:Array Vc)(t:Vc)(x:U)(a b:ByteArray):St P P' O (Builtin.ssaWrapNilChk_ g t #[x,.string a,.string b]):=by
 have e:∀s:String,St P P' O (stuck s:XH U):=λs=>ay s;unfold Builtin.ssaWrapNilChk_;cases x with
 |pointer f=>
  cases f with
  |some a=>exact trivial
  |none=>
   refine ag (cT _) λh=>?_
   ((try dsimp only);repeat' first|exact bG c _|exact aE c _|exact ay _|exact bJ c d _|exact cT _|(refine aT _ ?_;rfl)|assumption|(refine ag ?_ (λ_=>?_))|(refine bN ?_ ?_)|intro _|split|(dsimp only)|exact trivial)
 |_=>exact e _
def sC(a:Twin P P')(b:Plain O)(t:Vc)(x:Place)(p:Bool)(w:Option String):St P P' O (receiverAt t x p w):=by
 unfold receiverAt
 ((try dsimp only);repeat' first|exact aE a _|exact ay _|exact oR a b _|exact pK a _ _|exact qW a _ _|exact Iz a b _ _ _ _ _|assumption|(refine ag ?_ (λ_=>?_))|intro _|split|(dsimp only)|exact trivial)
def zT(c:Twin P P')(a:Plain O)(t:Vc)(v:U)(p:Array FieldStep)(b:Bool):St P P' O (receiverVia t v p b):=by
 unfold receiverVia
 ((try dsimp only);repeat' first|exact vD c a _ _ _|exact sC c a _ _ _ _|assumption|(refine ag ?_ (λ_=>?_))|intro _|split|(dsimp only)|exact trivial)
theorem BT(a:Twin P P')(b:Plain O):∀(n:Nat) (t:Vc) (v:U) (s:String),St P P' O (Go.method n t v s)
 |0,t,v,s=>aT _ Y
 |n+1,t,v,s=>by
  have c:=BT a b n;unfold Go.method
  ((try dsimp only);repeat' first|exact bG a _|exact ay _|exact bJ a b _|(refine aT _ ?_;rfl)|exact c _ _ _|exact vD a b _ _ _|exact sC a b _ _ _ _|exact qW a _ _|assumption|(refine ag ?_ (λ_=>?_))|intro _|split|(dsimp only)|exact trivial)
theorem qU(a:Twin P P')(b:Plain O):∀(l:List FieldStep) (t:Vc) (x:Option U),St P P' O (followBlind l t x)
 | [],t,x=>trivial
 |s::d,t,x=>by
  have c:=qU a b d;unfold followBlind
  ((try dsimp only);repeat' first|exact aE a _|exact ay _|exact gX a _ _ _|exact c _ _|assumption|(refine ag ?_ (λ_=>?_))|intro _|split|(dsimp only)|exact trivial)
theorem wG(a:Twin P P')(b:Plain O):∀(n:Nat) (t:Vc) (v:U) (s:String),St P P' O (nilAhead n t v s)
 |0,t,v,s=>trivial
 |n+1,t,v,s=>by
  have c:=wG a b n;unfold nilAhead
  ((try dsimp only);repeat' first|exact bG a _|exact aE a _|exact ay _|exact c _ _ _|exact qU a b _ _ _|assumption|(refine ag ?_ (λ_=>?_))|intro _|split|(dsimp only)|exact trivial)
def qS(l:Twin P P')(c:Ext P P')(n:Bool)(f:Xb)(args:Array U):Still P P' (bf P) (qh P n) (callFunc f args):=by
 unfold callFunc;refine cA ?_ ?_
 ·rcases l.R5 f with b|⟨a,o,g,h,i,j,k⟩
  ·rw[b]
  ·rw[g,h];simp only[i,j,k,Vv,if_false]
 ·cases d:P.funcs[f]? with
  |none=>exact ay _
  |some a=>
   dsimp only;rw[if_neg (by rw[c.named f a d];simp)]
   split
   ·rename_i e;refine ag ⟨.inr ⟨_,rfl⟩,trivial⟩ λ_=>?_;rw[c.next f a d e];dsimp only;cases m:Zz a with
    |some b=>exact ag (c.find f a b d e m args) λ_=>trivial
    |none=>exact bN trivial (aT _ Y)
   ·exact trivial
def sw(a:Twin P P')(d:Ext P P')(c:Bool)(v:U)(s:String)(args:Array U):Still P P' (bf P) (qh P c) (callMethod v s args):=by
 have b:=eu P;unfold callMethod
 split
 ·refine cA (by rw[a.UL]) ?_;exact ag (BT a b _ _ _ _) λ_=>qS a d c _ _
 ·exact bJ a b _
 ·exact ay _
def nj(l:Nat):Still P P' (bf P) (λr=>bf P (.loop r)) (Instr.getLoop l):=by
 unfold Instr.getLoop;refine jz l (λb a=>?_) (qD Y)
 split
 ·exact a
 ·exact ay _
def OA(b:Bool)(l:Nat)(args:Array U):Still P P' (bf P) (qh P b) (Instr.yield l args):=by
 unfold Instr.yield;refine iO (nj l) λc a=>?_;dsimp only
 split
 ·exact ag (ay _) λ_=>⟨a.1,a.2.1⟩
 ·exact⟨a.1,a.2.1⟩
def Im(c:Twin P P')(b:Builtin)(d:Array Vc)(t:Vc)(cs:Array Bool)(args:Array U)(h:D9 P b d=Z)(e:Bool):Still P P' (bf P) (qh P e) (builtin b d t cs args):=by
 have a:=eu P;unfold builtin;cases b<;>first|(simp[D9] at h;done)|skip
 ·exact ag (LB c a _ _ _ h) λ_=>trivial
 ·exact ag (QE c a _ _ _) λ_=>trivial
 ·exact ag (SM c a _ _ _) λ_=>trivial
 ·exact ag (SN _ _ _) λ_=>trivial
 ·exact ag (xp c a _ _ _) λ_=>trivial
def yK (P:Vb)(b:Bool):Target->Bool
 | .builtin .recover _ _ _=> !b
 | .builtin a c _ _=>D9 P a c
 | .coroexit _=>U5
 |_=>Z
def vF(a:Twin P P')(c:Ext P P')(b:Bool)(t:Target)(args:Array U)(h:yK P b t=Z):Still P P' (bf P) (qh P b) (invoke t args):=by
 have e:=eu P;unfold invoke
 split
 ·exact bJ a e _
 ·rename_i d i t g;by_cases f:d= .recover
  ·subst f;simp only[yK,Bool.not_eq_true'] at h;exact h
  ·exact Im a d i t g args (by cases d<;>first|exact absurd Y f|exact h) b
 ·exact qS a c b _ _
 ·split
  ·exact sw a c b _ _ _
  ·exact ay _
 ·split
  ·refine ag (aE a _) λj=>?_;exact sw a c b _ _ _
  ·exact ay _
 ·split
  ·exact ag (zT a e _ _ _ _) λ_=>qS a c b _ _
  ·exact ay _
 ·exact OA b _ _
 ·exact ay _
 ·simp[yK] at h
def zU(P P':Vb)(a:Bool)(ρ:V4->U)(c:Call)(t:Vc)(h:(match c.callee with| .builtin .recover=> !a| .builtin b=>D9 P b c.argTypes|_=>Z)=Z):Still P P' (bf P) (λd=>yK P a d.target=Z) (Y6 ρ c t):=by
 unfold Y6;dsimp only
 split
 ·rename_i b e;rw[e] at h;show yK P a (.builtin b c.argTypes t _)=Z;unfold yK;cases b<;>first|exact h|rfl
 ·exact rfl
 ·unfold YQ
  split
  ·exact rfl
  ·exact rfl
  ·exact ay _
def FL(P P':Vb)(ρ:V4->U)(c:Call)(t:Vc)(h:(match c.callee with| .builtin _=>U5|_=>Z)=Z):Still P P' (bf P) (λd=>lY d.target=Z) (Y6 ρ c t):=by
 unfold Y6;dsimp only
 split
 ·rename_i b a;rw[a] at h;cases h
 ·exact rfl
 ·unfold YQ
  split
  ·exact rfl
  ·exact rfl
  ·exact ay _
def QF(a:Twin P P')(l:Ext P P')(d:Bool)(ρ:V4->U)(o:Oper)(h:mQ P d o.op=Z):Still P P' (bf P) (qh P d) (execOp ρ o):=by
 have b:=eu P;have m:∀g i,bf P (.number g i):=λ_ _=>trivial;have f:∀k c,bf P (.map k c):=λ_ _=>trivial;unfold execOp;cases n:o.op<;>rw[n] at h<;>first|(simp[mQ] at h;done)|skip
 all_goals dsimp only
 case move=>exact trivial
 case assign=>exact trivial
 case pick=>exact ag (vA _) λ_=>trivial
 case alloc=>exact ag (Ol a b _ _ _) λ_=>trivial
 case box=>exact ag (SL a b _ _) λ_=>trivial
 case build=>exact ag (On a b _ _) λ_=>trivial
 case buildSlice=>exact ag (AY a b _ _ _) λ_=>trivial
 case load=>exact ag (LF a b _ _) λ_=>trivial
 case store=>exact ag (Ix a b _ _ _) λ_=>trivial
 case nilCheck=>
  split
  all_goals first
   |exact bJ a b _
   |exact trivial
   |skip
  split
  ·exact bJ a b _
  ·refine cA (by rw[a.UL]) ?_;refine ag (wG a b _ _ _ _) λp=>?_
   split
   ·exact ag (aT _ Y) λ_=>trivial
   ·exact trivial
  ·exact trivial
 case binOp=>exact ag (ag (Iq a b _ _ _ _ _ _) λ_=>Om a b m _ _ _ _) λ_=>trivial
 case unOp=>exact ag (Oz _ _) λ_=>trivial
 case convert=>exact ag (Io a b _ _ _ h) λ_=>trivial
 case makeInterface=>exact ag (vG a b _ _) λ_=>trivial
 case makeFunc=>exact trivial
 case makeMap=>exact ag (Iv a b f _ _) λ_=>trivial
 case makeSlice=>exact ag (Dl a b _ _ _) λ_=>trivial
 case slice=>exact ag (Iw a b _ _ _ _ _) λ_=>trivial
 case fieldAddr=>exact ag (Is a b _ _ _) λ_=>trivial
 case field=>exact ag (Ot a b _ _ _) λ_=>trivial
 case indexAddr=>exact ag (It a b _ _ _) λ_=>trivial
 case index=>exact ag (Ou a b _ _ _) λ_=>trivial
 case lookup=>exact ag (LG a b _ _ _ _) λ_=>trivial
 case mapUpdate=>exact ag (Dm a b f _ _ _ _) λ_=>trivial
 case extract=>exact ag (Ir _ _) λ_=>trivial
 case panic=>exact ag (Ov a b _) λ_=>trivial
 case call c=>exact iO (zU P P' d ρ c o.type h) λj e=>vF a l d _ _ e
 case defer c=>
  simp only[mQ,Vr] at h;exact iO (FL P P' ρ c o.type h.2) λj e=>e
end
structure pS(P P':Vb):Prop where
 T:Twin P P'
 E:Ext P P'
 quiet:∀f:Nat,(P'.funcs[f]?).any (·.norace)=(P.funcs[f]?).any (·.norace)
 mixed:P'.follows .mixedOrders=P.follows .mixedOrders
 bad:∀f:Nat,P'.funcs[f]? =P.funcs[f]? \/∃fn s,P.funcs[f]? =I fn/\fn.body=I (.refuse s)
 Gu:∀(f:Nat) (fn:XJ) (c:XQ),P.funcs[f]? =I fn->fn.body=I c->aX P U5 c=Z
 view:Views P P'
def bR (P:Vb)(a:Bool):XR->Prop
 | .code b| .inLoop b=>aX P a b=Z
 | .inBlock _| .inRangeFunc _| .endRangeFunc _=>True
 | .beginRound=>a=Z
 | .inRegion d _=>(d.toList.all λc=>mQ P a c.op)=Z
 |_=>False
structure nE(P:Vb)(fr:Vg):Prop where
 todo:∀i∈fr.todo,bR P fr.roundOf.isSome i
 defers:∀d∈fr.defers,lY d.target=Z
 kind:fr.kind= .normal\/fr.kind= .deferred
def cV:Vg->List Vg->Prop
 |fr,[]=>fr.kind= .normal
 |_,f::a=>cV f a
structure eH(P:Vb)(fr:Vg)(aB:List Vg):Prop where
 top:nE P fr
 rest:∀f∈aB,nE P f
 bot:cV fr aB
def JQ (fr:Vg):Prop:=fr.mode= .run/\∃s,fr.todo=[.code (.refuse s)]
def DJ (n:Nat)(e:Wm):Prop:=match e.loc with
 | .obj b=>b<n
 | .cell a=>a.block<n
 | .mark m=>Conc.Neutral m
 |_=>True
def DJ.mono{n m:Nat}(h:n<=m){e:Wm}(a:DJ n e):DJ m e:=by
 unfold DJ at*
 split<;>simp_all<;>omega
def De(h:Xb->Bool):∀(l:List Wm) (q:Bool) (kept:Array Wm),(∀e∈kept,∀f,e.loc≠.mark (.extern f))->∀e∈(l.foldl (Conc.seenStep h) (q,kept)).2,∀f,e.loc≠.mark (.extern f):=by
 intro l
 induction l with
 |nil=>exact λ_ _ a=>a
 |cons i l c=>
  intro q kept a;simp only[List.foldl_cons,Conc.seenStep]
  split
  ·exact c _ _ a
  ·rename_i g;refine c _ _ ?_
   split
   ·exact a
   ·intro e b;rcases Array.mem_push.1 b with b|rfl
    ·exact a e b
    ·exact λf d=>g f d
def Ft{P:Vb}{fn:Xb}{es:Array Wm}{n:Nat}(h:∀e∈es,Ar n e):∀e∈seen P fn es,DJ n e:=by
 intro e c;have a:=h e (Conc.mem_seen c);have d:∀f,e.loc≠.mark (.extern f):=by
  rw[Conc.seen_def] at c;exact De _ _ _ _ (λe h=>by simp at h) e c
 unfold Ar at a;unfold DJ;cases b:e.loc with
 |mark m=>
  rw[b] at a;rcases a with a|⟨f,rfl⟩
  ·exact a
  ·exact absurd b (d f)
 |cell g=>rw[b] at a;exact a
 |obj i=>rw[b] at a;exact a
 |_=>trivial
structure DS(P P':Vb)(w:F)(F0:Vb->Bool->List Vg->F->Zr)(fr':Vg)(tops':List Vg)(w':F)(es:Array Wm):Prop where
 eq:∀m cs,F0 P m cs w= .go (Vd fr' (tops'++cs)) w' es
 ok:eH P fr' tops'
 hp:Hp (bf P) w'
 tape:w'.tape=w.tape
 drawn:w.drawn<=w'.drawn
 size:w.heap.size<=w'.heap.size
 os:w'.os=w.os
 output:w'.output=w.output
 evs:∀e∈es,DJ w'.heap.size e
 twin:(P≠P'/\JQ fr')\/∀ τ d u,Un w u->Al w.tape w.drawn τ d (w'.drawn-w.drawn)->∃u',sL w u w' u'/\∀m cs,F0 P' m cs (sh τ d u)= .go (Vd fr' (tops'++cs)) (sh τ (d+(w'.drawn-w.drawn)) u') es
def Ch (P P':Vb)(w:F)(c:Vb->Bool->List Vg->F->Zr):Prop:=
 (∀m d,∃f b a,c P m d w= .ended f b a)\/∃e g b a,DS P P' w c e g b a
section
variable {P P':Vb}{w:F}
def iA(b:Hp (bf P) w)(fr':Vg)(tops':List Vg)(ok:eH P fr' tops'):Ch P P' w (λR m cs w=>.go (Vd fr' (tops'++cs)) w):=
 .inr ⟨fr',tops',w,#[],λ_ _=>rfl,ok,b,rfl,U7 _,U7 _,rfl,rfl,λf a=>by simp at a,.inr λg e d c _=>⟨d,c.two,λm cs=>by simp⟩⟩
def BI(v:Hp (bf P) w)(h:pS P P')(f:Xb)(args:Array U)(kind:CallKind)(u:kind= .normal\/kind= .deferred)(tops':List Vg)(x:∀f∈tops',nE P f)(p:cV (VU P f args kind) tops'):
 Ch P P' w (λR m cs w=>.go (Vd (VU R f args kind) (tops'++cs)) w):=by
 have t:nE P (VU P f args kind):=by
  refine⟨λz i=>?_,λe q=>by simp[VU] at q,u⟩;simp only[VU,List.mem_singleton] at i;subst i;show aX P U5 _=Z;cases r:P.funcs[f]? with
  |none=>rfl
  |some a=>
   cases b:a.body with
   |none=>simp[b,aX]
   |some k=>simpa [b] using h.Gu f a k r b
 refine .inr ⟨VU P f args kind,tops',w,#[],λ_ _=>rfl,⟨t,x,p⟩,v,rfl,U7 _,U7 _,rfl,rfl,λg l=>by simp at l,?_⟩;rcases h.bad f with g|⟨a,s,n,o⟩
 ·refine .inr λy e d c _=>⟨d,c.two,λm cs=>?_⟩;have:VU P' f args kind=VU P f args kind:=by unfold VU;rw[g]
  simp[this]
 ·by_cases j:P=P'
  ·subst j;exact .inr λy e d c _=>⟨d,c.two,λm cs=>by simp⟩
  ·refine .inl ⟨j,rfl,s,?_⟩;simp[VU,n,o]
def Lt(a:pS P P')(f:Xb)(es:Array Wm):seen P' f es=seen P f es:=by
 unfold seen;simp only[a.quiet]
def py{α:Type}(t:pS P P')(E:Hp (bf P) w)(f:Xb){s:XH α}{Q:α->Prop}(G:Still P P' (bf P) Q s){q:Vb->Bool->List Vg->F->Zr}(j:Vb->Bool->List Vg->YX α->Zr)
 (hF:∀R,R=P\/R=P'->∀m cs w,(∀h w',(s.runT R w #[]).1= .halt h w'->p9 h=Z)->(∀a w',(s.runT R w #[]).1= .ok a w'->Q a)->q R m cs w=XZ (seen R f (s.runT R w #[]).2) (j R m cs (s.runT R w #[]).1))
 (D:∀a w',Q a->Hp (bf P) w'->Ch P P' w' (λR m cs w=>j R m cs (.ok a w)))
 (C:∀h w',p9 h=Z->Hp (bf P) w'->Ch P P' w' (λR m cs w=>j R m cs (.halt h w)))
 (I:∀y w' m cs,∃o p es,j P m cs (.halt (.stuck y) w')= .ended o p es):Ch P P' w q:=by
 have b:=N9 (eu P) t.view s w #[] G E;rcases b.shift with⟨y,w',L⟩|H
 ·refine .inl λm cs=>?_;obtain⟨o,p,es,h⟩:=I y w' m cs;refine⟨o,p,seen P f (s.runT P w #[]).2++es,?_⟩;rw[hF P (.inl Y) _ _ _ b.halt b.ok,L,h];rfl
 have d:Ch P P' (rW (s.runT P w #[]).1) (λR m cs n=>j R m cs (Pc n (s.runT P w #[]).1)):=by
  cases h:(s.runT P w #[]).1 with
  |ok a e=>exact D a e (b.ok a e h) (by have:=b.hp;rw[h] at this;exact this)
  |halt i e=>exact C i e (b.halt i e h) (by have:=b.hp;rw[h] at this;exact this)
 have v:Pc (rW (s.runT P w #[]).1) (s.runT P w #[]).1=(s.runT P w #[]).1:=by cases(s.runT P w #[]).1<;>rfl
 rcases d with d|⟨A,O,w',es,d⟩
 ·refine .inl λm cs=>?_;obtain⟨o,w',es,h⟩:=d m cs;dsimp only at h;rw[v] at h;refine⟨o,w',seen P f (s.runT P w #[]).2++es,?_⟩;rw[hF P (.inl Y) _ _ _ b.halt b.ok,h];rfl
 ·refine .inr ⟨A,O,w',seen P f (s.runT P w #[]).2++es,λm cs=>?_,d.ok,d.hp,d.tape.trans b.tape,Vm b.drawn d.drawn,Vm b.size d.size,d.os.trans b.os,d.output.trans b.output,λc B=>?_,?_⟩
  ·have:=d.eq m cs
   try dsimp only at this
   rw[v] at this;rw[hF P (.inl Y) _ _ _ b.halt b.ok,this];rfl
  ·rcases Array.mem_append.1 B with h|h
   ·refine DJ.mono d.size (Ft (λi g=>?_) c h);rcases b.evs i g with h|h
    ·simp at h
    ·exact h
   ·exact d.evs c h
  ·rcases d.twin with h|h
   ·exact .inl h
   ·refine .inr λz r n K u=>?_;have S:=b.drawn;have T:=d.drawn;obtain⟨u1,x,l⟩:=H z r n K (u.sub (by omega));obtain⟨u2,J,k⟩:=h z (r+((rW (s.runT P w #[]).1).drawn-w.drawn)) u1 x.un (by
     intro M N U;have:=u ((rW (s.runT P w #[]).1).drawn-w.drawn+M) N (by omega);rw[Wc,b.tape,this];congr 1;omega)
    refine⟨u2,x.trans J,λm cs=>?_⟩;replace k:=k m cs;rw[hF P' (.inr Y) _ _ _ (λh w' c=>by
     rw[l] at c;cases g:(s.runT P w #[]).1 with
     |ok a e=>rw[g] at c;simp[Pc] at c
     |halt i e=>
      rw[g] at c;simp only[Pc,Z7] at c;rw[<-c.1];exact b.halt i e g) (λa w' c=>by
     rw[l] at c;cases g:(s.runT P w #[]).1 with
     |halt a e=>rw[g] at c;simp[Pc] at c
     |ok i e=>
      rw[g] at c;simp only[Pc,Result.ok.injEq] at c;rw[<-c.1];exact b.ok i e g),l]
    dsimp only at k ⊢;rw[k,Lt t];show GStep.go _ _ _=GStep.go _ _ _;congr 2;omega
end
def dJ (fr:Vg)(aB:List Vg)(R:Vb)(m:Bool)(cs:List Vg)(w:F):Zr:=VN R m (Vd fr (aB++cs)) w
section
variable {P P':Vb}{w:F}
def gH{b F':Vb->Bool->List Vg->F->Zr}(h:∀R,R=P\/R=P'->∀m cs w,b R m cs w=F' R m cs w)(a:Ch P P' w F'):Ch P P' w b:=by
 rcases a with a|⟨f,l,p,e,a⟩
 ·exact .inl λm cs=>by rw[h P (.inl Y)];exact a m cs
 ·exact .inr ⟨f,l,p,e,λm cs=>by rw[h P (.inl Y)];exact a.eq m cs,a.ok,a.hp,a.tape,a.drawn,a.size,a.os,a.output,a.evs,a.twin.imp id λg q c n k i=>by
  obtain⟨o,j,d⟩:=g q c n k i;exact⟨o,j,λm cs=>by rw[h P' (.inr Y)];exact d m cs⟩⟩
def uY{fr:Vg}(h:nE P fr){k:List XR}(a:∀i∈k,bR P fr.roundOf.isSome i):nE P {fr with todo:=k}:=⟨a,h.defers,h.kind⟩
theorem yd{fr b:Vg}(h:b.kind=fr.kind):∀{l:List Vg},cV fr l->cV b l
 | [],a=>h.trans a
 |_::_,a=>a
def iP{fr a:Vg}{aB:List Vg}(h:eH P fr aB)(b:nE P a)(c:a.kind=fr.kind):eH P a aB:=⟨b,h.rest,yd c h.bot⟩
def J4{c:XQ}(h:aX P Z c=Z):aX P U5 c=Z:=by
 have k:∀a,mQ P Z a=Z->mQ P U5 a=Z:=by
  intro a b;cases a<;>first|exact b|skip
  ·rename_i c;obtain⟨j,_,_⟩:=c;cases j with
   |builtin e=>cases e<;>first|rfl|exact b
   |_=>rfl
  ·simp[mQ] at b
 induction c with
 |region _ l _=>
  simp only[aX,Vx] at h ⊢;exact λa b=>k _ (h a b)
 |seq d e g i=>simp only[aX,Vr] at h ⊢;exact⟨g h.1,i h.2⟩
 |cond _ d e g i=>simp only[aX,Vr] at h ⊢;exact⟨g h.1,i h.2⟩
 |block _ d f=>exact f h
 |loop d f=>exact f h
 |rangeFunc _ _ d e _ _=>exact h
 |_=>first|rfl|(simp[aX] at h)
def Pt{a:Bool}{c:XQ}(h:aX P Z c=Z):aX P a c=Z:=by
 cases a
 ·exact J4 h
 ·exact h
theorem sQ{c:Bool}{id:Nat}:∀{l k:List XR},(∀i∈l,bR P c i)->YE id l=I k->∀i∈k,bR P c i
 | [],k,_,a=>by simp[YE] at a
 |i::l,k,d,a=>by
  have b:∀i∈l,bR P c i:=λf e=>d f (by simp[e]);cases i<;>simp only[YE] at a
  case inBlock g=>
   split at a
   ·cases a;exact b
   ·exact sQ b a
  all_goals exact sQ b a
def ff{fr:Vg}(h:nE P fr)(v:U):nE P (fr.finish v)/\(fr.finish v).kind=fr.kind:=by
 unfold WJ;have a:=h.todo
 split
 ·rename_i g f i e b;rw[b] at a;exact⟨⟨λd c=>by
   rcases WI.1 c with rfl|c
   ·exact a (.inRegion g (f::i)) (by simp)
   ·exact a d (by simp[c]),h.defers,h.kind⟩,rfl⟩
 ·rename_i j e b;rw[b] at a;exact⟨⟨λd c=>by
   rcases WI.1 c with rfl|c
   ·exact trivial
   ·exact a d (by simp[c]),h.defers,h.kind⟩,rfl⟩
 ·rename_i e b;rw[b] at a;exact⟨⟨λd c=>a d (by simp[c]),h.defers,h.kind⟩,rfl⟩
 ·rename_i b;rw[b] at a;exact(a _ (Yu ..)).elim
 ·rename_i b;rw[b] at a;exact(a _ (Yu ..)).elim
 ·exact⟨h,rfl⟩
def lE{fr:Vg}(h:nE P fr)(c:List Ws):nE P (fr.raise c)/\(fr.raise c).kind=fr.kind:=by
 unfold Frame.raise
 split<;>exact⟨⟨h.todo,h.defers,h.kind⟩,rfl⟩
def Ff(l:Nat)(f:Xb)(tmps:Array U)(a b:XQ)(k:CallKind)(h:k= .normal\/k= .deferred)(d:aX P Z a=Z)(e:aX P Z b=Z):nE P (Xt l f tmps a b k):=by
 refine⟨λj c=>?_,λi g=>by simp[Xt] at g,h⟩;simp only[Xt,WI,List.not_mem_nil,or_false] at c;rcases c with rfl|rfl|rfl
 ·exact d
 ·rfl
 ·exact e
def Ht{fr:Vg}{aB:List Vg}(h:eH P fr aB):
 (∀cs,Ys fr (aB++cs)=K)\/∃v tops',(∀cs,Ys fr (aB++cs)=I (v,tops'++cs))/\(∀f∈tops',nE P f)/\cV fr tops':=by
 obtain⟨l,j,e⟩:=h;rcases l.kind with a|a
 ·exact .inl λcs=>by unfold Ys;rw[a]
 ·cases aB with
  |nil=>exact absurd (e.symm.trans a) (by simp)
  |cons d i=>
   by_cases c:∃v b,d.mode= .panicking ({v,recovered:=U5,goexit:=U5}::b)
   ·obtain⟨v,b,c⟩:=c;refine .inr ⟨v,{d with mode:=.panicking ({v,recovered:=Z}::b)}::i,λcs=>?_,λf g=>?_,?_⟩
    ·unfold Ys;simp[a,c]
    ·rcases WI.1 g with rfl|g
     ·have:=j d (by simp);exact⟨this.todo,this.defers,this.kind⟩
     ·exact j f (by simp[g])
    ·cases i with
     |nil=>exact e
     |cons m i=>exact e
   ·refine .inl λcs=>?_;unfold Ys;simp only[a,List.cons_append]
    split
    ·rename_i v b k;exact absurd ⟨v,b,k⟩ c
    ·rfl
def fD(a:Zr):XZ #[] a=a:=by cases a<;>simp[XZ]
def seen_none(R:Vb)(f:Xb):seen R f #[]=#[]:=by simp[seen]
def vp(z:pS P P')(J:Hp (bf P) w){fr:Vg}{aB:List Vg}(h:eH P fr aB){s:XH Next}(L:Still P P' (bf P) (qh P fr.roundOf.isSome) s)(I:∀d wr M N k,fr.todo≠.call d wr M N::k):
 Ch P P' w (λR m cs w=>WO R Z fr (aB++cs) K s w):=by
 have e:(fr.kind == .early)=U5:=by rcases h.top.kind with n|n<;>rw[n]<;>rfl
 have H:(match fr.todo with| .call _ Z _ _::_=>CallKind.wrapped|_=>.normal)= .normal:=by
  split
  ·rename_i n;exact absurd n (I _ _ _ _ _)
  ·rfl
 refine py z J fr.fn L (λR m cs u=>match u with
  | .ok c w=>WO R Z fr (aB++cs) K (.pure c) w
  | .halt a w=>WO R Z fr (aB++cs) K (.halt a) w) (λR S m cs w o _=>?_) (λc y i g=>?_) (λa y b g=>?_) (λT y m cs=>⟨_,_,_,by simp only[WO,V2,seen_none,e,fD,if_true,Vv,if_false];rfl⟩)
 ·unfold WO;simp only[if_true,e,Vv,if_false];generalize E:s.runT R w #[]=D;obtain⟨u,Q⟩:=D;rw[E] at o;cases u with
  |ok c C=>simp[V2,fD,seen_none]
  |halt a C=>
   have:=o a C Y;cases a<;>first|(simp[p9] at this;done)|(simp[V2,fD,seen_none];done)|skip
   rename_i x;cases x<;>first|(simp[p9] at this;done)|(simp[V2,fD,seen_none];done)
 ·have r:∀v:U,Ch P P' y (λR m cs w=>.go (Vd (fr.finish v) (aB++cs)) w):=λv=>iA g _ _ (iP h (ff h.top v).1 (ff h.top v).2);have j:∀(R:Vb) (cs:List Vg) (w:F),WO R Z fr (aB++cs) K (.pure c) w=(match c with
   | .value v=>GStep.go (Vd (fr.finish v) (aB++cs)) w
   | .skip=>.go (Vd (fr.finish V9) (aB++cs)) w
   | .enter f args=>.go (Vd (VU R f args .normal) (fr::(aB++cs))) w
   | .round p f q a l=>.go (Vd (Xt p f q a l .normal) (fr::(aB++cs))) w
   | .defer d=>.go (Vd ({fr with defers:=d::fr.defers}.finish V9) (aB++cs)) w
   |_=>WO R Z fr (aB++cs) K (.pure c) w):=by
   intro R cs w;cases c<;>first|rfl|skip
   all_goals simp[WO,V2,seen_none,e,fD,Vd]
   exact congrArg (VU R _ _) H
  cases c with
  |value v=>exact gH (λR _ m cs w=>j R cs w) (r v)
  |skip=>exact gH (λR _ m cs w=>j R cs w) (r V9)
  |enter f args=>exact gH (λR _ m cs w=>j R cs w) (BI g z f args .normal (.inl Y) (fr::aB) (λa b=>by
   rcases WI.1 b with rfl|b
   ·exact h.top
   ·exact h.rest a b) h.bot)
  |round p f q a l=>exact gH (λR _ m cs w=>j R cs w) (iA g (Xt p f q a l .normal) (fr::aB) ⟨Ff p f q a l .normal (.inl Y) i.1 i.2,λa b=>by
   rcases WI.1 b with rfl|b
   ·exact h.top
   ·exact h.rest a b,h.bot⟩)
  |defer d=>
   have A:nE P {fr with defers:=d::fr.defers}:=⟨h.top.todo,λa b=>by
    rcases WI.1 b with rfl|b
    ·exact i
    ·exact h.top.defers a b,h.top.kind⟩
   exact gH (λR _ m cs w=>j R cs w) (iA g _ _ (iP h (ff A V9).1 (ff A V9).2))
  |recover=>
   have B:fr.roundOf=K:=by
    have:fr.roundOf.isSome=U5:=i;simpa using this
   rcases Ht h with t|⟨v,O,t,o,G⟩
   ·exact gH (λR _ m cs w=>by simp[WO,V2,seen_none,e,fD,Vd,B,t]) (r .nilIface)
   ·exact gH (λR _ m cs w=>by simp[WO,V2,seen_none,e,fD,Vd,B,t]) (iA g (fr.finish v) O ⟨(ff h.top v).1,o,yd (ff h.top v).2 G⟩)
  |_=>exact i.elim
 ·cases a with
  |panic v=>
   refine gH (F':=λR m cs w=>.go (Vd (fr.raise [{v,recovered:=U5}]) (aB++cs)) w) (λR _ m cs w=>?_) (iA g _ _ (iP h (lE h.top _).1 (lE h.top _).2));simp[WO,V2,seen_none,e,fD,Vd]
  |stuck s=>exact .inl λm cs=>⟨_,_,_,by simp only[WO,V2,seen_none,e,fD,if_true,Vv,if_false];rfl⟩
  |unsupported x=>
   refine .inl λm cs=>?_;cases x<;>first|(simp[p9] at b;done)|exact⟨_,_,_,by simp only[WO,V2,seen_none,e,fD,if_true,Vv,if_false];rfl⟩
  |_=>simp[p9] at b
def pR (fr:Vg)(aB:List Vg):Prop:=aB=[]->(fr.mode≠.run->fr.defers≠[])/\(fr.mode= .run->fr.roundOf=K\/(fr.todo≠[]/\(∀a,fr.todo≠.code .ret::a)/\∀id a,fr.todo= .code (.exit id)::a->YE id a≠K))
def sY(A:pS P P')(k:Hp (bf P) w){fr c:Vg}{aB:List Vg}(h:eH P fr (c::aB))(v:U):Ch P P' w (λR m cs w=>Yb R m fr (c::aB++cs) K v w):=by
 have a:nE P c:=h.rest c (by simp);have l:∀f∈aB,nE P f:=λf p=>h.rest f (by simp[p]);have i:cV c aB:=h.bot;rcases h.top.kind with b|b
 ·refine gH (F':=λR m cs w=>.go (Vd (c.finish v) (aB++cs)) w) (λR _ m cs w=>?_) (iA k _ _ ⟨(ff a v).1,l,yd (ff a v).2 i⟩);simp[Yb,b,Vd]
 ·obtain⟨e,n,q,o⟩:∃e:Vg,nE P e/\e.kind=c.kind/\∀(R:Vb) (m:Bool) (cs:List Vg) (w:F),Yb R m fr (c::aB++cs) K v w= .go (Vd e (aB++cs)) w:=by
   cases d:c.mode with
   |run=>exact⟨c,a,rfl,λR m cs w=>by simp[Yb,b,d,Vd]⟩
   |returning=>exact⟨c,a,rfl,λR m cs w=>by simp[Yb,b,d,Vd]⟩
   |panicking r=>
    cases r with
    |nil=>exact⟨c,a,rfl,λR m cs w=>by simp[Yb,b,d,Vd]⟩
    |cons g s=>
     obtain⟨y,u,z⟩:=g;cases u with
     |false=>exact⟨c,a,rfl,λR m cs w=>by simp[Yb,b,d,Vd]⟩
     |true=>
      cases j:s.dropWhile (λg:Ws=> !g.goexit) with
      |nil=>exact⟨{c with mode:=.returning},⟨a.todo,a.defers,a.kind⟩,rfl,λR m cs w=>by simp[Yb,b,d,Vd,j]⟩
      |cons x t=>exact⟨{c with mode:=.panicking (x::t)},⟨a.todo,a.defers,a.kind⟩,rfl,λR m cs w=>by simp[Yb,b,d,Vd,j]⟩
  exact gH (λR _ m cs w=>o R m cs w) (iA k _ _ ⟨n,l,yd q i⟩)
end
section
variable {P P':Vb}{w:F}
def FA(l:Nat)(j:Option XQ)(b:∀c,j=I c->aX P Z c=Z):St P P' (bf P) (YB l j):=by
 unfold YB;exact iO (nj l) λd a=>ag (mC _ ⟨a.1,a.2.1,b⟩) λ_=>trivial
def AX(b:Twin P P')(l:Nat):St P P' (bf P) (Instr.beginRound l):=by
 unfold Instr.beginRound;refine iO (nj l) λc a=>ag (mC _ ⟨a.1,a.2.1,a.2.2⟩) λ_=>?_
 split
 ·exact trivial
 all_goals exact bJ b (eu P) _
def Ip(b:Twin P P')(l:Nat):Still P P' (bf P) (λj=>∀c,j=I c->aX P Z c=Z) (Instr.endLoop l):=by
 unfold Instr.endLoop;refine iO (nj l) λd a=>?_;dsimp only
 split
 ·exact ag (bJ b (eu P) _) λ_=>ag (mC _ ⟨a.1,a.2.1,a.2.2⟩) λ_=>a.2.2
 ·exact ag (mC _ ⟨a.1,a.2.1,a.2.2⟩) λ_=>a.2.2
def Di(f:Xb)(tmps:Array U)(ps:Array Tmp)(a b:XQ)(h:Option Nat)(k:aX P Z a=Z)(l:aX P Z b=Z):Still P P' (bf P) (λp=>∀d∈p.2,lY d.target=Z) (Instr.enterLoop f tmps ps a b h):=by
 unfold Instr.enterLoop;have i:∀(e:Nat),bf P (.loop {state:=.ready,pending:=K,fn:=f,tmps,params:=ps,assign:=a,body:=b,defers:=e}):=λe=>⟨k,l,λr j=>by cases j⟩;cases h with
 |some m=>
  refine ag (Uz (nj m)) λq=>iO (Q:=λp:Nat×List Xs=>∀d∈p.2,lY d.target=Z) (λd c=>by simp at c) λp g=>?_;obtain⟨e,n⟩:=p;exact ag (mB (i _)) λo=>g
 |none=>
  refine ag (mB (λd c=>by simp at c)) λq=>iO (Q:=λp:Nat×List Xs=>∀d∈p.2,lY d.target=Z) (λd c=>by
   simp only[List.mem_singleton] at c;subst c;rfl) λp g=>?_
  obtain⟨e,n⟩:=p;exact ag (mB (i _)) λo=>g
def xm(b:Nat):Still P P' (bf P) (λds=>∀d∈ds,lY d.target=Z) (Instr.takeDeferred b):=by
 unfold Instr.takeDeferred;refine jz b (λc a=>?_) (qD Y)
 split
 ·exact ag (mC _ trivial) λ_=>a
 ·exact ay _
def vq(f:pS P P')(g:Hp (bf P) w){fr:Vg}{aB:List Vg}(h:eH P fr aB)(q:aB=[]->fr.roundOf=K)(j:Option XQ)(p:∀c,j=I c->aX P Z c=Z)
 {b:Vb->Bool->List Vg->F->Zr} (k:fr.roundOf=K->(∀m cs,∃o w' es,b P m cs w= .ended o w' es)\/∀R,R=P\/R=P'->∀m cs w,b R m cs w= .go (Vd {fr with mode:=.returning} (aB++cs)) w)
 (n:∀l,fr.roundOf=I l->∀R m cs w,b R m cs w=XZ (seen R fr.fn ((YB l j).runT R w #[]).2) (match ((YB l j).runT R w #[]).1 with
   | .ok v w=>Yb R m fr (aB++cs) K v w
   | .halt _ w=>.ended (.stuck "range over a function: no such loop" (fr.pos R)) w)):Ch P P' w b:=by
 cases d:fr.roundOf with
 |none=>
  rcases k d with e|e
  ·exact .inl e
  ·exact gH e (iA g _ _ (iP h ⟨h.top.todo,h.top.defers,h.top.kind⟩ Y))
 |some l=>
  cases aB with
  |nil=>rw[q Y] at d;cases d
  |cons c aB=>
   refine py f g fr.fn (FA l j p) (λR m cs r=>match r with
    | .ok v w=>Yb R m fr (c::aB++cs) K v w
    | .halt _ w=>.ended (.stuck "range over a function: no such loop" (fr.pos R)) w) (λR s m cs w _ _=>n l d R m cs w) (λa w' _ i=>?_) (λu w' t i=>?_) (λx w' m cs=>⟨_,_,_,rfl⟩)
   ·exact sY f i h a
   ·exact .inl λm cs=>⟨_,_,_,rfl⟩
def NZ(k:pS P P')(u:Hp (bf P) w){fr:Vg}{aB:List Vg}(h:eH P fr aB)(V:pR fr aB)(d:fr.mode= .run):Ch P P' w (dJ fr aB):=by
 have X:=h.top.todo;have W:aB=[]->fr.roundOf=K\/(fr.todo≠[]/\(∀e,fr.todo≠.code .ret::e)/\∀id e,fr.todo= .code (.exit id)::e->YE id e≠K):=λj=>(V j).2 d;cases b:fr.todo with
 |nil=>
  refine vq k u h (λj=>(W j).elim id λn=>absurd b n.1) K (λq j=>by cases j) (λJ=>.inr λc _ m a w=>?_) (λi x c m a w=>?_)
  ·simp[dJ,Vd,VN,VG,d,b,J]
  ·simp only[dJ,Vd,VN,VG,d,b,x];rfl
 |cons aa e=>
  rw[b] at X;have D:=X aa (by simp);have o:∀l∈e,bR P fr.roundOf.isSome l:=λl t=>X l (by simp[t]);have move:∀(M:List XR),(∀l∈M,bR P fr.roundOf.isSome l)->(∀c m a w,dJ fr aB c m a w= .go (Vd {fr with todo:=M} (aB++a)) w)->Ch P P' w (dJ fr aB):=λM k j=>gH (λc _ m a w=>j c m a w) (iA u _ _ (iP h (uY h.top k) Y));have r:∀{l:XR} {i:List XR},bR P fr.roundOf.isSome l->(∀l∈i,bR P fr.roundOf.isSome l)->∀n∈l::i,bR P fr.roundOf.isSome n:=λt x n y=>by
   rcases WI.1 y with rfl|y
   ·exact t
   ·exact x n y
  have T:(∀m a,∃N E ad,dJ fr aB P m a w= .ended N E ad)->Ch P P' w (dJ fr aB):=λj=>.inl j;cases aa with
  |inBlock l=>exact move e o λc m a w=>by simp[dJ,Vd,VN,VG,d,b]
  |inLoop q=>exact move (.code q :: .inLoop q::e) (r D (r D o)) λc m a w=>by simp[dJ,Vd,VN,VG,d,b]
  |inScope q=>exact D.elim
  |call _ _ _ _=>exact D.elim
  |extern _ _=>exact D.elim
  |inRangeFunc i=>exact T λm a=>by simp[dJ,Vd,VN,VG,d,b]
  |beginRound=>
   have V:Still P P' (bf P) (qh P fr.roundOf.isSome) (do fr.roundOf.elim (stuck "beginRound: no round") Instr.beginRound;pure .skip):=by
    refine ag ?_ λ_=>trivial;cases fr.roundOf with
    |none=>exact ay _
    |some i=>exact AX k.T i
   refine gH (λc _ m a w=>?_) (vp k u h V (by simp[b]));simp only[dJ,Vd,VN,VG,d,b]
  |endRangeFunc i=>
   refine py k u fr.fn (Ip k.T i) (λc m a R=>match R with
    | .ok ao w=>.go (Vd {fr with todo:=(ao.map Item.code).toList++e} (aB++a)) w
    | .halt (.panic v) w=>.go (Vd (fr.raise [{v,recovered:=U5}]) (aB++a)) w
    | .halt _ w=>.ended (.stuck "range over a function: no such loop" (fr.pos c)) w) (λc ae m a w _ _=>?_) (λp E H G=>?_) (λn E y G=>?_) (λS E m a=>⟨_,_,_,rfl⟩)
   ·simp only[dJ,Vd,VN,VG,d,b];rfl
   ·refine iA G _ _ (iP h (uY h.top λl t=>?_) Y);rcases VM.1 t with t|t
    ·cases p with
     |none=>simp at t
     |some q=>
      simp at t;subst t;exact Pt (H q Y)
    ·exact o l t
   ·cases n with
    |panic v=>exact iA G _ _ (iP h (lE h.top _).1 (lE h.top _).2)
    |_=>exact .inl λm a=>⟨_,_,_,rfl⟩
  |inRegion z aw=>
   cases aw with
   |nil=>exact move e o λc m a w=>by simp[dJ,Vd,VN,VG,d,b]
   |cons l R=>
    by_cases L:((z[l]?).map (VA · (yielded z fr.tmps))).getD U5=Z
    ·cases O:z[l]? with
     |none=>rw[O] at L;simp at L
     |some N=>
      have U:mQ P fr.roundOf.isSome N.op=Z:=by
       have:=Vx.1 D N (by
        have:=U4.1 O;obtain⟨t,rfl⟩:=this;simp)
       exact this
      refine gH (λc _ m a w=>?_) (vp k u h (QF k.T k.E fr.roundOf.isSome fr.eval N U) (by simp[b]));rw[O] at L;simp only[dJ,Vd,VN,VG,d,b,O,L,if_true,stepG.oper,Frame.oper?]
      split
      ·rename_i i q x g;rw[x,g] at U;simp[mQ] at U
      ·rfl
    ·refine gH (F':=λc m a w=>.go (Vd (fr.finish V9) (aB++a)) w) (λc _ m a w=>?_) (iA u _ _ (iP h (ff h.top V9).1 (ff h.top V9).2));simp only[dJ,Vd,VN,VG,d,b,L,if_false];rfl
  |code q=>
   have g:aX P fr.roundOf.isSome q=Z:=D;cases q with
   |skip=>exact move e o λc m a w=>by simp[dJ,Vd,VN,VG,d,b]
   |label i=>simp[aX] at g
   |scope i=>simp[aX] at g
   |goto i=>simp[aX] at g
   |refuse s=>exact T λm a=>by simp[dJ,Vd,VN,VG,d,b]
   |seq p F=>
    simp only[aX,Vr] at g;exact move (.code p :: .code F::e) (r g.1 (r g.2 o)) λc m a w=>by simp[dJ,Vd,VN,VG,d,b]
   |block id p=>exact move (.code p :: .inBlock id::e) (r g (r trivial o)) λc m a w=>by simp[dJ,Vd,VN,VG,d,b]
   |loop p=>exact move (.code p :: .inLoop p::e) (r g (r g o)) λc m a w=>by simp[dJ,Vd,VN,VG,d,b]
   |cond n p F=>
    simp only[aX,Vr] at g;cases y:fr.eval n with
    |bool S=>
     refine move (.code (if S then p else F)::e) (r ?_ o) λc m a w=>by simp[dJ,Vd,VN,VG,d,b,y]
     cases S
     ·exact g.2
     ·exact g.1
    |_=>exact T λm a=>by simp[dJ,Vd,VN,VG,d,b,y]
   |ret=>
    refine vq k u h (λj=>(W j).elim id λn=>absurd b (n.2.1 e)) (I .ret) (λq j=>by cases j;rfl) (λJ=>.inr λc _ m a w=>?_) (λi x c m a w=>?_)
    ·simp[dJ,Vd,VN,VG,d,b,J]
    ·simp only[dJ,Vd,VN,VG,d,b,x];rfl
   |exit id=>
    cases C:YE id e with
    |some M=>exact move M (sQ o C) λc m a w=>by simp[dJ,Vd,VN,VG,d,b,C]
    |none=>
     refine vq k u h (λj=>(W j).elim (λn=>n) λn=>absurd C (n.2.2 id e b)) (I (.exit id)) (λq j=>by cases j;rfl) (λJ=>.inl λm a=>?_) (λi x c m a w=>?_)
     ·simp[dJ,Vd,VN,VG,d,b,C,J]
     ·simp only[dJ,Vd,VN,VG,d,b,C,x];rfl
   |region id z ab=>
    cases ab with
    |false=>exact move (.inRegion z (List.range z.size)::e) (r g o) λc m a w=>by simp[dJ,Vd,VN,VG,d,b]
    |true=>
     refine .inr ⟨{fr with todo:=.inRegion z (Y0 (P.follows .mixedOrders) z (w.tape w.drawn (.order fr.fn id)))::e},aB,{w with drawn:=w.drawn+1},#[],λm a=>?_,iP h (uY h.top (r g o)) Y,u,rfl,Nat.le_succ _,U7 _,rfl,rfl,λj C=>by simp at C,.inr λa1 A a0 Q H=>⟨a0,⟨⟨Q.size,Q.at_,Q.os,Q.output⟩,λF al=>⟨al,rfl⟩⟩,λm a=>?_⟩⟩
     ·simp[dJ,Vd,VN,VG,d,b,choose,XE,Question.forced,Question.cut]
     ·have:=H 0 (.order fr.fn id) (by simp);simp only[Nat.add_zero] at this;simp[dJ,Vd,VN,VG,d,b,choose,XE,Question.forced,Question.cut,k.mixed,sh,this]
   |rangeFunc f au p F=>
    simp only[aX,Vr] at g;refine py k u fr.fn (Di fr.fn fr.tmps au p F fr.roundOf g.1 g.2) (λc m a R=>match R with
     | .ok (i,mark) w=>WO c Z {fr with todo:=.inRangeFunc i::e,defers:=mark++fr.defers} (aB++a) K (do let A <-Y6 fr.eval {callee:=.value f,args:= #[.const (.func (.yield i) #[] #[])],argTypes:= #[]} 0;invoke A.target A.args) w
     | .halt _ w=>.ended (.stuck "range over a function: no such loop" (fr.pos c)) w) (λc ae m a w _ _=>?_) (λar E H G=>?_) (λn E y G=>?_) (λS E m a=>⟨_,_,_,rfl⟩)
    ·simp only[dJ,Vd,VN,VG,d,b];rfl
    ·obtain⟨i,mark⟩:=ar;have am:nE P {fr with todo:=.inRangeFunc i::e,defers:=mark++fr.defers}:=⟨r trivial o,λA B=>by
      rcases VM.1 B with B|B
      ·exact H A B
      ·exact h.top.defers A B,h.top.kind⟩
     exact vp k G (iP h am Y) (iO (zU P P' fr.roundOf.isSome _ _ _ Y) λA B=>vF k.T k.E _ _ _ B) (by simp)
    ·exact .inl λm a=>⟨_,_,_,rfl⟩
def Nk{a:Bool}{t:Target}(h:lY t=Z):yK P a t=Z:=by
 cases t<;>first|rfl|(simp[lY] at h)
def C6(j:pS P P')(F:Hp (bf P) w){fr:Vg}{aB:List Vg}(h:eH P fr aB)(d:Xs)(E:lY d.target=Z)(J:fr.mode≠.run):Ch P P' w (λR m cs w=>callDeferred R fr (aB++cs) K d w):=by
 obtain⟨o,u⟩:=d;by_cases y:o= .nil/\∃x,fr.mode= .panicking x
 ·obtain⟨rfl,x,D⟩:=y;refine .inl λm cs=>?_;dsimp only;unfold callDeferred;rw[if_pos ?hP]
  case hP=>simp[D]
  exact⟨_,_,_,rfl⟩
 ·have r:∀e,Hp (bf P) e->Ch P P' e (λR m cs w=>.go (Vd fr (aB++cs)) w):=λe b=>iA b _ _ h;refine py j F fr.fn (vF j.T j.E Z o u (Nk E)) (λR m cs q=>match q with
   | .ok (.enter f args) w=>.go (Vd (VU R f args .deferred) (fr::aB++cs)) w
   | .ok (.round n f p g i) w=>.go (Vd (Xt n f p g i .deferred) (fr::aB++cs)) w
   | .ok _ w=>.go (Vd fr (aB++cs)) w
   | .halt (.panic v) w=>.go (Vd (fr.raise [{v,recovered:=U5}]) (aB++cs)) w
   | .halt a w=>.ended (match a with| .unsupported A=>.unsupported A (fr.pos R)| .stuck s=>.stuck s (fr.pos R)|_=>.stuck "" "") w) (λR H m cs w z l=>?_) (λg e k b=>?_) (λa e c b=>?_) (λL e m cs=>⟨_,_,_,rfl⟩)
  ·unfold callDeferred;rw[if_neg ?hL]
   case hL=>
    intro C;apply y;cases o<;>cases l:fr.mode<;>simp[l] at C ⊢
   generalize I:(invoke o u).runT R w #[]=B at z l;obtain⟨q,G⟩:=B;dsimp only;cases q with
   |ok g t=>
    have:=l g t Y;cases g<;>first|exact absurd this (λh=>h)|(cases this;done)|rfl
   |halt a t=>
    have:=z a t Y;cases a<;>first|(simp[p9] at this;done)|rfl
  ·cases g with
   |value v=>exact r e b
   |skip=>exact r e b
   |enter f args=>exact BI b j f args .deferred (.inr Y) (fr::aB) (λa c=>by
    rcases WI.1 c with rfl|c
    ·exact h.top
    ·exact h.rest a c) h.bot
   |round n f p a i=>exact iA b (Xt n f p a i .deferred) (fr::aB) ⟨Ff n f p a i .deferred (.inr Y) k.1 k.2,λa c=>by
    rcases WI.1 c with rfl|c
    ·exact h.top
    ·exact h.rest a c,h.bot⟩
   |defer d=>exact r e b
   |recover=>cases k
   |_=>exact k.elim
  ·cases a with
   |panic v=>exact iA b _ _ (iP h (lE h.top _).1 (lE h.top _).2)
   |stuck s=>exact .inl λm cs=>⟨_,_,_,rfl⟩
   |unsupported A=>exact .inl λm cs=>⟨_,_,_,rfl⟩
   |_=>simp[p9] at c
def zV(a:Twin P P')(fn:XJ)(tmps:Array U):St P P' (bf P) (V0 fn tmps):=by
 unfold V0;refine ag (JB _ _ λb=>?_) λe=>trivial;cases b with
 |tmp c=>exact trivial
 |cell d c=>exact ag (oR a (eu P) _) λ_=>pK a _ _
def Hu(i:pS P P')(j:∀f:Nat,(P'.funcs[f]? =K↔P.funcs[f]? =K)/\∀fn c:XJ,P.funcs[f]? =I fn->P'.funcs[f]? =I c->c.results=fn.results)(l:Hp (bf P) w){fr:Vg}{aB:List Vg}(h:eH P fr aB)(R:pR fr aB)(u:fr.mode≠.run):Ch P P' w (dJ fr aB):=by
 have J:∀a m b w,dJ fr aB a m b w=Zh a m fr (aB++b) K w:=λa m b w=>by
  unfold dJ;cases o:fr.mode<;>first|exact absurd o u|simp[Vd,VN,o]
 refine gH (λa _ m b w=>J a m b w) ?_;cases e:fr.defers with
 |cons r A=>
  have Q:lY r.target=Z:=h.top.defers r (by simp[e]);have D:nE P {fr with defers:=A}:=⟨h.top.todo,λg d=>h.top.defers g (by simp[e,d]),h.top.kind⟩;have T:=C6 i l (iP h D Y) r Q u;obtain⟨U,W⟩:=r;cases U with
  |collected E=>
   refine py i l fr.fn (xm E) (λa m b y=>match y with
    | .ok F w=>.go (Vd {fr with defers:=F++A} (aB++b)) w
    | .halt _ w=>.ended (.stuck "the deferred calls of a range-over-func loop have been taken" (fr.pos a)) w) (λa t m b w _ _=>?_) (λz p B n=>?_) (λg p d n=>?_) (λV p m b=>⟨_,_,_,rfl⟩)
   ·unfold Zh;rw[e];rfl
   ·exact iA n _ _ (iP h ⟨h.top.todo,λg d=>by
     rcases VM.1 d with d|d
     ·exact B g d
     ·exact D.defers g d,h.top.kind⟩ Y)
   ·exact .inl λm b=>⟨_,_,_,rfl⟩
  |_=>
   refine gH (λa _ m b w=>?_) T;unfold Zh;rw[e]
 |nil=>
  cases aB with
  |nil=>exact absurd e ((R Y).1 u)
  |cons q aB=>
   have C:nE P q:=h.rest q (by simp);have S:∀f∈aB,nE P f:=λf j=>h.rest f (by simp[j]);cases x:fr.mode with
   |run=>exact absurd x u
   |panicking G=>
    have O:∀a,fr.catches a=U5:=λa=>by
     unfold Frame.catches
     split
     ·rename_i H;exact YJ (h.top.todo (Item.call _ _ _ _) (by rw[H];exact Yu ..))
     ·rfl
    refine gH (F':=λa m b w=>.go (Vd (q.raise G) (aB++b)) w) (λa _ m b w=>?_) (iA l _ _ ⟨(lE C _).1,S,yd (lE C _).2 h.bot⟩);unfold Zh;rw[e];simp[x,O,Vd]
   |returning=>
    cases k:P.funcs[fr.fn]? with
    |none=>
     have X:=(j fr.fn).1.2 k;refine gH (λa t m b w=>?_) (sY i l h (fr.tmps.getD 0 V9));have:a.funcs[fr.fn]? =K:=by rcases t with rfl|rfl<;>assumption
     unfold Zh;rw[e];simp[x,this]
    |some fn=>
     refine py i l fr.fn (zV i.T fn fr.tmps) (λa m b y=>match y with
      | .ok v w=>Yb a m fr (q::aB++b) K v w
      | .halt (.stuck s) w=>.ended (.stuck s (fr.pos a)) w
      | .halt _ w=>.ended (.stuck "return: the result variables cannot be read" (fr.pos a)) w) (λa t m b w _ _=>?_) (λz p B n=>?_) (λg p d n=>?_) (λV p m b=>⟨_,_,_,rfl⟩)
     ·have:∃c,a.funcs[fr.fn]? =I c/\c.results=fn.results:=by
       rcases t with rfl|rfl
       ·exact⟨fn,k,rfl⟩
       ·cases o:a.funcs[fr.fn]? with
        |none=>rw[(j fr.fn).1.1 o] at k;cases k
        |some c=>exact⟨c,rfl,(j fr.fn).2 fn c k o⟩
      obtain⟨c,L,M⟩:=this;have N:V0 c fr.tmps=V0 fn fr.tmps:=by unfold V0;rw[M]
      unfold Zh;rw[e];simp only[x,L,N];rfl
     ·exact sY i n h z
     ·cases g<;>exact .inl λm b=>⟨_,_,_,rfl⟩
def zA(b:pS P P')(g:∀f:Nat,(P'.funcs[f]? =K↔P.funcs[f]? =K)/\∀fn a:XJ,P.funcs[f]? =I fn->P'.funcs[f]? =I a->a.results=fn.results)(d:Hp (bf P) w){fr:Vg}{aB:List Vg}(h:eH P fr aB)(e:pR fr aB):Ch P P' w (dJ fr aB):=by
 by_cases c:fr.mode= .run
 ·exact NZ b d h e c
 ·exact Hu b g d h e c
end
structure Twins(P P':Vb):Prop where
 A:pS P P'
 R:∀f:Nat,(P'.funcs[f]? =K↔P.funcs[f]? =K)/\∀fn fn':XJ,P.funcs[f]? =I fn->P'.funcs[f]? =I fn'->fn'.results=fn.results
def Still.self{P P':Vb}{h:Yk->Prop}{α:Type}{Q:α->Prop}:∀{s:XH α},Still P P' h Q s->Still P P h Q s:=by
 intro s
 induction s with
 |pure e=>intro a;exact a
 |load m e c b=>intro a v;exact b v (a v)
 |store m e v c b=>intro a;exact b a
 |new f c b=>intro a;exact⟨a.1,λd=>b d (a.2 d)⟩
 |shape d c b=>intro a s;exact b s (a s)
 |freeze e g c b=>intro a;exact b a
 |frozen e c b=>intro a i;exact b i (a i)
 |getObj d c b=>intro a;exact⟨λf j=>b f (a.1 f j),a.2⟩
 |setObj d f c b=>intro a;exact⟨a.1,b a.2⟩
 |choose l c b=>intro a g;exact b g (a g)
 |sys k c b=>intro a;exact⟨a.1,λd=>b d (a.2 d)⟩
 |program c b=>intro a;exact⟨rfl,b P a.2⟩
 |mark m c b=>intro a;exact⟨a.1,b a.2⟩
 |halt a=>intro a;exact a
def Views.self{P P':Vb}(h:Views P P'):Views P P:=by
 have i:∀(a:F) c d b m,a.viewLoad P' c d b m=a.viewLoad P c d b m:=λa c d b m=>h.load a a c d b m λ_ _ _=>Iff.rfl;have s:∀(a:F) c d b v m,a.viewStore P' c d b v m=a.viewStore P c d b v m:=λa c d b v m=>by
  rcases h.store a a c d b v m λ_ _ _=>Iff.rfl with⟨o,j,k⟩|⟨l,i,f,n,j,k,-⟩<;>rw[j,k]
 refine⟨λa e c d b m g=>(i e c d b m).symm.trans (h.load a e c d b m g),h.touch,λa e c d b v m g=>?_⟩;rw[<-s e];exact h.store a e c d b v m g
def Twins.self{P P':Vb}(h:Twins P P'):Twins P P:=
 ⟨⟨⟨λ_=>rfl,λ_=>rfl,rfl,λ_=>rfl,λ_=>rfl,rfl,λ_ _ _ _ _ _=>rfl,λ_ _ _ _ _=>rfl,λ_ _ _=>rfl,λ_ _=>rfl,λ_=>rfl,λ_ _=>rfl,rfl,rfl,rfl,λ_=>.inl Y⟩,
  ⟨h.A.E.named,h.A.E.next,λf c d b a e args=>(h.A.E.find f c d b a e args).self⟩,λ_=>rfl,rfl,λ_=>.inl Y,h.A.Gu,h.A.view.self⟩,λf=>⟨Iff.rfl,λc g b a=>by rw[b] at a;cases a;rfl⟩⟩
structure Cg(P:Vb)(w w':F)(es:Array Wm):Prop where
 hp:Hp (bf P) w'
 tape:w'.tape=w.tape
 drawn:w.drawn<=w'.drawn
 size:w.heap.size<=w'.heap.size
 os:w'.os=w.os
 output:w'.output=w.output
 evs:∀e∈es,DJ w'.heap.size e
def Fin (P P':Vb)(Stop:Vg->List Vg->F->Prop)(fr:Vg)(aB:List Vg)(w u:F):Prop:=
 ∀d:Vg->List Vg->F->F->Prop,(∀fr aB w u,Stop fr aB w->d fr aB w u)->
  (∀fr aB w u (c:Tp->Nat->Vg×List Vg×F×F×Array Wm),(∀b a m e,VN P' m (Vd fr (aB++e)) (sh b a u)= .go (Vd (c b a).1 ((c b a).2.1++e)) (c b a).2.2.2.1 (c b a).2.2.2.2)->
    (∀b a,Cg P (sh b a w) (c b a).2.2.1 (c b a).2.2.2.2)->(∀b a,sL (sh b a w) (sh b a u) (c b a).2.2.1 (c b a).2.2.2.1/\(c b a).2.2.2.1.tape=(c b a).2.2.1.tape)->(∀b a,eH P (c b a).1 (c b a).2.1)->pR fr aB->
    (∀b a,d (c b a).1 (c b a).2.1 (c b a).2.2.1 (c b a).2.2.2.1)->d fr aB w u)->d fr aB w u
def Fin.stop{P P':Vb}{Stop:Vg->List Vg->F->Prop}{fr:Vg}{aB:List Vg}{w u:F}(h:Stop fr aB w):Fin P P' Stop fr aB w u:=λb a _=>a _ _ _ _ h
def Fin.step{P P':Vb}{Stop:Vg->List Vg->F->Prop}{fr:Vg}{aB:List Vg}{w u:F}(b:Tp->Nat->Vg×List Vg×F×F×Array Wm)(go:∀a d m cs,VN P' m (Vd fr (aB++cs)) (sh a d u)= .go (Vd (b a d).1 ((b a d).2.1++cs)) (b a d).2.2.2.1 (b a d).2.2.2.2)
 (g:∀a d,Cg P (sh a d w) (b a d).2.2.1 (b a d).2.2.2.2) (j:∀a d,sL (sh a d w) (sh a d u) (b a d).2.2.1 (b a d).2.2.2.1/\(b a d).2.2.2.1.tape=(b a d).2.2.1.tape) (ok:∀a d,eH P (b a d).1 (b a d).2.1) (i:pR fr aB) (h:∀a d,Fin P P' Stop (b a d).1 (b a d).2.1 (b a d).2.2.1 (b a d).2.2.2.1):Fin P P' Stop fr aB w u:=
 λe f c=>c _ _ _ _ b go g j ok i λa d=>h a d e f c
def bn:Vg:={(default:Vg) with todo:=[.code (.refuse "")],defers:=[{target:=.nil,args:= #[]}],mode:=.run,kind:=.normal}
section
variable {P P':Vb}
def Ds(c:Option (List Ws))(w:F):∃o w' es,VN P Z (Vd ((c.map bn.raise).getD bn) []) w= .ended o w' es:=by
 cases c with
 |none=>simp[Vd,VN,VG,bn]
 |some a=>simp[Vd,VN,bn,Frame.raise,Zh,callDeferred]
def Ux(N:Twins P P'){fr:Vg}{w:F}(Q:Hp (bf P) w)(h:eH P fr [])(t:¬pR fr []):(∃o w' es,VN P Z (Vd fr [bn]) w= .ended o w' es)\/∃c w' es,VN P Z (Vd fr [bn]) w= .go (Vd (((c:Option (List Ws)).map bn.raise).getD bn) []) w' es:=by
 have E:fr.kind= .normal:=h.bot;have q:∀v w,Yb P Z fr [bn] K v w= .go (Vd bn []) w:=λv w=>by simp[Yb,E,Vd,WJ,bn]
 have r:∀es g,((∃o w' es,g=GStep.ended o w' es)\/∃c w' es,g=GStep.go (Vd (((c:Option (List Ws)).map bn.raise).getD bn) []) w' es)->(∃o w' j,XZ es g=GStep.ended o w' j)\/∃c w' j,XZ es g=GStep.go (Vd (((c:Option (List Ws)).map bn.raise).getD bn) []) w' j:=by
  rintro es g (⟨o,w',j,rfl⟩|⟨c,w',j,rfl⟩)
  ·exact .inl ⟨_,_,_,rfl⟩
  ·exact .inr ⟨c,_,_,rfl⟩
 by_cases e:fr.mode= .run
 ·
  have M:∃b p,fr.roundOf=I b/\∀w,VN P Z (Vd fr [bn]) w=XZ (seen P fr.fn ((YB b p).runT P w #[]).2) (match ((YB b p).runT P w #[]).1 with
   | .ok v w=>Yb P Z fr [bn] K v w
   | .halt _ w=>.ended (.stuck "range over a function: no such loop" (fr.pos P)) w):=by
   have:¬(fr.roundOf=K\/(fr.todo≠[]/\(∀a,fr.todo≠.code .ret::a)/\∀id a,fr.todo= .code (.exit id)::a->YE id a≠K)):=λD=>t λ_=>⟨λh=>absurd e h,λ_=>D⟩;rw[not_or] at this;obtain⟨J,n⟩:=this;obtain⟨b,d⟩:∃b,fr.roundOf=I b:=by
    cases L:fr.roundOf with
    |none=>exact absurd L J
    |some b=>exact⟨b,rfl⟩
   by_cases s:fr.todo=[]
   ·exact⟨b,K,d,λw=>by simp only[Vd,VN,VG,e,s,d];rfl⟩
   ·by_cases k:∃a,fr.todo= .code .ret::a
    ·obtain⟨a,k⟩:=k;exact⟨b,I .ret,d,λw=>by simp only[Vd,VN,VG,e,k,d];rfl⟩
    ·by_cases l:∃id a,fr.todo= .code (.exit id)::a/\YE id a=K
     ·obtain⟨id,a,l,A⟩:=l;exact⟨b,I (.exit id),d,λw=>by simp only[Vd,VN,VG,e,l,A,d];rfl⟩
     ·exact absurd ⟨s,λa i=>k ⟨a,i⟩,λid a i H=>l ⟨id,a,i,H⟩⟩ n
  obtain⟨b,p,d,C⟩:=M;rw[C];refine r _ _ ?_;cases((YB b p).runT P w #[]).1 with
  |ok v f=>exact .inr ⟨K,f,_,q v f⟩
  |halt u f=>exact .inl ⟨_,_,_,rfl⟩
 ·have m:fr.defers=[]:=by
   by_cases m:fr.defers=[]
   ·exact m
   ·exact absurd (λ_=>⟨λ_=>m,λh=>absurd h e⟩) t
  have y:∀w,VN P Z (Vd fr [bn]) w=Zh P Z fr [bn] K w:=λw=>by
   cases n:fr.mode<;>first|exact absurd n e|simp[Vd,VN,n]
  rw[y];unfold Zh;rw[m];cases G:fr.mode with
  |run=>exact absurd G e
  |panicking x=>
   have B:fr.catches P=U5:=by
    unfold Frame.catches
    split
    ·rename_i i;exact YJ (h.top.todo (Item.call _ _ _ _) (by rw[i];exact Yu ..))
    ·rfl
   exact .inr ⟨I x,w,#[],by simp[B,Vd]⟩
  |returning=>
   dsimp only;cases O:P.funcs[fr.fn]? with
   |none=>exact .inr ⟨K,w,_,q _ w⟩
   |some z=>
    dsimp only;refine r _ _ ?_;cases((V0 z fr.tmps).runT P w #[]).1 with
    |ok v f=>exact .inr ⟨K,f,_,q v f⟩
    |halt u f=>cases u<;>exact .inl ⟨_,_,_,rfl⟩
end
def DX (Stop:Vg->List Vg->F->Prop)(fr:Vg)(aB:List Vg)(w:F):Prop:=∃b a,Stop fr aB (sh b a w)
structure Node(P P':Vb)(Stop:Vg->List Vg->F->Prop) where
 fr:Vg
 aB:List Vg
 w:F
 u:F
 ok:eH P fr aB
 hp:Hp (bf P) w
 un:Un w u
 no:¬Fin P P' (DX Stop) fr aB w u
section
variable {P P':Vb}{Stop:Vg->List Vg->F->Prop}
def Rc (x:Node P P' Stop)(b:Tp)(d:Nat)(y:Node P P' Stop):Prop:=∃a,DS P P (sh b d x.w) (dJ x.fr x.aB) y.fr y.aB y.w a
def Mj (x:Node P P' Stop)(e:Tp)(d:Nat):Prop:=¬pR x.fr x.aB\/(∀m f,∃g b a,dJ x.fr x.aB P m f (sh e d x.w)= .ended g b a)\/∃c h b a,DS P P (sh e d x.w) (dJ x.fr x.aB) c h b a/\JQ c
def JI{w w' c:F}(h:sL w w w' c)(e:Tp)(d:Nat):sh e d c=sh e d w':=by
 have f:c.heap=w'.heap:=by
  apply Array.ext_getElem?;intro b;rcases h.un.cases b with a|⟨a,j,g,i⟩
  ·exact a
  ·rw[(h.keep b a).2,(h.keep b a).1,a]
 unfold sh;rw[f,h.un.os,h.un.output]
def Df{w w':F}{c:Vb->Bool->List Vg->F->Zr}{fr':Vg}{tops':List Vg}{es:Array Wm}(h:∀a d u,Un w u->Al w.tape w.drawn a d (w'.drawn-w.drawn)->∃b,sL w u w' b/\∀m cs,c P m cs (sh a d u)= .go (Vd fr' (tops'++cs)) (sh a (d+(w'.drawn-w.drawn)) b) es)(a:Tp)(d:Nat)(f:Al w.tape w.drawn a d (w'.drawn-w.drawn)):c P Z [bn] (sh a d w)= .go (Vd fr' (tops'++[bn])) (sh a (d+(w'.drawn-w.drawn)) w') es:=by
 obtain⟨b,g,e⟩:=h a d w (Un.refl w) f;rw[e Z [bn],JI g]
def Ks{w:F}{fr:Vg}{aB:List Vg}(h:Twins P P')(e:Hp (bf P) w)(ok:eH P fr aB)(f:pR fr aB){fr':Vg}{tops':List Vg}{w':F}{es:Array Wm}(b:DS P P' w (dJ fr aB) fr' tops' w' es):DS P P w (dJ fr aB) fr' tops' w' es:=by
 rcases zA h.self.A h.self.R e ok f with d|⟨i,k,m,g,c⟩
 ·obtain⟨j,l,Ap,a⟩:=d Z [];rw[b.eq] at a;cases a
 ·have a:=(c.eq Z []).symm.trans (b.eq Z []);simp only[Vd,List.append_nil,GStep.go.injEq,ZH] at a;obtain⟨⟨rfl,rfl,-⟩,rfl,rfl⟩:=a;exact c
def KM(h:Twins P P')(x:Node P P' Stop):∃a d y,Mj x a d\/Rc x a d y:=by
 apply Xh;intro s;have t:∀a d,¬Mj x a d/\∀y,¬Rc x a d y:=λa d=>⟨λi=>s ⟨a,d,x,.inl i⟩,λy C=>s ⟨a,d,y,.inr C⟩⟩;have j:∀a d,∃b:Vg×List Vg×F×F×Array Wm,(∀m g,VN P' m (Vd x.fr (x.aB++g)) (sh a d x.u)= .go (Vd b.1 (b.2.1++g)) b.2.2.2.1 b.2.2.2.2)/\Cg P (sh a d x.w) b.2.2.1 b.2.2.2.2/\(sL (sh a d x.w) (sh a d x.u) b.2.2.1 b.2.2.2.1/\b.2.2.2.1.tape=b.2.2.1.tape)/\eH P b.1 b.2.1/\Fin P P' (DX Stop) b.1 b.2.1 b.2.2.1 b.2.2.2.1:=by
  intro a d;obtain⟨p,A⟩:=t a d;have f:pR x.fr x.aB:=Xh λf=>p (.inl f);rcases zA h.A h.R (x.hp.sh a d) x.ok f with z|⟨n,q,e,l,c⟩
  ·exact absurd (.inr (.inl z)) p
  ·have u:=Ks h (x.hp.sh a d) x.ok f c;rcases c.twin with o|i
   ·exact absurd (.inr (.inr ⟨n,q,e,l,u,o.2⟩)) p
   ·obtain⟨r,k,i⟩:=i a d x.u ⟨x.un.size,x.un.at_,x.un.os,x.un.output⟩ (Al.refl _ _ _);have o:=c.drawn;have w:(sh a d x.w).drawn=d:=rfl;rw[w] at o i;have v:sL (sh a d x.w) (sh a d x.u) e (sh a e.drawn r):=⟨⟨k.un.size,k.un.at_,k.un.os,k.un.output⟩,k.keep⟩;refine⟨(n,q,e,sh a e.drawn r,l),λm g=>?_,⟨c.hp,c.tape,c.drawn,c.size,c.os,c.output,c.evs⟩,⟨v,c.tape.symm⟩,c.ok,?_⟩
    ·have:=i m g;rw[show d+(e.drawn-d)=e.drawn by omega] at this;exact this
    ·apply Xh;intro B;exact A ⟨n,q,e,sh a e.drawn r,c.ok,c.hp,v.un,B⟩ ⟨l,u⟩
 have f:pR x.fr x.aB:=Xh λf=>(t (λ_ _=>0) 0).1 (.inl f);exact x.no (.step (λa d=>Wq (j a d)) (λa d m g=>(Vo (j a d)).1 m g) (λa d=>(Vo (j a d)).2.1) (λa d=>(Vo (j a d)).2.2.1) (λa d=>(Vo (j a d)).2.2.2.1) f λa d=>(Vo (j a d)).2.2.2.2)
def least{p:Nat->Prop}:∀(n:Nat),p n->∃m,m<=n/\p m/\∀i<m,¬p i:=by
 intro n
 induction n using Nat.strongRecOn with
 |_ n g=>
  intro f;by_cases c:∃i,i<n/\p i
  ·obtain⟨i,a,b⟩:=c;obtain⟨m,h,d,e⟩:=g i a b;exact⟨m,by omega,d,e⟩
  ·exact⟨n,U7 _,f,λi a b=>c ⟨i,a,b⟩⟩
def zL{fr fr':Vg}{l b:List Vg}{w w':F}(h:Stepped.next (Zj (Vd fr l) w)= .next (Zj (Vd fr' b) w')):fr=fr'/\l=b/\w=w':=by
 simp only[Z5,Zj,Vd,Z8,ZH,Array.mk.injEq,Yl] at h;obtain⟨c,a,-⟩:=h;simp at a;exact⟨a.1,a.2,c⟩
def step_end{fr:Vg}{l:List Vg}{w w':F}{o:Outcome}{es:Array Wm}(h:VN P Z (Vd fr l) w= .ended o w' es):step P (Zj (Vd fr l) w)= .ended o w':=
 step_lone_ended (by simp only[Vd] at h;rw[h];rfl)
def Kf{fr:Vg}(h:JQ fr)(l:List Vg)(w:F):∃o w',step P (Zj (Vd fr l) w)= .ended o w':=by
 obtain⟨c,s,d⟩:=h;have:∃o w' a,VN P Z (Vd fr l) w= .ended o w' a:=by simp[Vd,VN,VG,c,d]
 obtain⟨o,w',a,b⟩:=this;exact⟨o,w',step_end b⟩
def vU(h:Twins P P')(a9:∀fr aB w,Stop fr aB w->¬JQ fr){fr:Vg}{aB:List Vg}{w u:F}(ok:eH P fr aB)(bi:Hp (bf P) w)(bm:Un w u)
 (bc:∀bo,∃N fr' tops' w',runN P N (Zj (Vd fr (aB++[bn])) (sh bo 0 w))= .next (Zj (Vd fr' (tops'++[bn])) w')/\Stop fr' tops' w'):Fin P P' (DX Stop) fr aB w u:=by
 apply Xh;intro be;obtain⟨l,Q⟩:=Classical.axiomOfChoice (KM (Stop:=Stop) h);obtain⟨k,a8⟩:=Classical.axiomOfChoice Q;obtain⟨s,bj⟩:=Classical.axiomOfChoice a8;let b:Nat->Node P P' Stop:=λa=>Nat.rec ⟨fr,aB,w,u,ok,bi,bm,be⟩ (λ_ L=>s L) a;let V:Node P P' Stop->Nat:=λL=>(s L).w.drawn-k L;let D:Nat->Nat:=λa=>Nat.rec 0 (λa a3=>a3+V (b a)) a;let q:Nat->Prop:=λa=>Mj (b a) (l (b a)) (k (b a));have aa:∀a,D (a+1)=D a+V (b a):=λa=>rfl;have br:∀a,b (a+1)=s (b a):=λa=>rfl;have al:∀a c,c<a->D (c+1)<=D a:=by
  intro a
  induction a with
  |zero=>intro c n;omega
  |succ a U=>
   intro c n;rcases WG c a with h|h
   ·have:=U c h;rw[aa a];omega
   ·have:c=a:=by omega
    subst this;exact U7 _
 let W:Nat->Nat->Prop:=λi a=>D a<=i/\(q a\/i<D (a+1));have t:∃d:Tp,∀a,(∀c<a,¬q c)->∀i g,W i a->d i g=l (b a) (k (b a)+(i-D a)) g:=by
  have bb:∀(i:Nat),∃f:Question->Nat,∀a,(∀c<a,¬q c)->W i a->∀g,f g=l (b a) (k (b a)+(i-D a)) g:=by
   intro i;by_cases E:∃a,(∀c<a,¬q c)/\W i a
   ·obtain⟨a,o,G⟩:=E;refine⟨λg=>l (b a) (k (b a)+(i-D a)) g,λA bd am g=>?_⟩;have:a=A:=by
     rcases Nat.lt_trichotomy a A with z|S|z
     ·have Q:=al A a z;rcases G.2 with p|p
      ·exact absurd p (bd a z)
      ·have:=am.1;omega
     ·exact S
     ·have Q:=al a A z;rcases am.2 with p|p
      ·exact absurd p (o A z)
      ·have:=G.1;omega
    subst this;rfl
   ·exact⟨λ_=>0,λa o G=>absurd ⟨a,o,G⟩ E⟩
  obtain⟨d,t⟩:=Classical.axiomOfChoice bb;exact⟨λi g=>d i g,λa o i g E=>t i a o E g⟩
 obtain⟨d,t⟩:=t;have au:∀a,(∀c<a,¬q c)->runN P a (Zj (Vd fr (aB++[bn])) (sh d 0 w))= .next (Zj (Vd (b a).fr ((b a).aB++[bn])) (sh d (D a) (b a).w)):=by
  intro a
  induction a with
  |zero=>intro _;rfl
  |succ a U=>
   intro o;have O:=U λc n=>o c (by omega);rcases bj (b a) with p|⟨B,y⟩
   ·exact absurd p (o a (by omega))
   ·rcases y.twin with j|j
    ·exact absurd Y j.1
    ·have C:Al (sh (l (b a)) (k (b a)) (b a).w).tape (sh (l (b a)) (k (b a)) (b a).w).drawn d (D a) ((s (b a)).w.drawn-(sh (l (b a)) (k (b a)) (b a).w).drawn):=by
      intro c g n;have:=t a (λc n=>o c (by omega)) (D a+c) g ⟨by omega,.inr (by rw[aa];exact Nat.add_lt_add_left n _)⟩;rw[this,Nat.add_sub_cancel_left];rfl
     have T:=Df j d (D a) C;have H:step P (Zj (Vd (b a).fr ((b a).aB++[bn])) (sh d (D a) (b a).w))= .next (Zj (Vd (s (b a)).fr ((s (b a)).aB++[bn])) (sh d (D a+V (b a)) (s (b a)).w)):=Conc.step_solo_go Y T;rw[runN_add,O];simp only[runN,H];rfl
 obtain⟨N,fr',tops',w',e,R⟩:=bc d;by_cases ab:∀c<N,¬q c
 ·have:=(au N ab).symm.trans e;obtain⟨M,x,a5⟩:=zL this;have a6:=List.append_cancel_right x;rw[<-M,<-a6,<-a5] at R;exact(b N).no (.stop ⟨d,D N,R⟩)
 ·have:∃c,c<N/\q c:=Xh λj=>ab λc n p=>j ⟨c,n,p⟩;obtain⟨c,n,bl⟩:=this;obtain⟨a,bs,aw,ad⟩:=least (p:=q) c bl;have O:=au a ad;obtain⟨v,rfl⟩:∃v,N=a+(v+1):=⟨N-a-1,by omega⟩;rw[runN_add,O] at e;simp only[runN] at e;have C:∀a0,Al (l (b a)) (k (b a)) d (D a) a0:=λa0 c g n=>by
   rw[t a ad (D a+c) g ⟨by omega,.inl aw⟩,Nat.add_sub_cancel_left]
  have ao:=(b a).hp.sh d (D a);have ar:¬pR (b a).fr (b a).aB->False:=by
   intro r;have bk:(b a).aB=[]:=Xh λj=>r λm=>absurd m j;have a1:=(b a).ok;rw[bk] at r a1 e;rcases Ux h ao a1 r with⟨I,J,B,m⟩|⟨a4,J,B,m⟩
   ·rw[show([]:List Vg)++[bn]=[bn] from rfl,step_end m] at e;cases e
   ·rw[show([]:List Vg)++[bn]=[bn] from rfl,Conc.step_solo_go Y m] at e;dsimp only at e;cases v with
    |zero=>
     obtain⟨-,x,-⟩:=zL e;simp at x
    |succ v=>
     obtain⟨I,K,X,x⟩:=Ds (P:=P) a4 J;simp only[runN,step_end x] at e;cases e
  rcases aw with r|S|⟨a7,a2,K,X,y,ae⟩
  ·exact ar r
  ·by_cases r:pR (b a).fr (b a).aB
   ·rcases zA h.self.A h.self.R ao (b a).ok r with ba|⟨a7,a2,K,X,y⟩
    ·obtain⟨I,J,B,m⟩:=ba Z [bn];rw[step_end m] at e;cases e
    ·rcases y.twin with j|j
     ·exact absurd Y j.1
     ·obtain⟨I,J,B,m⟩:=S Z [bn];have:=Df j (l (b a)) (k (b a)) (λc g n=>((C _) c g n).symm);rw[show sh (l (b a)) (k (b a)) (sh d (D a) (b a).w)=sh (l (b a)) (k (b a)) (b a).w from rfl,m] at this;cases this
   ·exact ar r
  ·rcases y.twin with j|j
   ·exact absurd Y j.1
   ·have T:=Df j d (D a) (C _);have H:=Conc.step_solo_go (P:=P) (a:=Vd (b a).fr ((b a).aB++[bn])) Y T;rw[show sh d (D a) (sh (l (b a)) (k (b a)) (b a).w)=sh d (D a) (b a).w from rfl] at H;rw[H] at e;dsimp only at e;cases v with
    |zero=>
     obtain⟨M,-,-⟩:=zL e;exact a9 _ _ _ R (M▸ae)
    |succ v=>
     obtain⟨I,bt,m⟩:=Kf (P:=P) ae (a2++[bn]) (sh d (D a+(K.drawn-(sh (l (b a)) (k (b a)) (b a).w).drawn)) K);simp only[runN,m] at e;cases e
end
end Cc
namespace Cc
open Go Go.Conc
def blk:Loc->Nat
 | .cell a=>a.block
 | .obj b=>b
 |_=>0
structure wT where
 c:Nat
 own:Nat->Prop
 pc:Option Nat
def O4 (S:Nat->Prop)(x:wT)(a:Touch):Prop:=x.own (blk a.loc)\/blk a.loc=x.c\/(S (blk a.loc)/\a.write=U5)
structure uC(S:Nat->Prop)(wk:Nat->Option wT)(B:Nat)(t:Trace):Prop where
 wl:Wordless t
 clean:∀said,¬Race said t
 low:∀i a,touchAt t i=I a->a.loc.isMemory=Z->blk a.loc<B
 known:∀i a,touchAt t i=I a->a.loc.isMemory=Z->Knows t 0 i\/∃k x,wk k=I x/\t.g? i=I k/\O4 S x a/\∀p,x.pc=I p->Before t i p
 wr:∀k x,wk k=I x->x.pc=K->∀i a,touchAt t i=I a->a.loc.isMemory=Z->a.write=Z->S (blk a.loc)->Knows t k i
 ow:∀k x,wk k=I x->x.pc=K->∀i a,touchAt t i=I a->a.loc.isMemory=Z->(x.own (blk a.loc)\/blk a.loc=x.c)->Knows t k i
 shut:∀k x p,wk k=I x->x.pc=I p->t.act? p=I (.close x.c)
section
variable {S:Nat->Prop}{wk:Nat->Option wT}{B B':Nat}{t u:Trace}
def yD{i k:Nat}(h:t.g? i=I k):(t++u).g? i=I k:=by
 unfold Trace.g? at h ⊢;obtain⟨c,a,b⟩:=XB.1 h;rw[getElem?_append_old (lt_size_of_getElem? a),a];simpa using b
def cN{i:Nat}{a:Touch}(h:touchAt (t++u) i=I a):touchAt t i=I a\/∃b,b∈u/\(t++u)[i]? =I b/\b.act.touch?= I a:=by
 obtain⟨g,c,d⟩:=touch_of h;rcases getElem?_append_cases c with⟨_,e⟩|⟨_,f⟩
 ·exact .inl (by rw[touchAt_of e];exact d)
 ·exact .inr ⟨g,f,c,d⟩
def uC.mute(h:uC S wk B t){γ:Nat}(y:∀j∈u,j.g=γ)(z:Wordless u)(p:∀j∈u,j.act.touch?= K)(s:B<=B'):uC S wk B' (t++u):=by
 have m:∀{b a},touchAt (t++u) b=I a->touchAt t b=I a:=λc=>by
  rcases cN c with g|⟨j,g,_,l⟩
  ·exact g
  ·rw[p j g] at l;cases l
 refine⟨h.wl.append z,λC=>noRace_append (h.clean C) y λb a _ j w D o _=>(by rw[p j w] at o;cases o),λb a c i=>U9 (h.low b a (m c) i) s,λb a c i=>?_,λe f k d b a c i A x=>(h.wr e f k d b a (m c) i A x).app u,λe f k d b a c i v=>(h.ow e f k d b a (m c) i v).app u,λe f n k d=>by rw[act?_old (lt_of_act? (h.shut e f n k d))];exact h.shut e f n k d⟩;rcases h.known b a (m c) i with g|⟨e,f,g,l,q,r⟩
 ·exact .inl (g.app u)
 ·exact .inr ⟨e,f,g,yD l,q,λn d=>(r n d).app u⟩
def uC.main(h:uC S wk B t)(w:∀d∈u,d.g=0)(G:Wordless u)(A:B<=B')
 (o:∀d∈u,∀b,d.act.touch?= I b->b.loc.isMemory=Z->blk b.loc<B'/\(∀k x,wk k=I x->¬x.own (blk b.loc)/\blk b.loc≠x.c)/\(S (blk b.loc)->b.write=U5)):uC S wk B' (t++u):=by
 refine⟨h.wl.append G,λH=>noRace_append (h.clean H) w λj e i d E b C D=>?_,λj e i c=>?_,λj e i c=>?_,λk x g l j e i c s v=>?_,λk x g l j e i c n=>?_,λk x q g l=>by rw[act?_old (lt_of_act? (h.shut k x q g l))];exact h.shut k x q g l⟩
 ·obtain⟨p,c,y,_⟩:=D;obtain⟨_,f,r⟩:=o d E b C (p▸c);rcases h.known j e i c with a|⟨k,x,g,_,F,_⟩
  ·exact a
  ·rcases F with m|m|⟨m,z⟩
   ·exact absurd (p▸m) (f k x g).1
   ·exact absurd (p▸m) (f k x g).2
   ·have:=r (p▸m);rw[z,this] at y;simp at y
 ·rcases cN i with a|⟨d,a,_,f⟩
  ·exact U9 (h.low j e a c) A
  ·exact(o d a e f c).1
 ·rcases cN i with a|⟨d,a,f,_⟩
  ·rcases h.known j e a c with a|⟨k,x,a,f,r,m⟩
   ·exact .inl (a.app u)
   ·exact .inr ⟨k,x,a,yD f,r,λq l=>(m q l).app u⟩
  ·have:=knows_own f;rw[w d a] at this;exact .inl this
 ·rcases cN i with a|⟨d,a,_,f⟩
  ·exact(h.wr k x g l j e a c s v).app u
  ·rw[(o d a e f c).2.2 v] at s;cases s
 ·rcases cN i with a|⟨d,a,_,f⟩
  ·exact(h.ow k x g l j e a c n).app u
  ·rcases n with n|n
   ·exact absurd n ((o d a e f c).2.1 k x g).1
   ·exact absurd n ((o d a e f c).2.1 k x g).2
def uC.SW(h:uC S wk B t){k:Nat}{x:wT}(r:wk k=I x)(s:x.pc=K){own':Nat->Prop}(X:∀b,x.own b->own' b)(L:∀b,own' b->x.own b\/B<=b)(F:∀l∈u,l.g=k)(Y:Wordless u)(P:B<=B')
 (Q:∀b,own' b->¬S b) (R:¬S x.c)
 (V:∀j y,j≠k->wk j=I y->(∀b,own' b->¬y.own b/\b≠y.c)/\¬y.own x.c/\x.c≠y.c/\(∀b,S b->¬y.own b/\b≠y.c))
 (z:∀l∈u,∀b,l.act.touch?= I b->b.loc.isMemory=Z->blk b.loc<B'/\O4 S ⟨x.c,own',K⟩ b):uC S (λj=>if j=k then I ⟨x.c,own',K⟩ else wk j) B' (t++u):=by
 have G:∀{j y},(if j=k then I (⟨x.c,own',K⟩:wT) else wk j)=I y->(j=k/\y=⟨x.c,own',K⟩)\/(j≠k/\wk j=I y):=λ{j y} D=>by
  split at D
  ·rename_i g;cases D;exact .inl ⟨g,rfl⟩
  ·rename_i g;exact .inr ⟨g,D⟩
 refine⟨h.wl.append Y,λaa=>noRace_append (h.clean aa) F λi f m l W b T U=>?_,λi f m d=>?_,λi f m d=>?_,λj y g n i f m d C A=>?_,λj y g n i f m d e=>?_,λj y v g n=>?_⟩
 ·obtain⟨w,d,M,_⟩:=U;rcases(z l W b T (w▸d)).2 with c|c|⟨c,p⟩
  ·rcases L _ c with p|p
   ·exact h.ow k x r s i f m d (.inl (w▸p))
   ·have:=h.low i f m d;rw[w] at this;omega
  ·exact h.ow k x r s i f m d (.inr (w▸c))
  ·rw[p] at M;exact h.wr k x r s i f m d (by simpa using M) (w▸c)
 ·rcases cN m with a|⟨l,a,_,o⟩
  ·exact U9 (h.low i f a d) P
  ·exact(z l a f o d).1
 ·rcases cN m with a|⟨l,a,o,q⟩
  ·rcases h.known i f a d with a|⟨j,y,a,o,q,c⟩
   ·exact .inl (a.app u)
   ·by_cases g:j=k
    ·subst g;rw[r] at a;cases a;refine .inr ⟨j,⟨x.c,own',K⟩,by simp,yD o,?_,λv n=>by cases n⟩;exact q.imp (X _) id
    ·exact .inr ⟨j,y,by simp[g,a],yD o,q,λv n=>(c v n).app u⟩
  ·refine .inr ⟨k,⟨x.c,own',K⟩,by simp,?_,(z l a f q d).2,λv n=>by cases n⟩;simp[Trace.g?,o,F l a]
 ·rcases cN m with a|⟨l,a,_,o⟩
  ·rcases G g with⟨rfl,rfl⟩|⟨E,g⟩
   ·exact(h.wr j x r s i f a d C A).app u
   ·exact(h.wr j y g n i f a d C A).app u
  ·rcases(z l a f o d).2 with c|c|⟨c,p⟩
   ·exact absurd A (Q _ c)
   ·exact absurd A (c▸R)
   ·rw[p] at C;cases C
 ·rcases G g with⟨rfl,rfl⟩|⟨E,g⟩
  ·rcases cN m with a|⟨l,a,o,q⟩
   ·refine Knows.app u ?_;rcases e with e|e
    ·rcases L _ e with p|p
     ·exact h.ow j x r s i f a d (.inl p)
     ·have:=h.low i f a d;omega
    ·exact h.ow j x r s i f a d (.inr e)
   ·have:=knows_own o;rw[F l a] at this;exact this
  ·obtain⟨H,N,O,J⟩:=V j y E g;rcases cN m with a|⟨l,a,o,q⟩
   ·exact(h.ow j y g n i f a d e).app u
   ·rcases(z l a f q d).2 with c|c|⟨c,p⟩
    ·rcases e with e|e
     ·exact absurd e (H _ c).1
     ·exact absurd e (H _ c).2
    ·rcases e with e|e
     ·exact absurd (c▸e) N
     ·exact absurd (c.symm.trans e) O
    ·rcases e with e|e
     ·exact absurd e (J _ c).1
     ·exact absurd e (J _ c).2
 ·rcases G g with⟨rfl,rfl⟩|⟨E,g⟩
  ·cases n
  ·rw[act?_old (lt_of_act? (h.shut j y v g n))];exact h.shut j y v g n
def uC.close(h:uC S wk B t){k:Nat}{x:wT}(H:wk k=I x)(V:x.pc=K)(R:x.c<B)(aa:¬S x.c)(fn:Xb)(pos:String)
 (T:∀j y,j≠k->wk j=I y->¬y.own x.c/\x.c≠y.c):
 uC S (λj=>if j=k then I ⟨x.c,x.own,I (t.size+1)⟩ else wk j) B (t++YW k fn pos #[⟨.obj x.c,U5,Z⟩,⟨.obj x.c,Z,Z⟩]):=by
 have O:YW k fn pos #[⟨.obj x.c,U5,Z⟩,⟨.obj x.c,Z,Z⟩]=#[{g:=k,fn,pos,act:=.access ⟨.obj x.c,U5,Z⟩},{g:=k,fn,pos,act:=.close x.c}]:=by
  rw[ofEvents_eq];simp[XS]
 rw[O];have J:∀d∈ #[({g:=k,fn,pos,act:=.access ⟨.obj x.c,U5,Z⟩}:Zx),{g:=k,fn,pos,act:=.close x.c}],d.g=k:=by
  intro d o;simp at o;rcases o with rfl|rfl<;>rfl
 have w:∀d∈ #[({g:=k,fn,pos,act:=.access ⟨.obj x.c,U5,Z⟩}:Zx),{g:=k,fn,pos,act:=.close x.c}],∀r,d.act.touch?= I r->r=⟨.obj x.c,U5,.atomic⟩:=by
  intro d o r v;simp at o;rcases o with rfl|rfl
  ·simp[Y8] at v;exact v.symm
  ·simp[Y8] at v
 have A:(t++#[({g:=k,fn,pos,act:=.access ⟨.obj x.c,U5,Z⟩}:Zx),{g:=k,fn,pos,act:=.close x.c}])[t.size+1]? =I {g:=k,fn,pos,act:=.close x.c}:=by
  rw[Array.getElem?_append_right (by omega)];simp
 have E:∀b,(t++#[({g:=k,fn,pos,act:=.access ⟨.obj x.c,U5,Z⟩}:Zx),{g:=k,fn,pos,act:=.close x.c}]).g? b=I k->b≠t.size+1->Before (t++#[({g:=k,fn,pos,act:=.access ⟨.obj x.c,U5,Z⟩}:Zx),{g:=k,fn,pos,act:=.close x.c}]) b (t.size+1):=by
  intro b G z;unfold Trace.g? at G;obtain⟨d,n,s⟩:=XB.1 G;have:=lt_size_of_getElem? n;simp at this;exact .inr (hb_po (by omega) n A s)
 have D:∀{j y},(if j=k then I (⟨x.c,x.own,I (t.size+1)⟩:wT) else wk j)=I y->(j=k/\y=⟨x.c,x.own,I (t.size+1)⟩)\/(j≠k/\wk j=I y):=λ{j y} s=>by
  split at s
  ·rename_i c;cases s;exact .inl ⟨c,rfl⟩
  ·rename_i c;exact .inr ⟨c,s⟩
 have X:Wordless #[({g:=k,fn,pos,act:=.access ⟨.obj x.c,U5,Z⟩}:Zx),{g:=k,fn,pos,act:=.close x.c}]:=by
  intro d o m i;simp at o;rcases o with rfl|rfl<;>cases i
 have L:∀{b e},touchAt (t++#[({g:=k,fn,pos,act:=.access ⟨.obj x.c,U5,Z⟩}:Zx),{g:=k,fn,pos,act:=.close x.c}]) b=I e->b≠t.size+1:=by
  rintro b e g rfl;rw[touchAt_of A] at g;simp[Y8] at g
 refine⟨h.wl.append X,λY=>noRace_append (h.clean Y) J λb e g d o r v Q=>?_,λb e g i=>?_,λb e g i=>?_,λj y c f b e g i C W=>?_,λj y c f b e g i n=>?_,λj y q c f=>?_⟩
 ·obtain⟨U,i,_⟩:=Q;have:=w d o r v;subst this;exact h.ow k x H V b e g i (.inr (by rw[U];rfl))
 ·rcases cN g with a|⟨d,a,_,l⟩
  ·exact h.low b e a i
  ·rw[w d a e l];exact R
 ·rcases cN g with a|⟨d,a,l,p⟩
  ·rcases h.known b e a i with a|⟨j,y,a,l,p,P⟩
   ·exact .inl (a.app _)
   ·by_cases c:j=k
    ·subst c;rw[H] at a;cases a;exact .inr ⟨j,⟨x.c,x.own,I (t.size+1)⟩,by simp,yD l,p,λq f=>by cases f;exact E b (yD l) (L g)⟩
    ·exact .inr ⟨j,y,by simp[c,a],yD l,p,λq f=>(P q f).app _⟩
  ·have F:(t++#[({g:=k,fn,pos,act:=.access ⟨.obj x.c,U5,Z⟩}:Zx),{g:=k,fn,pos,act:=.close x.c}]).g? b=I k:=by simp only[Trace.g?,l,Xc,J d a]
   refine .inr ⟨k,⟨x.c,x.own,I (t.size+1)⟩,by simp,F,.inr (.inl (by rw[w d a e p];rfl)),λq f=>by cases f;exact E b F (L g)⟩
 ·rcases D c with⟨rfl,rfl⟩|⟨z,c⟩
  ·cases f
  ·rcases cN g with a|⟨d,a,_,l⟩
   ·exact(h.wr j y c f b e a i C W).app _
   ·rw[w d a e l] at C;cases C
 ·rcases D c with⟨rfl,rfl⟩|⟨z,c⟩
  ·cases f
  ·obtain⟨M,N⟩:=T j y z c;rcases cN g with a|⟨d,a,l,p⟩
   ·exact(h.ow j y c f b e a i n).app _
   ·rw[w d a e p] at n;rcases n with n|n
    ·exact absurd n M
    ·exact absurd n N
 ·rcases D c with⟨rfl,rfl⟩|⟨z,c⟩
  ·cases f;rw[act?_of A]
  ·rw[act?_old (lt_of_act? (h.shut j y q c f))];exact h.shut j y q c f
def uC.Nn(h:uC S wk B t){k p:Nat}{x:wT}(r:wk k=I x)(s:x.pc=I p)(fn:Xb)(pos:String):
 uC S (λj=>if j=k then K else wk j) B (t++#[{g:=0,fn,pos,act:=.recvClosed x.c}]):=by
 have D:Wordless #[({g:=0,fn,pos,act:=.recvClosed x.c}:Zx)]:=by
  intro f d m l;simp at d;subst d;cases l
 have A:∀f∈ #[({g:=0,fn,pos,act:=.recvClosed x.c}:Zx)],f.act.touch?= K:=by
  intro f d;simp at d;subst d;rfl
 have c:=h.mute (B':=B) (γ:=0) (λf d=>by simp at d;subst d;rfl) D A (U7 _);have i:(t++#[({g:=0,fn,pos,act:=.recvClosed x.c}:Zx)])[t.size]? =I {g:=0,fn,pos,act:=.recvClosed x.c}:=by
  rw[Array.getElem?_append_right (U7 _)];simp
 have q:=c.shut k x p r s;obtain⟨H,E,_⟩:=XB.1 q;have C:Knows (t++#[({g:=0,fn,pos,act:=.recvClosed x.c}:Zx)]) 0 p:=⟨t.size,_,i,rfl,.inr (.single (.inr ⟨.closed q (by rw[act?_of i]),c.wl.heard E,c.wl.heard i⟩))⟩;have n:∀{j a},(if j=k then K else wk j)=I a->j≠k/\wk j=I a:=λ{j a} g=>by
  split at g
  ·cases g
  ·rename_i b;exact⟨b,g⟩
 refine⟨c.wl,c.clean,c.low,λF v z l=>?_,λj a b=>c.wr j a (n b).2,λj a b=>c.ow j a (n b).2,λj a G b=>c.shut j a G (n b).2⟩;rcases c.known F v z l with e|⟨j,a,e,w,y,o⟩
 ·exact .inl e
 ·by_cases b:j=k
  ·subst b;rw[r] at e;cases e;exact .inl (Knows.of_before (o p s) C)
  ·exact .inr ⟨j,a,by simp[b,e],w,y,o⟩
def uC.spawn(h:uC S wk B t){k c:Nat}(R:wk k=K)(fn n:Xb)(pos:String)
 (C:∀j y,wk j=I y->¬y.own c/\c≠y.c/\∀b,S b->¬y.own b/\b≠y.c) (P:¬S c):
 uC S (λj=>if j=k then I ⟨c,λ_=>False,K⟩ else wk j) B (t++#[{g:=0,fn,pos,act:=.go k},{g:=k,fn:=n,pos,act:=.start}]):=by
 have O:t++#[({g:=0,fn,pos,act:=.go k}:Zx),{g:=k,fn:=n,pos,act:=.start}]=t++#[({g:=0,fn,pos,act:=.go k}:Zx)]++#[({g:=k,fn:=n,pos,act:=.start}:Zx)]:=by apply Array.ext';simp
 have T:Wordless #[({g:=0,fn,pos,act:=.go k}:Zx)]:=by
  intro v d m l;simp at d;subst d;cases l
 have U:Wordless #[({g:=k,fn:=n,pos,act:=.start}:Zx)]:=by
  intro v d m l;simp at d;subst d;cases l
 have r:uC S wk B (t++#[({g:=0,fn,pos,act:=.go k}:Zx),{g:=k,fn:=n,pos,act:=.start}]):=by
  rw[O];refine(h.mute (B':=B) (γ:=0) (λv d=>by simp at d;subst d;rfl) T (λv d=>by simp at d;subst d;rfl) (U7 _)).mute (γ:=k) (λv d=>by simp at d;subst d;rfl) U (λv d=>by simp at d;subst d;rfl) (U7 _)
 have a:(t++#[({g:=0,fn,pos,act:=.go k}:Zx),{g:=k,fn:=n,pos,act:=.start}])[t.size]? =I {g:=0,fn,pos,act:=.go k}:=by
  rw[Array.getElem?_append_right (U7 _)];simp
 have p:(t++#[({g:=0,fn,pos,act:=.go k}:Zx),{g:=k,fn:=n,pos,act:=.start}])[t.size+1]? =I {g:=k,fn:=n,pos,act:=.start}:=by
  rw[Array.getElem?_append_right (by omega)];simp
 have L:∀{g},Knows t 0 g->Knows (t++#[({g:=0,fn,pos,act:=.go k}:Zx),{g:=k,fn:=n,pos,act:=.start}]) k g:=λ{g} Q=>
  ⟨t.size+1,_,p,rfl,.inr ((Q.hb_new (U7 _) a Y).trans (.single (.inr ⟨.spawn (by rw[act?_of a]) (by rw[act?_of p]) (by simp[Trace.g?]),r.wl.heard a,r.wl.heard p⟩)))⟩
 have J:∀{g i},touchAt (t++#[({g:=0,fn,pos,act:=.go k}:Zx),{g:=k,fn:=n,pos,act:=.start}]) g=I i->touchAt t g=I i:=λq=>by
  rcases cN q with a|⟨v,a,_,p⟩
  ·exact a
  ·simp at a;rcases a with rfl|rfl<;>simp[Y8] at p
 have F:∀{j y},(if j=k then I (⟨c,λ_=>False,K⟩:wT) else wk j)=I y->(j=k/\y=⟨c,λ_=>False,K⟩)\/(j≠k/\wk j=I y):=λ{j y} w=>by
  split at w
  ·rename_i f;cases w;exact .inl ⟨f,rfl⟩
  ·rename_i f;exact .inr ⟨f,w⟩
 refine⟨r.wl,r.clean,r.low,λg i q l=>?_,λj y f s g i q l E D=>?_,λj y f s g i q l o=>?_,λj y V f s=>?_⟩
 ·rcases r.known g i q l with a|⟨j,y,a,p,e,A⟩
  ·exact .inl a
  ·refine .inr ⟨j,y,?_,p,e,A⟩;rw[if_neg (λw=>by rw[w,R] at a;cases a)];exact a
 ·rcases F f with⟨rfl,rfl⟩|⟨H,f⟩
  ·refine L ?_;rcases h.known g i (J q) l with a|⟨x,z,a,p,e,A⟩
   ·exact a
   ·rcases e with e|e|⟨e,G⟩
    ·exact absurd e ((C x z a).2.2 _ D).1
    ·exact absurd e ((C x z a).2.2 _ D).2
    ·rw[G] at E;cases E
  ·exact r.wr j y f s g i q l E D
 ·rcases F f with⟨rfl,rfl⟩|⟨H,f⟩
  ·refine L ?_;rcases o with o|o
   ·exact o.elim
   ·have o:blk i.loc=c:=o;rcases h.known g i (J q) l with a|⟨x,z,a,p,e,A⟩
    ·exact a
    ·obtain⟨M,N,W⟩:=C x z a;rcases e with e|e|⟨e,G⟩
     ·exact absurd (o▸e) M
     ·exact absurd (o.symm.trans e) N
     ·exact absurd (o▸e) P
  ·exact r.ow j y f s g i q l o
 ·rcases F f with⟨rfl,rfl⟩|⟨H,f⟩
  ·cases s
  ·exact r.shut j y V f s
def uC.over(h:uC S (λ_=>K) B t):t.HandedOver:=by
 intro k n d i e;obtain⟨m,j,g,_⟩:=e;rcases h.known k m j g with⟨l,q,b,c,a⟩|⟨o,p,f,_⟩
 ·refine⟨l,by simp[Trace.g?,b,c],?_⟩;rcases a with rfl|a
  ·simp[Trace.g?,b] at d;exact absurd (d.symm.trans c) i
  ·exact a
 ·cases f
end
def OD (t:List F->Prop)(w:F):List F->Prop:=λa=>t (w::a)
def Ug (s t:List F->Prop):Prop:=t []/\∃a,s=OD t a
structure Tr where UJ ::
 t:List F->Prop
 a:Acc Ug t
 c:∀p q,t (p++q)->t p
def Tr.ext{x y:Tr}(h:x.t=y.t):x=y:=by
 cases x;cases y;cases h;rfl
def Tr.fin:Tr:=⟨λ_=>False,⟨_,λ_ a=>a.1.elim⟩,λ_ _ a=>a⟩
def Tr.mk(f:F->Tr):Tr:=⟨λa=>match a with
 | []=>True
 |w::a=>(f w).t a,⟨_,λs b=>by obtain⟨_,w,rfl⟩:=b;exact(f w).a⟩,λa d b=>by
 cases a with
 |nil=>trivial
 |cons w a=>exact(f w).c a d b⟩
def Tr.mk_inj{f g:F->Tr}(h:Tr.mk f= .mk g):f=g:=funext λb=>Tr.ext (funext λa=>congrFun (congrArg Tr.t h) (b::a))
def Tr.R3{f:F->Tr}(h:Tr.fin= .mk f):False:=(congrFun (congrArg Tr.t h) []).mpr trivial
def Tr.ind{d:Tr->Prop}(fin:d .fin)(mk:∀f,(∀w,d (f w))->d (.mk f))(i:Tr):d i:=by
 obtain⟨b,a,c⟩:=i
 induction a with
 |intro b h j=>
  by_cases g:b []
  ·have e:Tr.UJ b (.intro b h) c= .mk λw=>⟨OD b w,h _ ⟨g,w,rfl⟩,λp k=>c (w::p) k⟩:=Tr.ext (funext λp=>by
    cases p with
    |nil=>exact eq_true g
    |cons w p=>rfl)
   rw[e];exact mk _ λw=>j _ ⟨g,w,rfl⟩ _
  ·have e:Tr.UJ b (.intro b h) c= .fin:=Tr.ext (funext λp=>eq_false λh=>g (c [] p h));rw[e];exact fin
def Tr.go{C:Type}(b:(F->C->Prop)->C->Prop)(d:Tr):C->Prop:=Z9 (r:=Ug) (C:=λ_=>C->Prop) (λa f h=>∃g:a [],b (λe=>f (OD a e) ⟨g,e,rfl⟩) h) d.t d.a
def Tr.go_eq{C:Type}{b:(F->C->Prop)->C->Prop}(a:Tr)(x:C):Tr.go b a x↔∃h:a.t [],b (λw=>Tr.go b ⟨OD a.t w,a.a.inv ⟨h,w,rfl⟩,λp q=>a.c (w::p) q⟩) x:=Iff.of_eq (congrFun (Z3 (r:=Ug) (C:=λ_=>C->Prop) (λt d x=>∃h:t [],b (λw=>d (OD t w) ⟨h,w,rfl⟩) x) a.t a.a) x:)
def Tr.qC{C:Type}{b:(F->C->Prop)->C->Prop}{x:C}(h:Tr.go b .fin x):False:=by
 obtain⟨h,_⟩:=(Tr.go_eq _ _).1 h;exact h
def Tr.Rn{C:Type}{b:(F->C->Prop)->C->Prop}{f:F->Tr}{x:C}:Tr.go b (.mk f) x↔b (λw=>Tr.go b (f w)) x:=(Tr.go_eq _ _).trans ⟨fun⟨_,a⟩=>a,λa=>⟨trivial,a⟩⟩
def xR (_:Vb)(_:F):Prop:=True
structure RelB(B:Nat->Prop)(w w1:F):Prop where
 at_:∀b:Nat,B b->w1.heap[b]? =w.heap[b]?
 size:w.heap.size<=w1.heap.size
 tape:w1.tape=w.tape
 os:w1.os=w.os
 output:w1.output=w.output
def RelB.refl(B:Nat->Prop)(w:F):RelB B w w:=⟨λ_ _=>rfl,U7 _,rfl,rfl,rfl⟩
def RelB.trans{B:Nat->Prop}{w e f:F}(h:RelB B w e)(a:RelB B e f):RelB B w f:=⟨λb d=>(a.at_ b d).trans (h.at_ b d),Vm h.size a.size,a.tape.trans h.tape,a.os.trans h.os,a.output.trans h.output⟩
def RelB.at(B:Nat->Prop)(w:F)(d:Nat):RelB B w (w.at d):=⟨λ_ _=>rfl,U7 _,rfl,rfl,rfl⟩
def cQ (own:Nat->Prop)(w w':F):Nat->Prop:=λa=>own a\/(w.heap.size<=a/\a<w'.heap.size)
def EvW (S o:Nat->Prop)(e:Wm):Prop:=match e.loc with
 | .cell a=>o a.block\/(S a.block/\e.write=U5)
 | .obj b=>o b\/(S b/\e.write=U5)
 | .mark m=>Neutral m
 |_=>True
structure mH(P0:Vb)(S own:Nat->Prop)(w w':F)(es:Array Wm):Prop where
 keep:∀b:Nat,b<w.heap.size->¬own b->w'.heap[b]? =w.heap[b]?
 size:w.heap.size<=w'.heap.size
 tape:w'.tape=w.tape
 os:w'.os=w.os
 output:w'.output=w.output
 hp:xR P0 w->xR P0 w'
 evs:∀e∈es,EvW S (cQ own w w') e
structure Mg(P0:Vb)(w w':F)(es:Array Wm):Prop where
 size:w.heap.size<=w'.heap.size
 tape:w'.tape=w.tape
 os:w'.os=w.os
 output:w'.output=w.output
 hp:xR P0 w->xR P0 w'
 evs:∀e∈es,DJ w'.heap.size e
def UF (P0 P:Vb)(S:Nat->Prop)(c:Nat)(R:F->(Nat->Prop)->List U->VL->F->Prop)(own:Nat->Prop)(vs:List U)(g:VL)(w:F):Prop:=g.status= .running/\
 ((∀a,RelB (λb=>S b\/own b) w a->∃d e i,VN P U5 g a= .go d e i/\mH P0 S own a e i/\R a (cQ own a e) vs d e)\/
 (∃v k j o,vs=v::k/\∀a,RelB (λb=>S b\/own b) w a->VN P U5 g a= .comm j #[scase c v o] Z .send a #[]/\R a own k (Xr j V9) a)\/
 (vs=[]/\∃d n,QuitsIn P n d/\mayWake P g=Z/\∀a,RelB (λb=>S b\/own b) w a->∀h f s l m,a.heap[c]? =I (.chan h f U5 s l m)->VN P U5 g a= .go d (a.setChan c h f Z s l m) #[⟨.obj c,U5,Z⟩,⟨.obj c,Z,Z⟩]))
def Wk (P0 P:Vb)(S:Nat->Prop)(c:Nat)(e:Tr)(own:Nat->Prop)(vs:List U)(g:VL)(w:F):Prop:=e.go (C:=(Nat->Prop)×List U×VL×F) (λb a=>UF P0 P S c (λw d v g f=>b w (d,v,g,f)) a.1 a.2.1 a.2.2.1 a.2.2.2) (own,vs,g,w)
def wO{P0 P:Vb}{S:Nat->Prop}{c:Nat}{f:F->Tr}{own:Nat->Prop}{vs:List U}{g:VL}{w:F}:Wk P0 P S c (.mk f) own vs g w↔UF P0 P S c (λw=>Wk P0 P S c (f w)) own vs g w:=Tr.Rn
abbrev Md:Type:=Option ((Nat->Prop)×(Nat->Prop)×(Nat->Option (List U)))
abbrev Md.ex:Md:=K
abbrev Md.sh(S a:Nat->Prop)(b:Nat->Option (List U)):Md:=I (S,a,b)
def fV (b:Nat->Option (List U))(c:Nat)(l:Option (List U)):Nat->Option (List U):=λa=>if a=c then l else b a
def UE (P0 P:Vb)(Post:U->F->Prop)(R:F->Md->VL->F->Prop):Md->VL->F->Prop
 |none,e,g=>
  (∀a,AtRel g a->∃f i h,VN P Z e a= .go f i h/\f.status= .running/\Mg P0 a i h/\R a Md.ex f i)\/
  (∀a,AtRel g a->∃v h,VN P Z e a= .ended (.done v) a h/\(∀p∈h,DJ a.heap.size p)/\Post v a)\/
  (∃S d,(∀b,S b->b<g.heap.size/\¬d b)/\(∀b,d b->b<g.heap.size)/\∀a,AtRel g a->R a (Md.sh S d (λ_=>K)) e a)
 |some (S,d,j),e,g=>
  (∀a,RelB (λb=>S b\/d b) g a->∃f i h,VN P Z e a= .go f i h/\f.status= .running/\mH P0 S d a i h/\R a (Md.sh S (cQ d a i) j) f i)\/
  (∃c l m,d c/\l.length<=m/\j c=K/\g.heap[c]? =I (.chan m #[] U5 0 0 U5)/\∀a,RelB (λb=>S b\/d b) g a->∃f n r,VN P Z e a= .spawn f n a #[]/\f.status= .running/\Wk P0 P S c r (λ_=>False) l n a/\R a (Md.sh S (λb=>d b/\b≠c) (fV j c (I l))) f a)\/
  (∃c o k l,j c=I l/\(k.frame=e.frame/\k.callers=e.callers/\k.dying=e.dying)/\∀a,RelB (λb=>S b\/d b) g a->VN P Z e a= .comm k #[rcase c o] Z (.recv Z) a #[]/\
    match l with
    |v::q=>R a (Md.sh S d (fV j c (I q))) (Xr k (recvd Z v Z)) a
    | []=>R a (Md.sh S d (fV j c K)) (Xr k (recvd Z o U5)) a)\/
  ((∀c,j c=K)/\∀a,RelB (λb=>S b\/d b) g a->xR P0 a->R a Md.ex e a)
def Mn (P0 P:Vb)(Post:U->F->Prop)(e:Tr)(d:Md)(g:VL)(w:F):Prop:=e.go (C:=Md×VL×F) (λb a=>UE P0 P Post (λw m g f=>b w (m,g,f)) a.1 a.2.1 a.2.2) (d,g,w)
def nN{P0 P:Vb}{Post:U->F->Prop}{f:F->Tr}{a:Md}{g:VL}{w:F}:Mn P0 P Post (.mk f) a g w↔UE P0 P Post (λw=>Mn P0 P Post (f w)) a g w:=Tr.Rn
section
variable {P0 P:Vb}{S:Nat->Prop}{c:Nat}{Post:U->F->Prop}
def Wk.rely{j:Tr}{own:Nat->Prop}{vs:List U}{g:VL}{w k:F}(h:Wk P0 P S c j own vs g w)(i:RelB (λb=>S b\/own b) w k):Wk P0 P S c j own vs g k:=by
 cases j using Tr.ind with
 |fin=>exact(Tr.qC h).elim
 |mk f=>
  obtain⟨p,h⟩:=wO.1 h;refine wO.2 ⟨p,?_⟩;rcases h with h|⟨v,q,m,s,e,h⟩|⟨e,l,r,o,n,h⟩
  ·exact .inl λd a=>h d (i.trans a)
  ·exact .inr (.inl ⟨v,q,m,s,e,λd a=>h d (i.trans a)⟩)
  ·exact .inr (.inr ⟨e,l,r,o,n,λd a=>h d (i.trans a)⟩)
def oX{a b c:F}(h:AtRel a b)(k:AtRel b c):AtRel a c:=atRel_trans a b c h k
def Mn.I8{e:Tr}{g:VL}{w i:F}(h:Mn P0 P Post e .ex g w)(d:AtRel w i):Mn P0 P Post e .ex g i:=by
 cases e using Tr.ind with
 |fin=>exact(Tr.qC h).elim
 |mk f=>
  have j:i.heap=w.heap:=by obtain⟨n,rfl⟩:=d;rfl
  refine nN.2 ?_;rcases nN.1 h with h|h|⟨S,k,l,a,m⟩
  ·exact .inl λb a=>h b (oX d a)
  ·exact .inr (.inl λb a=>h b (oX d a))
  ·exact .inr (.inr ⟨S,k,by rw[j];exact l,by rw[j];exact a,λb a=>m b (oX d a)⟩)
def Mn.j3{k:Tr}{g:VL}{j:Nat->Prop}{n:Nat->Option (List U)}{w m:F}(h:Mn P0 P Post k (.sh S j n) g w)(i:RelB (λb=>S b\/j b) w m):Mn P0 P Post k (.sh S j n) g m:=by
 cases k using Tr.ind with
 |fin=>exact(Tr.qC h).elim
 |mk f=>
  refine nN.2 ?_;rcases nN.1 h with h|⟨c,l,o,e,a,q,r,h⟩|⟨c,s,p,l,e,a,h⟩|⟨e,h⟩
  ·exact .inl λd a=>h d (i.trans a)
  ·exact .inr (.inl ⟨c,l,o,e,a,q,(i.at_ c (.inr e)).trans r,λd a=>h d (i.trans a)⟩)
  ·exact .inr (.inr (.inl ⟨c,s,p,l,e,a,λd a=>h d (i.trans a)⟩))
  ·exact .inr (.inr (.inr ⟨e,λd a=>h d (i.trans a)⟩))
end
def Mn.cast{P0 P:Vb}{Post:U->F->Prop}{b tr':Tr}{a:Md}{g:VL}{w:F}(e:b=tr')(h:Mn P0 P Post tr' a g w):Mn P0 P Post b a g w:=e▸h
def Wk.cast{P0 P:Vb}{S:Nat->Prop}{c:Nat}{a tr':Tr}{own:Nat->Prop}{vs:List U}{g:VL}{w:F}(e:a=tr')(h:Wk P0 P S c tr' own vs g w):Wk P0 P S c a own vs g w:=e▸h
def Down (n:Nat)(d fc:Nat->Tr):Prop:=∃a,a<n/\(∃f e,fc a= .mk f/\d a=f e)/\∀b,b≠a->d b=fc b
def Mo:∀(n:Nat) (fc:Nat->Tr),Acc (Down n) fc:=by
 intro n
 induction n with
 |zero=>exact λfc=>⟨_,λd e=>by obtain⟨b,q,_⟩:=e;omega⟩
 |succ n r=>
  have t:∀(l:Tr) (fc:Nat->Tr),fc n=l->Acc (Down (n+1)) fc:=by
   intro l
   induction l using Tr.ind with
   |fin=>
    intro fc;have o:=r fc
    induction o with
    |intro fc _ p=>
     intro h;refine⟨_,λd e=>?_⟩;obtain⟨b,q,⟨f,j,a,k⟩,g⟩:=e;by_cases i:b=n
     ·subst i;rw[h] at a;exact(Tr.R3 a).elim
     ·exact p d ⟨b,by omega,⟨f,j,a,k⟩,g⟩ ((g n (λm=>i m.symm)).trans h)
   |mk u s=>
    intro fc;have o:=r fc
    induction o with
    |intro fc _ p=>
     intro h;refine⟨_,λd e=>?_⟩;obtain⟨b,q,⟨f,j,a,k⟩,g⟩:=e;by_cases i:b=n
     ·subst i;rw[h] at a;exact s j d (k.trans (congrFun (Tr.mk_inj a) j).symm)
     ·exact p d ⟨b,by omega,⟨f,j,a,k⟩,g⟩ ((g n (λm=>i m.symm)).trans h)
  exact λfc=>t (fc n) fc Y
def IA{P:Vb}{m:Bool}{g g':VL}(h1:g'.frame=g.frame)(a:g'.callers=g.callers)(b:g'.dying=g.dying)(w:F):VN P m g' w=VN P m g w:=by
 obtain⟨f,c,s,e,j⟩:=g;obtain⟨i,d,l,h,k⟩:=g';simp only at h1 a b;subst h1 a b;rfl
structure Inv(P0 P:Vb)(S O:Nat->Prop)(μ:Nat->Option (List U))(gs:Array VL)(w:F)(t:Trace)(wk:Nat->Option wT)(vs:Nat->List U)(q:Nat->Nat)(fc:Nat->Tr):Prop where
 Aa:uC S wk w.heap.size t
 hp:xR P0 w
 quit:∀i g,0<i->gs[i]? =I g->(∀x,wk i=I x->x.pc≠K)->QuitsIn P (q i) g
 act:∀i g x,gs[i]? =I g->wk i=I x->x.pc=K->Wk P0 P S x.c (fc i) x.own (vs i) g w
 idx:∀i x,wk i=I x->0<i/\i<gs.size
 nh:∀b,S b->b<w.heap.size/\¬O b
 xe:∀b,O b->b<w.heap.size
 low:∀i x,wk i=I x->x.c<w.heap.size/\¬S x.c/\¬O x.c/\¬x.own x.c/\∀b,x.own b->b<w.heap.size/\¬S b/\¬O b
 rV:∀i j x y,i≠j->wk i=I x->wk j=I y->x.c≠y.c/\¬y.own x.c/\∀b,x.own b->¬y.own b
 chan:∀i x,wk i=I x->∃cap buf s r,w.heap[x.c]? =I (.chan cap buf x.pc.isSome s r U5)/\μ x.c=I (buf.toList++(if x.pc=K then vs i else[]))/\(x.pc=K->buf.size+(vs i).length<=cap)
 mu:∀c l,μ c=I l->∃i x,wk i=I x/\x.c=c
def kN {α:Type}(f:Nat->α)(i:Nat)(x:α):Nat->α:=λa=>if a=i then x else f a
def dg{α:Type}(f:Nat->α)(i:Nat)(x:α):kN f i x i=x:=by simp[kN]
def dV{α:Type}(f:Nat->α){i j:Nat}(x:α)(h:j≠i):kN f i x j=f j:=by simp[kN,h]
def FV{e:Wm}{b:Touch}(h:(XS e).touch?= I b)(c:∀m,e.loc= .mark m->Neutral m):b.loc=e.loc/\b.write=e.write:=by
 obtain⟨d,wr,a⟩:=e;cases d with
 |cell f=>simp[XS,Y8] at h;subst h;exact⟨rfl,rfl⟩
 |obj g=>cases wr<;>cases a<;>simp[XS,Y8] at h<;>subst h<;>exact⟨rfl,rfl⟩
 |output=>simp[XS,Y8] at h;subst h;exact⟨rfl,rfl⟩
 |goroutines=>simp[XS,Y8] at h;subst h;exact⟨rfl,rfl⟩
 |mark m=>
  have:XS ⟨.mark m,wr,a⟩= .mark m:=by cases wr<;>cases a<;>rfl
  rw[this,(c m Y).touch] at h;cases h
def yu{S o:Nat->Prop}{e:Wm}(h:EvW S o e):∀m,e.loc= .mark m->Neutral m:=λm a=>by
 unfold EvW at h;rw[a] at h;exact h
def Ev{n:Nat}{e:Wm}(h:DJ n e):∀m,e.loc= .mark m->Neutral m:=λm a=>by
 unfold DJ at h;rw[a] at h;exact h
def Bo{S o:Nat->Prop}{e:Wm}{b:Touch}(h:EvW S o e)(g:(XS e).touch?= I b)(c:b.loc.isMemory=Z):o (blk b.loc)\/(S (blk b.loc)/\b.write=U5):=by
 obtain⟨d,f⟩:=FV g (yu h);unfold EvW at h;rw[d,f];rw[d] at c;cases a:e.loc with
 |cell i=>rw[a] at h;exact h
 |obj j=>rw[a] at h;exact h
 |_=>rw[a] at c;simp[Loc.isMemory] at c
def Kl{n:Nat}{e:Wm}{b:Touch}(h:DJ n e)(f:(XS e).touch?= I b)(c:b.loc.isMemory=Z):blk b.loc<n:=by
 obtain⟨d,i⟩:=FV f (Ev h);unfold DJ at h;rw[d];rw[d] at c;cases a:e.loc with
 |cell g=>rw[a] at h;exact h
 |obj j=>rw[a] at h;exact h
 |_=>rw[a] at c;simp[Loc.isMemory] at c
def n8{g:Nat}{fn:Xb}{pos:String}{es:Array Wm}(h:∀e∈es,∀m,e.loc= .mark m->Neutral m):Wordless (YW g fn pos es):=by
 intro j f m a;obtain⟨e,d,rfl⟩:=X8 f;obtain⟨i,wr,b⟩:=e;cases i with
 |mark c=>
  have:XS ⟨.mark c,wr,b⟩= .mark c:=by cases wr<;>cases b<;>rfl
  simp only[this] at a;cases a;exact h _ d m Y
 |obj k=>cases wr<;>cases b<;>simp[XS] at a
 |_=>simp[XS] at a
def lF{B:Nat->Prop}{w:F}{c:Nat}(h:¬B c)(cap:Nat)(b:Array U)(d:Bool)(s r:Nat)(i:Bool):RelB B w (w.setChan c cap b d s r i):=
 ⟨λa f=>by
  have g:c≠a:=λe=>h (by rw[e];exact f);simp only[World.setChan];rw[WY g],by simp[World.setChan],rfl,rfl,rfl⟩
def Jf{P0:Vb}{w:F}(h:xR P0 w)(c cap:Nat)(a:Array U)(b:Bool)(s r:Nat)(d:Bool):xR P0 (w.setChan c cap a b s r d):=trivial
def xx{w:F}{c b:Nat}(h:b≠c)(cap:Nat)(a:Array U)(d:Bool)(s r:Nat)(f:Bool):(w.setChan c cap a d s r f).heap[b]? =w.heap[b]? :=by
 simp only[World.setChan];rw[WY (λe=>h e.symm)]
def iH(w:F)(c cap:Nat)(a:Array U)(b:Bool)(s r:Nat)(d:Bool):(w.setChan c cap a b s r d).heap.size=w.heap.size:=by simp[World.setChan]
def Cu{w:F}{c:Nat}(h:c<w.heap.size)(cap:Nat)(a:Array U)(b:Bool)(s r:Nat)(d:Bool):(w.setChan c cap a b s r d).heap[c]? =I (.chan cap a b s r d):=by
 simp[World.setChan,h]
section
variable {P0 P:Vb}{S O:Nat->Prop}{μ:Nat->Option (List U)}{gs gs':Array VL}{w w':F}{t u:Trace}{wk:Nat->Option wT}{vs:Nat->List U}{q:Nat->Nat}{fc:Nat->Tr}
def nG{k:Nat}{y:Option wT}{j:Nat}{z:wT}(e:kN wk k y j=I z):(j=k/\y=I z)\/(j≠k/\wk j=I z):=by
 unfold kN at e
 split at e
 ·rename_i a;exact .inl ⟨a,e⟩
 ·rename_i a;exact .inr ⟨a,e⟩
def Inv.at(h:Inv P0 P S O μ gs w t wk vs q fc)(d:Nat):Inv P0 P S O μ gs (w.at d) t wk vs q fc:=
 ⟨h.Aa,h.hp,h.quit,λf a g b e c=>(h.act f a g b e c).rely (RelB.at _ w d),h.idx,h.nh,h.xe,h.low,h.rV,h.chan,h.mu⟩
def Inv.UQ(h:Inv P0 P S O μ gs w t wk vs q fc)(k:gs'.size=gs.size)(g:∀j,0<j->gs'[j]? =gs[j]?):Inv P0 P S O μ gs' w t wk vs q fc:=
 ⟨h.Aa,h.hp,λa d f e=>h.quit a d f ((g a f).symm.trans e),λa d c e b i=>h.act a d c ((g a (h.idx a c b).1).symm.trans e) b i,λa c b=>by rw[k];exact h.idx a c b,h.nh,h.xe,h.low,h.rV,h.chan,h.mu⟩
def Inv.slip(h:Inv P0 P S O μ gs w t wk vs q fc){i k:Nat}{g':VL}(m:∀x,wk i=I x->x.pc≠K)(n:QuitsIn P k g')(o:gs'.size=gs.size)(l:gs'[i]? =I g')(f:∀j,0<j->j≠i->gs'[j]? =gs[j]?):Inv P0 P S O μ gs' w t wk vs (kN q i k) fc:=by
 refine⟨h.Aa,h.hp,λj d e c a=>?_,λj d x c a g=>?_,λj x a=>by rw[o];exact h.idx j x a,h.nh,h.xe,h.low,h.rV,h.chan,h.mu⟩
 ·by_cases b:j=i
  ·subst b;rw[l] at c;cases c;rw[dg];exact n
  ·rw[dV _ _ b];exact h.quit j d e ((f j e b).symm.trans c) a
 ·by_cases b:j=i
  ·subst b;exact absurd g (m x a)
  ·exact h.act j d x ((f j (h.idx j x a).1 b).symm.trans c) a g
def Inv.P7(h:Inv P0 P S O μ gs w t wk vs q fc){i:Nat}{x:wT}(e:wk i=I x){es:Array Wm}(c:mH P0 S x.own w w' es):RelB (λb=>S b\/O b) w w':=
 ⟨λb a=>a.elim (λa=>c.keep b (h.nh b a).1 λd=>((h.low i x e).2.2.2.2 b d).2.1 a) (λa=>c.keep b (h.xe b a) λd=>((h.low i x e).2.2.2.2 b d).2.2 a),c.size,c.tape,c.os,c.output⟩
def Inv.SW(h:Inv P0 P S O μ gs w t wk vs q fc){i:Nat}{x:wT}(l:wk i=I x)(X:x.pc=K){es:Array Wm}{g':VL}{tr':Tr}(g:mH P0 S x.own w w' es)(ao:Wk P0 P S x.c tr' (cQ x.own w w') (vs i) g' w')(Z:gs'.size=gs.size)(au:gs'[i]? =I g')(W:∀j,0<j->j≠i->gs'[j]? =gs[j]?)(fn:Xb)(pos:String):
 Inv P0 P S O μ gs' w' (t++YW i fn pos es) (kN wk i (I ⟨x.c,cQ x.own w w',K⟩)) vs q (kN fc i tr'):=by
 obtain⟨ab,ad,a2,ae,E⟩:=h.low i x l;have R:∀b,cQ x.own w w' b->¬S b:=λb a r=>a.elim (λa=>(E b a).2.1 r) λa=>by have:=(h.nh b r).1;omega
 have am:∀b,cQ x.own w w' b->¬O b:=λb a r=>a.elim (λa=>(E b a).2.2 r) λa=>by have:=h.xe b r;omega
 have C:∀j f,j≠i->wk j=I f->∀b,cQ x.own w w' b->¬f.own b/\b≠f.c:=λj f k d b a=>a.elim (λa=>⟨(h.rV i j x f (λe=>k e.symm) l d).2.2 b a,λe=>(h.rV j i f x k d l).2.1 (e▸a)⟩) λa=>⟨λn=>by have:=((h.low j f d).2.2.2.2 b n).1;omega,λe=>by have:=(h.low j f d).1;omega⟩;have T:∀b,cQ x.own w w' b->b<w'.heap.size:=λb a=>a.elim (λa=>U9 (E b a).1 g.size) (λa=>a.2);refine⟨?_,g.hp h.hp,λj J Q k U=>?_,λj J f k d a0=>?_,λj f d=>?_,λb a=>⟨U9 (h.nh b a).1 g.size,(h.nh b a).2⟩,λb a=>U9 (h.xe b a) g.size,λj f d=>?_,λj y f F p d aa=>?_,λj f d=>?_,λc a1 ar=>?_⟩
 ·refine h.Aa.SW l X (λb a=>.inl a) (λb a=>a.imp id And.left) (λa7 M=>by obtain⟨e,_,rfl⟩:=X8 M;rfl) (n8 λe L=>yu (g.evs e L)) g.size R ad (λj f k d=>⟨C j f k d,(h.rV i j x f (λe=>k e.symm) l d).2.1,(h.rV i j x f (λe=>k e.symm) l d).1,λb a=>⟨λn=>((h.low j f d).2.2.2.2 b n).2.1 a,λe=>(h.low j f d).2.1 (e▸a)⟩⟩) λa7 M b a aw=>?_;obtain⟨e,L,rfl⟩:=X8 M;rcases Bo (g.evs e L) a aw with o|o
  ·exact⟨T _ o,.inl o⟩
  ·exact⟨U9 (h.nh _ o.1).1 g.size,.inr (.inr o)⟩
 ·by_cases e:j=i
  ·subst e;exact absurd Y (U ⟨x.c,cQ x.own w w',K⟩ (dg _ _ _))
  ·exact h.quit j J Q ((W j Q e).symm.trans k) λf d=>U f (by rw[dV _ _ e];exact d)
 ·rcases nG d with⟨rfl,e⟩|⟨m,d⟩
  ·cases e;rw[au] at k;cases k;rw[dg];exact ao
  ·rw[dV _ _ m];refine(h.act j J f ((W j (h.idx j f d).1 m).symm.trans k) d a0).rely ⟨λb a=>?_,g.size,g.tape,g.os,g.output⟩;rcases a with a|a
   ·exact g.keep b (h.nh b a).1 λn=>(E b n).2.1 a
   ·exact g.keep b ((h.low j f d).2.2.2.2 b a).1 λn=>(h.rV i j x f (λe=>m e.symm) l d).2.2 b n a
 ·rcases nG d with⟨rfl,e⟩|⟨m,d⟩
  ·rw[Z];exact h.idx j x l
  ·rw[Z];exact h.idx j f d
 ·rcases nG d with⟨rfl,e⟩|⟨m,d⟩
  ·cases e;exact⟨U9 ab g.size,ad,a2,λa=>a.elim ae λa=>by have:=a.1;dsimp only at this;omega,λb a=>⟨T b a,R b a,am b a⟩⟩
  ·obtain⟨a3,a4,a5,a6,al⟩:=h.low j f d;exact⟨U9 a3 g.size,a4,a5,a6,λb a=>⟨U9 (al b a).1 g.size,(al b a).2⟩⟩
 ·rcases nG d with⟨rfl,e⟩|⟨m,D⟩
  ·cases e;rcases nG aa with⟨rfl,e⟩|⟨V,v⟩
   ·exact absurd Y p
   ·exact⟨(h.rV j y x F p l v).1,(h.rV j y x F p l v).2.1,λb a=>(C y F V v b a).1⟩
  ·rcases nG aa with⟨rfl,e⟩|⟨V,v⟩
   ·cases e;exact⟨(h.rV j y f x p D l).1,λa=>(C j f m D _ a).2 Y,λb a n=>(C j f m D b n).1 a⟩
   ·exact h.rV j y f F p D v
 ·rcases nG d with⟨rfl,e⟩|⟨m,d⟩
  ·cases e;obtain⟨H,G,s,N,z,A,B⟩:=h.chan j x l;rw[X] at z A B;exact⟨H,G,s,N,(g.keep _ ab ae).trans z,A,B⟩
  ·obtain⟨H,G,s,N,z,A,B⟩:=h.chan j f d;exact⟨H,G,s,N,(g.keep _ (h.low j f d).1 (h.rV j i f x m d l).2.1).trans z,A,B⟩
 ·obtain⟨j,f,d,e⟩:=h.mu c a1 ar;by_cases k:j=i
  ·subst k;rw[l] at d;cases d;exact⟨j,_,dg _ _ _,e⟩
  ·exact⟨j,f,by rw[dV _ _ k];exact d,e⟩
end
section
variable {P0 P:Vb}{S O:Nat->Prop}{μ:Nat->Option (List U)}{gs gs':Array VL}{w w':F}{t u:Trace}{wk:Nat->Option wT}{vs:Nat->List U}{q:Nat->Nat}{fc:Nat->Tr}{B:Nat}
def uC.TK(h:uC S wk B t)(g:Wordless u)(f:∀b∈u,b.act.touch?= K):uC S wk B (t++u):=by
 have k:∀(c:List Zx) (t:Trace),uC S wk B t->Wordless c.toArray->(∀b∈c,b.act.touch?= K)->uC S wk B (t++c.toArray):=by
  intro c
  induction c with
  |nil=>intro t h _ _;simpa using h
  |cons d c j=>
   intro t h g f;have i:t++(d::c).toArray=(t++#[d])++c.toArray:=by apply Array.ext';simp
   rw[i];refine j _ (h.mute (B':=B) (γ:=d.g) (λb a=>by simp at a;rw[a]) (λb a m e=>?_) (λb a=>by simp at a;rw[a];exact f d (by simp)) (U7 _)) (λb a m e=>g b (by simp at a ⊢;exact .inr a) m e) λb a=>f b (by simp[a]);simp at a;rw[a] at e;exact g d (by simp) m e
 have:=k u.toList t h (by simpa using g) (λb a=>f b (by simpa using a));simpa using this
def vK(μ:Nat->Option (List U))(c:Nat)(l:Option (List U)):fV μ c l c=l:=by simp[fV]
def rR(μ:Nat->Option (List U)){c j:Nat}(l:Option (List U))(h:j≠c):fV μ c l j=μ j:=by simp[fV,h]
def Inv.comm(h:Inv P0 P S O μ gs w t wk vs q fc){i:Nat}{x:wT}(g:wk i=I x){cap s' r':Nat}{buf':Array U}{vi':List U}{tr':Tr}{g':VL}(G:x.pc=K->buf'.size+vi'.length<=cap)
 (F:x.pc=K->Wk P0 P S x.c tr' x.own vi' g' w) (H:x.pc=K->gs'[i]? =I g') (J:x.pc≠K->gs'[i]? =gs[i]?) (s:∀j,0<j->j≠i->gs'[j]? =gs[j]?) (M:gs'.size=gs.size) (N:Wordless u) (L:∀V∈u,V.act.touch?= K):
 Inv P0 P S O (fV μ x.c (I (buf'.toList++(if x.pc=K then vi' else[])))) gs' (w.setChan x.c cap buf' x.pc.isSome s' r' U5) (t++u) wk (kN vs i vi') q (kN fc i tr'):=by
 obtain⟨R,v,Y,T,Z⟩:=h.low i x g;have r:∀j d,j≠i->wk j=I d->d.c≠x.c:=λj d e b=>(h.rV j i d x e b g).1;refine⟨by rw[iH];exact h.Aa.TK N L,Jf h.hp _ _ _ _ _ _ _,λj k m e n=>?_,λj k d e b o=>?_,λj d b=>by rw[M];exact h.idx j d b,λl f=>by rw[iH];exact h.nh l f,λl f=>by rw[iH];exact h.xe l f,λj d b=>by rw[iH];exact h.low j d b,h.rV,λj d b=>?_,λc Q p=>?_⟩
 ·by_cases a:j=i
  ·subst a;exact h.quit j k m ((J (n x g)).symm.trans e) n
  ·exact h.quit j k m ((s j m a).symm.trans e) n
 ·by_cases a:j=i
  ·subst a;rw[g] at b;cases b;rw[H o] at e;cases e;rw[dg,dg];exact(F o).rely (lF (λf=>f.elim v T) _ _ _ _ _ _)
  ·rw[dV _ _ a,dV _ _ a];exact(h.act j k d ((s j (h.idx j d b).1 a).symm.trans e) b o).rely (lF (λf=>f.elim v (h.rV i j x d (λE=>a E.symm) g b).2.1) _ _ _ _ _ _)
 ·by_cases a:j=i
  ·subst a;rw[g] at b;cases b;exact⟨cap,buf',s',r',Cu R _ _ _ _ _ _,by rw[vK,dg],by rw[dg];exact G⟩
  ·obtain⟨D,y,X,W,z,A,C⟩:=h.chan j d b;refine⟨D,y,X,W,(xx (r j d a b) _ _ _ _ _ _).trans z,?_,by rw[dV _ _ a];exact C⟩;rw[rR _ _ (r j d a b),dV _ _ a];exact A
 ·by_cases a:c=x.c
  ·exact⟨i,x,g,a.symm⟩
  ·rw[rR _ _ a] at p;exact h.mu c Q p
def Inv.close(h:Inv P0 P S O μ gs w t wk vs q fc){i:Nat}{x:wT}(g:wk i=I x)(A:x.pc=K)(ao:vs i=[]){cap s r n:Nat}{v:Array U}{g':VL}{tr':Tr}(hc:w.heap[x.c]? =I (.chan cap v U5 s r U5))(am:QuitsIn P n g')(ab:gs'[i]? =I g')(M:∀j,0<j->j≠i->gs'[j]? =gs[j]?)(Q:gs'.size=gs.size)(fn:Xb)(pos:String):
 Inv P0 P S O μ gs' (w.setChan x.c cap v Z s r U5) (t++YW i fn pos #[⟨.obj x.c,U5,Z⟩,⟨.obj x.c,Z,Z⟩]) (kN wk i (I ⟨x.c,x.own,I (t.size+1)⟩)) vs (kN q i n) (kN fc i tr'):=by
 obtain⟨E,F,au,aw,a0⟩:=h.low i x g;have ad:∀j b,j≠i->wk j=I b->b.c≠x.c:=λj b e d=>(h.rV j i b x e d g).1;refine⟨?_,Jf h.hp _ _ _ _ _ _ _,λj z L e al=>?_,λj z b e d N=>?_,λj b d=>?_,λp l=>by rw[iH];exact h.nh p l,λp l=>by rw[iH];exact h.xe p l,λj b d=>?_,λj D b W o d R=>?_,λj b d=>?_,λc ar aa=>?_⟩
 ·rw[iH];exact h.Aa.close g A E F fn pos λj b e d=>⟨(h.rV i j x b (λa=>e a.symm) g d).2.1,(h.rV i j x b (λa=>e a.symm) g d).1⟩
 ·by_cases a:j=i
  ·subst a;rw[ab] at e;cases e;rw[dg];exact am
  ·rw[dV _ _ a];exact h.quit j z L ((M j L a).symm.trans e) λb d=>al b (by rw[dV _ _ a];exact d)
 ·rcases nG d with⟨rfl,a⟩|⟨k,f⟩
  ·cases a;cases N
  ·rw[dV _ _ k];exact(h.act j z b ((M j (h.idx j b f).1 k).symm.trans e) f N).rely (lF (λl=>l.elim F (h.rV i j x b (λX=>k X.symm) g f).2.1) _ _ _ _ _ _)
 ·rcases nG d with⟨rfl,a⟩|⟨k,f⟩
  ·rw[Q];exact h.idx j x g
  ·rw[Q];exact h.idx j b f
 ·rcases nG d with⟨rfl,a⟩|⟨k,f⟩
  ·cases a;rw[iH];exact⟨E,F,au,aw,a0⟩
  ·rw[iH];exact h.low j b f
 ·rcases nG d with⟨rfl,a⟩|⟨k,f⟩
  ·cases a;rcases nG R with⟨rfl,a⟩|⟨ae,C⟩
   ·exact absurd Y o
   ·exact h.rV j D x W o g C
  ·rcases nG R with⟨rfl,a⟩|⟨ae,C⟩
   ·cases a;exact h.rV j D b x o f g
   ·exact h.rV j D b W o f C
 ·rcases nG d with⟨rfl,a⟩|⟨k,f⟩
  ·cases a;obtain⟨J,G,V,T,m,y,H⟩:=h.chan j x g;rw[A] at m;have:=m.symm.trans hc;cases this;refine⟨cap,v,s,r,Cu E _ _ _ _ _ _,?_,λa=>by cases a⟩;rw[y,A,ao];rfl
  ·obtain⟨J,G,V,T,m,y,H⟩:=h.chan j b f;exact⟨J,G,V,T,(xx (ad j b k f) _ _ _ _ _ _).trans m,y,H⟩
 ·obtain⟨j,b,d,a⟩:=h.mu c ar aa;by_cases e:j=i
  ·subst e;rw[g] at d;cases d;exact⟨j,_,dg _ _ _,a⟩
  ·exact⟨j,b,by rw[dV _ _ e];exact d,a⟩
def Inv.main(h:Inv P0 P S O μ gs w t wk vs q fc){es:Array Wm}(d:mH P0 S O w w' es)(T:gs'.size=gs.size)(F:∀j,0<j->gs'[j]? =gs[j]?)(fn:Xb)(pos:String):
 Inv P0 P S (cQ O w w') μ gs' w' (t++YW 0 fn pos es) wk vs q fc:=by
 have E:∀b,cQ O w w' b->b<w'.heap.size:=λb a=>a.elim (λa=>U9 (h.xe b a) d.size) (λa=>a.2);have p:∀j c,wk j=I c->∀b,cQ O w w' b->¬c.own b/\b≠c.c:=λj c e b a=>by
  obtain⟨y,l,z,A,k⟩:=h.low j c e;rcases a with a|a
  ·exact⟨λf=>(k b f).2.2 a,λg=>z (g▸a)⟩
  ·exact⟨λf=>by have:=(k b f).1;omega,λg=>by omega⟩
 refine⟨?_,d.hp h.hp,λj m D o Q=>h.quit j m D ((F j D).symm.trans o) Q,λj m c o e R=>?_,λj c e=>by rw[T];exact h.idx j c e,λb a=>⟨U9 (h.nh b a).1 d.size,λf=>f.elim (h.nh b a).2 λf=>by have:=(h.nh b a).1;omega⟩,E,λj c e=>?_,h.rV,λj c e=>?_,h.mu⟩
 ·refine h.Aa.main (λU r=>by obtain⟨g,_,rfl⟩:=X8 r;rfl) (n8 λg n=>yu (d.evs g n)) d.size λU r b a N=>?_;obtain⟨g,n,rfl⟩:=X8 r;rcases Bo (d.evs g n) a N with i|i
  ·exact⟨E _ i,λx C v=>p x C v _ i,λG=>absurd i (λf=>f.elim (h.nh _ G).2 λf=>by have:=(h.nh _ G).1;omega)⟩
  ·refine⟨U9 (h.nh _ i.1).1 d.size,λx C v=>?_,λ_=>i.2⟩;obtain⟨y,l,z,A,k⟩:=h.low x C v;exact⟨λf=>(k _ f).2.1 i.1,λg=>l (g▸i.1)⟩
 ·refine(h.act j m c ((F j (h.idx j c e).1).symm.trans o) e R).rely ⟨λb a=>?_,d.size,d.tape,d.os,d.output⟩;rcases a with a|a
  ·exact d.keep b (h.nh b a).1 (h.nh b a).2
  ·exact d.keep b ((h.low j c e).2.2.2.2 b a).1 ((h.low j c e).2.2.2.2 b a).2.2
 ·obtain⟨y,l,z,A,k⟩:=h.low j c e;exact⟨U9 y d.size,l,λf=>(p j c e _ f).2 Y,A,λb a=>⟨U9 (k b a).1 d.size,(k b a).2.1,λf=>(p j c e b f).1 a⟩⟩
 ·obtain⟨M,H,s,V,J,K,L⟩:=h.chan j c e;exact⟨M,H,s,V,(d.keep _ (h.low j c e).1 (h.low j c e).2.2.1).trans J,K,L⟩
def Inv.spawn(h:Inv P0 P S O μ gs w t wk vs q fc){c cap:Nat}{l:List U}{z:VL}{tr':Tr}(p:O c)(ad:l.length<=cap)(a5:μ c=K)(hc:w.heap[c]? =I (.chan cap #[] U5 0 0 U5))(aa:Wk P0 P S c tr' (λ_=>False) l z w)(M:gs'.size=gs.size+1)(Z:0<gs.size)(ab:gs'[gs.size]? =I z)(L:∀j,0<j->j<gs.size->gs'[j]? =gs[j]?)(fn C:Xb)(pos:String):
 Inv P0 P S (λb=>O b/\b≠c) (fV μ c (I l)) gs' w (t++#[{g:=0,fn,pos,act:=.go gs.size},{g:=gs.size,fn:=C,pos,act:=.start}]) (kN wk gs.size (I ⟨c,λ_=>False,K⟩)) (kN vs gs.size l) q (kN fc gs.size tr'):=by
 have H:wk gs.size=K:=by
  cases d:wk gs.size with
  |none=>rfl
  |some a4=>have:=(h.idx _ a4 d).2;omega
 have E:¬S c:=λar=>(h.nh c ar).2 p;have al:∀j a,wk j=I a->j≠gs.size:=λj a e d=>by rw[d,H] at e;cases e
 have r:∀j a,wk j=I a->c≠a.c:=λj a e d=>(h.low j a e).2.2.1 (d▸p);refine⟨?_,h.hp,λj g D o J=>?_,λj g a o e ao=>?_,λj a e=>?_,λb i=>⟨(h.nh b i).1,λf=>(h.nh b i).2 f.1⟩,λb i=>h.xe b i.1,λj a e=>?_,λj v a y G e N=>?_,λj a e=>?_,λA m F=>?_⟩
 ·exact h.Aa.spawn H fn C pos (λj a e=>⟨λf=>((h.low j a e).2.2.2.2 c f).2.2 p,r j a e,λb i=>⟨λf=>((h.low j a e).2.2.2.2 b f).2.1 i,λd=>(h.low j a e).2.1 (d▸i)⟩⟩) E
 ·by_cases d:j=gs.size
  ·subst d;exact absurd Y (J ⟨c,λ_=>False,K⟩ (dg _ _ _))
  ·have ae:j<gs.size:=by
    have:=(U4.1 o).1;omega
   exact h.quit j g D ((L j D ae).symm.trans o) λa e=>J a (by rw[dV _ _ d];exact e)
 ·rcases nG e with⟨rfl,d⟩|⟨n,k⟩
  ·cases d;rw[ab] at o;cases o;rw[dg,dg];exact aa
  ·rw[dV _ _ n,dV _ _ n];exact h.act j g a ((L j (h.idx j a k).1 (h.idx j a k).2).symm.trans o) k ao
 ·rcases nG e with⟨rfl,d⟩|⟨n,k⟩
  ·rw[M];exact⟨Z,by omega⟩
  ·have:=h.idx j a k;rw[M];exact⟨this.1,by omega⟩
 ·rcases nG e with⟨rfl,d⟩|⟨n,k⟩
  ·cases d;exact⟨h.xe c p,E,λf=>f.2 Y,λf=>f,λb i=>i.elim⟩
  ·obtain⟨au,aw,a0,a1,x⟩:=h.low j a k;exact⟨au,aw,λf=>a0 f.1,a1,λb i=>⟨(x b i).1,(x b i).2.1,λf=>(x b i).2.2 f.1⟩⟩
 ·rcases nG e with⟨rfl,d⟩|⟨n,k⟩
  ·cases d;rcases nG N with⟨rfl,d⟩|⟨am,s⟩
   ·exact absurd Y G
   ·exact⟨r v y s,λf=>((h.low v y s).2.2.2.2 c f).2.2 p,λb i=>i.elim⟩
  ·rcases nG N with⟨rfl,d⟩|⟨am,s⟩
   ·cases d;exact⟨λd=>r j a k d.symm,λf=>f,λb i f=>f⟩
   ·exact h.rV j v a y G k s
 ·rcases nG e with⟨rfl,d⟩|⟨n,k⟩
  ·cases d;exact⟨cap,#[],0,0,hc,by rw[vK,dg];simp,by rw[dg];simpa using ad⟩
  ·obtain⟨W,Q,a3,a2,R,T,V⟩:=h.chan j a k;refine⟨W,Q,a3,a2,R,?_,by rw[dV _ _ n];exact V⟩;rw[rR _ _ (λd=>r j a k d.symm),dV _ _ n];exact T
 ·by_cases d:A=c
  ·exact⟨gs.size,_,dg _ _ _,d.symm⟩
  ·rw[rR _ _ d] at F;obtain⟨j,a,e,X⟩:=h.mu A m F;exact⟨j,a,by rw[dV _ _ (al j a e)];exact e,X⟩
def Inv.Nn(h:Inv P0 P S O μ gs w t wk vs q fc){i p:Nat}{x:wT}(k:wk i=I x)(r:x.pc=I p)(H:gs'.size=gs.size)(o:∀j,0<j->gs'[j]? =gs[j]?)(fn:Xb)(pos:String):
 Inv P0 P S O (fV μ x.c K) gs' w (t++#[{g:=0,fn,pos,act:=.recvClosed x.c}]) (kN wk i K) vs q fc:=by
 have e:∀{j b},kN wk i K j=I b->j≠i/\wk j=I b:=λ{j b} d=>by
  rcases nG d with⟨_,d⟩|d
  ·cases d
  ·exact d
 refine⟨h.Aa.Nn k r fn pos,h.hp,λj g n l F=>?_,λj g b l a G=>?_,λj b a=>by rw[H];exact h.idx j b (e a).2,h.nh,h.xe,λj b a=>h.low j b (e a).2,λj L b Q E a J=>h.rV j L b Q E (e a).2 (e J).2,λj b a=>?_,λc M f=>?_⟩
 ·refine h.quit j g n ((o j n).symm.trans l) λb a=>?_;by_cases d:j=i
  ·subst d;rw[k] at a;cases a;rw[r];simp
  ·exact F b (by rw[dV _ _ d];exact a)
 ·exact h.act j g b ((o j (h.idx j b (e a).2).1).symm.trans l) (e a).2 G
 ·obtain⟨C,v,s,N,y,z,A⟩:=h.chan j b (e a).2;exact⟨C,v,s,N,y,by rw[rR _ _ (h.rV j i b x (e a).1 (e a).2 k).1];exact z,A⟩
 ·by_cases d:c=x.c
  ·rw[d,vK] at f;cases f
  ·rw[rR _ _ d] at f;obtain⟨j,b,a,m⟩:=h.mu c M f;refine⟨j,b,?_,m⟩;rw[dV _ _ (λD=>?_)]
   ·exact a
   ·subst D;rw[k] at a;cases a;exact d m.symm
end
def Ends (P:Vb)(Post:U->F->Prop)(m:Machine)(t:Trace):Prop:=
 ∃N a b c d,runNT P (N+1) m t=(.ended b c,d)/\runN P N m= .next a/\step P a= .ended b c/\Conc.Good P Post a b c d
section
variable {P0 P:Vb}{Post:U->F->Prop}
def Ends.step{m m':Machine}{t ops:Trace}(h:stepT P m=(.next m',ops))(a:Ends P Post m' (t++ops)):Ends P Post m t:=by
 obtain⟨N,f,g,j,i,b,c,d,e⟩:=a;refine⟨N+1,f,g,j,i,?_,?_,d,e⟩
 ·rw[runNT,h];exact b
 ·rw[runN,Go.step,h];exact c
def Ends.now{m:Machine}{t ops:Trace}{o:Outcome}{w:F}(h:stepT P m=(.ended o w,ops))(a:Conc.Good P Post m o w (t++ops)):Ends P Post m t:=
 ⟨0,m,o,w,t++ops,by rw[runNT,h],rfl,by rw[Go.step,h],a⟩
structure sI(g0 g:VL):Prop where
 frame:g0.frame=g.frame
 callers:g0.callers=g.callers
 dying:g0.dying=g.dying
def sI.refl(g:VL):sI g g:=⟨rfl,rfl,rfl⟩
def sI.step{a g:VL}(h:sI a g)(m:Bool)(w:F):VN P m a w=VN P m g w:=IA h.frame h.callers h.dying w
section
variable {S O:Nat->Prop}{μ:Nat->Option (List U)}{gs:Array VL}{w:F}{t:Trace}{wk:Nat->Option wT}{vs:Nat->List U}{q:Nat->Nat}{fc:Nat->Tr}
def Inv.status(h:Inv P0 P S O μ gs w t wk vs q fc){i:Nat}{g:VL}(e:0<i)(b:gs[i]? =I g):g.status= .running\/g.status= .finished:=by
 cases c:wk i with
 |none=>exact(h.quit i g e b λd a=>by rw[c] at a;cases a).status
 |some d=>
  cases j:d.pc with
  |some l=>exact(h.quit i g e b λm a=>by rw[c] at a;cases a;rw[j];simp).status
  |none=>
   have:=h.act i g d b c j;generalize fc i=k at this;cases k using Tr.ind with
   |fin=>exact(Tr.qC this).elim
   |mk f=>exact .inl (wO.1 this).1
def nC{g g' o:VL}{w':F}(h:o.status= .running\/o.status= .finished):woken P g g' w' o=o:=by
 unfold woken
 split
 ·exact again_running _ h
 ·rfl
def mv{g g' g2:VL}{w':F}{c cap s r:Nat}{b:Array U}{d:Bool}{z:U}{a:CommShape}(hc:w'.heap[c]? =I (.chan cap b U5 s r d)):woken P g g' w' (parked g2 #[rcase c z] a)=parked g2 #[rcase c z] a:=by
 unfold woken
 split
 ·exact again_recv_open hc
 ·rfl
def others(h:Inv P0 P S O μ gs w t wk vs q fc){i:Nat}{g g':VL}{w':F}{j:Nat}(b:0<j)(d:j≠i):((gs.map (woken P g g' w')).setIfInBounds i g')[j]? =gs[j]? :=by
 rw[WY (λa=>d a.symm),Array.getElem?_map];cases c:gs[j]? with
 |none=>rfl
 |some e=>rw[Xc,nC (h.status b c)]
def rD{i:Nat}{g g':VL}{w':F}(a:gs[i]? =I g):((gs.map (woken P g g' w')).setIfInBounds i g')[i]? =I g':=by
 rw[Array.getElem?_setIfInBounds_self_of_lt (by simpa using(U4.1 a).1)]
def Fa{i:Nat}{g g' a:VL}{w':F}(c:i≠0)(b:gs[0]? =I a)(d:woken P g g' w' a=a):((gs.map (woken P g g' w')).setIfInBounds i g')[0]? =I a:=by
 rw[WY c,Array.getElem?_map,b,Xc,d]
def gK{i:Nat}{g g':VL}{w':F}:((gs.map (woken P g g' w')).setIfInBounds i g').size=gs.size:=by simp
def Inv.UA(h:Inv P0 P S O μ gs w t wk vs q fc)(y:∀c,μ c=K):Inv P0 P (λ_=>False) (λ_=>False) (λ_=>K) gs w t (λ_=>K) vs q fc:=by
 have m:∀a,wk a=K:=λa=>by
  cases b:wk a with
  |none=>rfl
  |some d=>
   obtain⟨A,z,s,E,_,i,_⟩:=h.chan a d b;rw[y] at i;cases i
 refine⟨⟨h.Aa.wl,h.Aa.clean,h.Aa.low,λa n u x=>?_,λg d e=>(by cases e),λg d e=>(by cases e),λg d D e=>(by cases e)⟩,h.hp,λa k p l _=>h.quit a k p l λd j=>(by rw[m] at j;cases j),λa k d l b=>(by cases b),λa d b=>(by cases b),λo f=>f.elim,λo f=>f.elim,λa d b=>(by cases b),λa B d F _ b=>(by cases b),λa d b=>(by cases b),λc C v=>(by cases v)⟩;rcases h.Aa.known a n u x with r|⟨g,d,e,_⟩
 ·exact .inl r
 ·rw[m] at e;cases e
def Inv.UB(h:Inv P0 P (λ_=>False) (λ_=>False) (λ_=>K) gs w t (λ_=>K) vs q fc)(k:∀b,S b->b<w.heap.size/\¬O b)(j:∀b,O b->b<w.heap.size):Inv P0 P S O (λ_=>K) gs w t (λ_=>K) vs q fc:=by
 refine⟨⟨h.Aa.wl,h.Aa.clean,h.Aa.low,λe g l n=>?_,λf c d=>(by cases d),λf c d=>(by cases d),λf c v d=>(by cases d)⟩,h.hp,h.quit,λe p c r a=>(by cases a),λe c a=>(by cases a),k,j,λe c a=>(by cases a),λe s c x _ a=>(by cases a),λe c a=>(by cases a),λo u m=>(by cases m)⟩;rcases h.Aa.known e g l n with i|⟨f,c,d,_⟩
 ·exact .inl i
 ·cases d
def Inv.M1(h:Inv P0 P (λ_=>False) (λ_=>False) (λ_=>K) gs w t (λ_=>K) vs q fc){gs':Array VL}{w':F}{es:Array Wm}(f:Mg P0 w w' es)(y:gs'.size=gs.size)(s:∀j,0<j->gs'[j]? =gs[j]?)(fn:Xb)(pos:String):
 Inv P0 P (λ_=>False) (λ_=>False) (λ_=>K) gs' w' (t++YW 0 fn pos es) (λ_=>K) vs q fc:=by
 refine⟨?_,f.hp h.hp,λb l m n a=>h.quit b l m ((s b m).symm.trans n) a,λb l d n a=>(by cases a),λb d a=>(by cases a),λk c=>c.elim,λk c=>c.elim,λb d a=>(by cases a),λb j d B _ a=>(by cases a),λb d a=>(by cases a),λx A o=>(by cases o)⟩;refine h.Aa.main (λv i=>by obtain⟨e,_,rfl⟩:=X8 i;rfl) (n8 λe g=>Ev (f.evs e g)) f.size λv i k c r=>?_;obtain⟨e,g,rfl⟩:=X8 i;exact⟨Kl (f.evs e g) c r,λz d p=>(by cases p),λu=>u.elim⟩
def Inv.good(h:Inv P0 P (λ_=>False) (λ_=>False) (λ_=>K) gs w t (λ_=>K) vs q fc)(sl:Option (Nat×Nat)){v:U}{es:Array Wm}(g:∀e∈es,DJ w.heap.size e)(i:Post v w)(fn:Xb)(pos:String)(w0:F):Conc.Good P Post (crowd gs w0 sl) (.done v) w (t++YW 0 fn pos es):=by
 have b:=h.M1 (w':=w) (es:=es) ⟨U7 _,rfl,rfl,rfl,id,g⟩ Y (λ_ _=>rfl) fn pos;refine⟨v,rfl,i,b.Aa.clean,b.Aa.over,⟨λf d=>?_,rfl⟩,λa f d c=>?_⟩
 ·obtain⟨a,c⟩:=List.mem_iff_getElem?.1 d;rw[List.getElem?_drop] at c;exact⟨_,(h.quit (1+a) f (by omega) (by simpa [crowd] using c) λj e=>by cases e).leaves⟩
 ·rw[b.Aa.wl.deaf];exact⟨q a,(h.quit a f (by omega) d λj e=>by cases e).hears _ 0⟩
end
end
section
variable {P0 P:Vb}{Post:U->F->Prop}
def Pe (P0 P:Vb)(Post:U->F->Prop)(k:Tr):Prop:=
 (∀d c,Mn P0 P Post k .ex d c->∀b g e h f fc a,b[0]? =I a->sI a d->a.status= .running->Inv P0 P (λ_=>False) (λ_=>False) (λ_=>K) b c e (λ_=>K) h f fc->Ends P Post (crowd b c g) e)/\
 (∀j i l d c,Mn P0 P Post k (.sh j i l) d c->∀b g e m h f fc a,b[0]? =I a->sI a d->a.status= .running->Inv P0 P j i l b c e m h f fc->Ends P Post (crowd b c g) e)
def FO{q:Nat->Nat}{i n k:Nat}(a:i<n)(b:q i=k+1):YP n (kN q i k)+1=YP n q:=by
 have c:YP n (kN q i k)+(k+1)=YP n q+k:=by
  have:=ConcN.sumTo_upd q k id a;simp only[id,b] at this;exact this
 omega
def uI{S d:Nat->Prop}{n:Nat->Option (List U)}{a:Array VL}{w:F}{t:Trace}{l:Nat->Option wT}{vs:Nat->List U}{q:Nat->Nat}{fc:Nat->Tr}(h:Inv P0 P S d n a w t l vs q fc){b:VL}(e:a[0]? =I b)(f:awake b):∀g∈a,awake g:=by
 intro g i;obtain⟨k,c,rfl⟩:=Array.mem_iff_getElem.1 i;rcases Yv k with rfl|j
 ·have:a[0]=b:=by simpa [VT c] using e
  rw[this];exact f
 ·exact awake_of ((h.status j (VT c)).elim .inl λm=>.inr (.inr m))
def PS{f:F->Tr}(C:∀w,Pe P0 P Post (f w)):∀(n:Nat) g w,Mn P0 P Post (.mk f) .ex g w->∀d sl t vs q fc c,YP d.size q<n->d[0]? =I c->sI c g->c.status= .running->Inv P0 P (λ_=>False) (λ_=>False) (λ_=>K) d w t (λ_=>K) vs q fc->Ends P Post (crowd d w sl) t:=by
 intro n
 induction n with
 |zero=>intro g w y d sl t vs q fc c ae;omega
 |succ n al=>
  intro g w y d sl t vs q fc c ae j p k e;have N:=y;rcases nN.1 y with x|x|⟨E,D,H,J,L⟩
  case inr.inr=>exact(C w).2 E D _ g w (L w (atRel_refl w)) d sl t _ vs q fc c j p k (e.UB H J)
  all_goals
   obtain⟨h,i,a,m,b,o,B⟩:=crowd_pick (P:=P) (w:=w) (sl:=sl) (uI e j (awake_of (.inl k))) ⟨0,c,j,k⟩;rcases Yv h with rfl|Y
   case inr=>
    have r:=e.quit h i Y b (λau s=>by cases s);have U:(h==0)=U5:=by simp;omega
    have W:h<d.size:=(U4.1 b).1;cases A:q h with
    |zero=>rw[A] at r;rw[show i.status= .finished from r] at o;cases o
    |succ ao=>
     rw[A] at r;rcases r with R|⟨_,u,ad,aa⟩
     ·rw[R] at o;cases o
     ·have l:=runT_crowd_go (P:=P) (sl:=m) (i:=h) b (by rw[U];exact ad (w.at a));have aw:=FO W A;refine Ends.step (B.trans l) (al g (w.at a) (N.I8 ⟨a,rfl⟩) _ m _ vs (kN q h ao) fc c (by rw[gK];omega) (Fa (by omega) j (nC (.inl k))) p k ?_);rw[ofEvents_none,Array.append_empty];exact(e.at a).slip (λau s=>by cases s) aa gK (rD b) λam z V=>others e z V
  ·obtain rfl:i=c:=by rw[j] at b;exact(Zm b).symm
   obtain⟨u,ar,G,T,ab,S,M⟩:=x (w.at a) ⟨a,rfl⟩;have l:=runT_crowd_go (P:=P) (sl:=m) (i:=0) b (show VN P (0==0) i (w.at a)=_ from(p.step Z _).trans T);refine Ends.step (B.trans l) ((C (w.at a)).1 u ar M _ m _ vs q fc u (rD b) (sI.refl _) ab ?_);exact(e.at a).M1 S gK (λam z=>others e z (by omega)) _ _
  ·obtain rfl:i=c:=by rw[j] at b;exact(Zm b).symm
   obtain⟨v,G,O,Q,X⟩:=x (w.at a) ⟨a,rfl⟩;have l:=runT_many_ended (P:=P) (sl:=m) (i:=0) b (show VN P (0==0) i (w.at a)=_ from(p.step Z _).trans O);exact Ends.now (B.trans l) ((e.at a).good sl Q X _ _ w)
end
end Cc
end Go.Proofs.YtjidbonhhpkljabGreat
