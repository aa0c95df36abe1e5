/- What the proof stands on, in short names. -/
import Derived.Conc.Beside
import Derived.Laws.Sem
import Derived.StepT
import GoSem.Dispatch
import Derived.Conc.Listed
import Derived.Conc.LoneCalls
import Derived.Conc.Know
import Derived.Conc.CrowdComm
set_option linter.all false
open Array renaming getElem?_eq_getElem → SU, getElem?_eq_none → Tg, getElem?_eq_some_iff → R9, getElem?_modify → TV, getElem?_push → SN, getElem?_setIfInBounds → SQ, getElem?_setIfInBounds_ne → TR, range → VA
open Bool renaming and_eq_true → Sz, false → R6, false_eq_true → SD, not_eq_true' → Ve, true → R7
open Classical renaming byContradiction → TY, choose → Tt, choose_spec → Sp
open False renaming elim → VP
open Go renaming Addr → SL, BinOp → V5, Code → U7, Deferred → Uc, Event → Ti, Frame → Sn, Func → UB, FuncId → T1, GStep → V0, Goroutine → SM, IntKind → Uo, Item → UC, MapEntry → TM, MemOp → V6, Obj → U9, Oper → Tx, Operand → S3, PanicEntry → Tv, Program → Sd, Result → Vv, Sem → Ul, TypeId → Sg, TypeInfo → UL, Value → R2, World → R3, behindNumber → Us, doReturn → UM, execOp → SE, exitTo → VQ, resolve → VE, results → SX, sizeOf → V3, stepG → SO, tryRecover → U2, typeInfo → UX, undef → Tq, underlying → U3, unwind → VR, yielded → Tc, zeroValue → T9
open Go.Addr renaming add → V8
open Go.Addr.mk renaming injEq → U6
open Go.Builtin renaming append_ → Vw, firstCells → UY, holdsCells → UZ, lenOf → VU, mayShare → VJ, unsafeAdd_ → U0
open Go.Conc renaming G → Se, mem_ofEvents → UI, served → Ub, solo → VS
open Go.ConcN renaming sumTo → Vm
open Go.Deferred renaming ofValue → Vo
open Go.Extern renaming find → V9
open Go.Frame renaming enter → SW, finish → TX, round → UJ
open Go.GStep renaming after → UE
open Go.Goroutine.mk renaming injEq → Wl
open Go.Instr renaming buildSlice → UK, checkKey → Vt, endRound → VL, fill → Vh, findKey → VV, makeSlice → Vx, sameBits → Vb, sureAddr → UR
open Go.IntKind renaming i64 → Wb
open Go.Machine.mk renaming injEq → WM
open Go.MemAct renaming ofEvent → Ut, touch? → VG
open Go.MemOp renaming ofEvents → Vu
open Go.Op.Complex renaming add → WA, arith → Wx, cmp → WB, conv → Wy, corrected → WE, mul → WC, product → Wu, quo → WO, quotient → Ws, sub → WD
open Go.Region renaming schedule → Vy, wanted → SI
open Go.Result.halt renaming injEq → WL
open Go.RuntimeError renaming error → WI
open Go.Sem renaming run → Uj, runT → S1
open Go.Stepped.next renaming injEq → WJ
open Go.Unsupported renaming resourceLimit → Wm, unsafePointer → V7
open Go.Value renaming cells → Uw, slice → Te
open Go.World renaming cell? → Sr, farLoad → VH, farStore → Vc, freeze → TN, frozen? → S4, noCell → UH, setCell → VI
open Go.stepG renaming apply → TL, exec → SJ
open List renaming all_eq_true → SC, append_nil → Uy, cons_append → Uk, mem_append → S7, mem_cons → TE, mem_cons_self → U4, not_mem_nil → Vr, range → SS
open List.cons renaming injEq → UW
open MonadExceptOf renaming throw → Wj
open Nat renaming add_assoc → Td, eq_zero_or_pos → Ux, le_refl → R8, le_trans → Ss, lt_of_lt_of_le → Sa, lt_or_ge → TF
open Option renaming map_eq_some_iff → Uh, map_some → TU, none → RZ, some → RX
open Option.some renaming inj → VT, injEq → Ts
open Std.Legacy.Range renaming forIn_eq_forIn_range' → Tz
open WellFounded renaming fixF → WN, fixF_eq → WH
set_option maxRecDepth 100000
set_option maxHeartbeats 8000000
namespace Go.Proofs.YtjidbonhhpkljaaGreat
namespace Cc
open Go
abbrev Tp:=Nat→Question→Nat
def sh (a:Tp)(d:Nat)(w:R3):R3:={w with tape:=a,drawn:=d}
def rW {α:Type}:Vv α→R3
 | .ok _ w=>w
 | .halt _ w=>w
def Al (e:Tp)(d:Nat)(f:Tp)(c:Nat)(n:Nat):Prop:=∀ a b,a<n→f (c+a) b=e (d+a) b
def Al.sub{b c:Tp}{d a n m:Nat}(h:Al b d c a n)(i:m≤n):Al b d c a m:=fun e f g=>h e f (by omega)
def Al.refl(a:Tp)(d n:Nat):Al a d a d n:=fun _ _ _=>rfl
def oz:Halt→Bool
 | .panic _=>R7
 | .stuck _=>R7
 | .unsupported (.initOrder _)=>R6
 | .unsupported _=>R7
 |_=>R6
def pz:U9:=.coro RZ
def jk:U9→Bool
 | .loop _| .deferred _| .pending _ _| .coro _=>R7
 |_=>R6
def Gx {α:Type}(k:U9→Ul α):Prop:=(∃ s,k pz= .halt (.stuck s))∨((∀ c,k (.loop c)=k pz)∧(∀ b,k (.deferred b)=k pz)∧(∀ a d,k (.pending a d)=k pz)∧∀ e,k (.coro e)=k pz)
def Gx.bind{α e:Type}{k:U9→Ul α}(h:Gx k)(f:α→Ul e):Gx fun o=>(k o).bind f:=by
 rcases h with⟨s,h⟩|⟨a,b,c,d⟩
 ·exact .inl ⟨s,by dsimp only;rw[h];rfl⟩
 ·exact .inr ⟨fun j=>by dsimp only;rw[a],fun i=>by dsimp only;rw[b],fun g l=>by dsimp only;rw[c],fun m=>by dsimp only;rw[d]⟩
def Gx.Rj{α:Type}{k:U9→Ul α}(h:Gx k){x:U9}(e:jk x=R7):(∃ s,k pz= .halt (.stuck s))∨k x=k pz:=by
 rcases h with h|⟨a,b,c,d⟩
 ·exact .inl h
 ·cases x<;>first|(simp[jk] at e;done)|exact .inr (a _)|exact .inr (b _)|exact .inr (c _ _)|exact .inr (d _)
section
variable (P P':Sd)(O:U9→Prop)
def Still{α:Type}(Q:α→Prop):Ul α→Prop
 | .pure d=>Q d
 | .load _ _ a=>∀ v,Still Q (a v)
 | .store _ _ _ a=>Still Q a
 | .new b a=>O b∧∀ c,Still Q (a c)
 | .shape _ a=>∀ s,Still Q (a s)
 | .freeze _ _ a=>Still Q a
 | .frozen _ a=>∀ e,Still Q (a e)
 | .getObj _ a=>(∀ b,O b→Still Q (a b))∧Gx a
 | .setObj _ b a=>O b∧Still Q a
 | .choose _ a=>∀ i,Still Q (a i)
 | .sys g a=>g= .env∧∀ c,Still Q (a c)
 | .program a=>a P=a P'∧Still Q (a P)
 | .mark m a=>(Conc.Neutral m∨∃ f,m= .extern f)∧Still Q a
 | .halt h=>oz h=R7
theorem Still.bind{α j:Type}{Q:α→Prop}{R:j→Prop}{f:α→Ul j}(k:∀ a,Q a→Still P P' O R (f a)):∀ {s:Ul α},Still P P' O Q s→Still P P' O R (s.bind f):=by
 intro s
 induction s with
 |pure a=>intro b;exact k a b
 |load m a d c=>intro b v;exact c v (b v)
 |store m a v d c=>intro b;exact c b
 |new g d c=>intro b;exact⟨b.1,fun e=>c e (b.2 e)⟩
 |shape e d c=>intro b s;exact c s (b s)
 |freeze a h d c=>intro b;exact c b
 |frozen a d c=>intro b i;exact c i (b i)
 |getObj e d c=>intro b;exact⟨fun g l=>c g (b.1 g l),b.2.bind f⟩
 |setObj e g d c=>intro b;exact⟨b.1,c b.2⟩
 |choose o d c=>intro b h;exact c h (b h)
 |sys n d c=>intro b;exact⟨b.1,fun e=>c e (b.2 e)⟩
 |program d c=>intro b;exact⟨congrArg (·.bind f) b.1,c P b.2⟩
 |mark m d c=>intro b;exact⟨b.1,c b.2⟩
 |halt b=>intro b;exact b
theorem Still.mono{α:Type}{Q R:α→Prop}(j:∀ a,Q a→R a):∀ {s:Ul α},Still P P' O Q s→Still P P' O R s:=by
 intro s
 induction s with
 |pure a=>intro b;exact j a b
 |load m a d c=>intro b v;exact c v (b v)
 |store m a v d c=>intro b;exact c b
 |new f d c=>intro b;exact⟨b.1,fun e=>c e (b.2 e)⟩
 |shape e d c=>intro b s;exact c s (b s)
 |freeze a g d c=>intro b;exact c b
 |frozen a d c=>intro b h;exact c h (b h)
 |getObj e d c=>intro b;exact⟨fun f i=>c f (b.1 f i),b.2⟩
 |setObj e f d c=>intro b;exact⟨b.1,c b.2⟩
 |choose l d c=>intro b g;exact c g (b g)
 |sys k d c=>intro b;exact⟨b.1,fun e=>c e (b.2 e)⟩
 |program d c=>intro b;exact⟨b.1,c P b.2⟩
 |mark m d c=>intro b;exact⟨b.1,c b.2⟩
 |halt b=>intro b;exact b
end
def Hp (O:U9→Prop)(w:R3):Prop:=∀ (b:Nat) (a:U9),w.heap[b]? =RX a→O a∨a=pz
structure Plain(O:U9→Prop):Prop where
 cells:∀ c t f,O (.cells c t f)
 pending:∀ c t,¬ O (.pending c t)
 Pj:¬ O pz
 loop:∃ r,O (.loop r)
structure Un(w u:R3):Prop where
 size:u.heap.size=w.heap.size
 at_:∀ (b:Nat) (o:U9),w.heap[b]? =RX o→u.heap[b]? =RX o∨(o=pz∧∃ x,u.heap[b]? =RX x∧jk x=R7)
 os:u.os=w.os
 output:u.output=w.output
structure qU(w u w' u':R3):Prop where
 un:Un w' u'
 keep:∀ b:Nat,w'.heap[b]? =RX pz→w.heap[b]? =RX pz∧u'.heap[b]? =u.heap[b]?
def Un.refl(w:R3):Un w w:=⟨rfl,fun b c a=>.inl a,rfl,rfl⟩
def Un.two{w u:R3}(h:Un w u):qU w u w u:=⟨h,fun b a=>⟨a,rfl⟩⟩
def qU.trans{w u w1 u1 c u2:R3}(h:qU w u w1 u1)(b:qU w1 u1 c u2):qU w u c u2:=⟨b.un,fun a i=>by
 obtain⟨d,e⟩:=b.keep a i;obtain⟨f,g⟩:=h.keep a d;exact⟨f,e.trans g⟩⟩
def Un.none{w u:R3}(h:Un w u){b:Nat}(a:w.heap[b]? =RZ):u.heap[b]? =RZ:=by
 rw[Array.getElem?_eq_none_iff] at a ⊢;rw[h.size];exact a
def Un.out{w u:R3}(h:Un w u){b:Nat}{o:U9}(a:w.heap[b]? =RX o)(c:o≠pz):u.heap[b]? =RX o:=(h.at_ b o a).elim id fun h=>absurd h.1 c
def Un.row{w u:R3}(h:Un w u){b:Nat}{c:Array R2}{t:Sg}{f:Nat×Nat}:w.heap[b]? =RX (.cells c t f)↔u.heap[b]? =RX (.cells c t f):=by
 constructor
 ·exact fun a=>h.out a (by simp[pz])
 ·intro a;cases e:w.heap[b]? with
  |none=>rw[h.none e] at a;cases a
  |some i=>
   rcases h.at_ b i e with d|⟨_,j,d,g⟩
   ·rw[d] at a;exact a
   ·rw[d] at a;cases a;simp[jk] at g
def Un.cases{w u:R3}(h:Un w u)(b:Nat):u.heap[b]? =w.heap[b]? ∨(w.heap[b]? =RX pz∧∃ x,u.heap[b]? =RX x∧jk x=R7):=by
 cases c:w.heap[b]? with
 |none=>exact .inl (h.none c)
 |some e=>
  rcases h.at_ b e c with a|⟨rfl,x,a,d⟩
  ·exact .inl a
  ·exact .inr ⟨rfl,x,a,d⟩
def Un.cell{w u:R3}(h:Un w u)(a:SL):u.cell? a=w.cell? a:=by
 unfold Sr;rcases h.cases a.block with b|⟨b,e,c,d⟩
 ·rw[b]
 ·rw[b,c];cases e<;>first|rfl|(simp[jk] at d;done)
def Un.shape{w u:R3}(h:Un w u)(r:Nat):u.shape? r=w.shape? r:=by
 unfold World.shape?;rcases h.cases r with a|⟨a,d,b,c⟩
 ·rw[a]
 ·rw[a,b];cases d<;>first|rfl|(simp[jk] at c;done)
def Un.frozen{w u:R3}(h:Un w u)(a:SL):u.frozen? a=w.frozen? a:=by
 unfold S4;rcases h.cases a.block with b|⟨b,e,c,d⟩
 ·rw[b]
 ·rw[b,c];cases e<;>first|rfl|(simp[jk] at d;done)
theorem Un.modify{w u:R3}(h:Un w u)(r:Nat)(f:U9→U9)(hc:∀ c t z,∃ n x y,f (.cells c t z)= .cells n x y)(l:∀ o,(∀ c t z,o≠.cells c t z)→f o=o):qU w u {w with heap:=w.heap.modify r f} {u with heap:=u.heap.modify r f}:=by
 have q:∀ (h:Array U9) (e:Nat),(h.modify r f)[e]? =(h[e]?).map fun o=>if r=e then f o else o:=fun h e=>by
  rw[TV]
  split
  ·rename_i a;subst a;simp
  ·rename_i a;simp[a]
 have v:∀ d,jk d=R7→∀ c t z,d≠.cells c t z:=fun d j c t z a=>by rw[a] at j;simp[jk] at j
 refine⟨⟨by simp[h.size],fun e o b=>?_,h.os,h.output⟩,fun e b=>?_⟩
 ·simp only[q] at b ⊢;cases i:w.heap[e]? with
  |none=>rw[i] at b;cases b
  |some g=>
   rw[i] at b;rcases h.at_ e g i with a|⟨rfl,d,a,j⟩
   ·rw[a];exact .inl b
   ·have k:(if r=e then f pz else pz)=pz:=by split<;>first|rfl|exact l pz (fun c t z=>by simp[pz])
    have m:(if r=e then f d else d)=d:=by split<;>first|rfl|exact l d (v d j)
    simp only[TU,k,Ts] at b;exact .inr ⟨b.symm,d,by rw[a];simp[m],j⟩
 ·simp only[q] at b ⊢;cases i:w.heap[e]? with
  |none=>rw[i] at b;cases b
  |some g=>
   rw[i] at b;have A:g=pz:=by
    by_cases p:∃ c t z,g= .cells c t z
    ·obtain⟨c,t,z,rfl⟩:=p;obtain⟨n,x,y,a⟩:=hc c t z;simp only[TU,a,Ts] at b
     split at b<;>simp[pz] at b
    ·have k:(if r=e then f g else g)=g:=by split<;>first|rfl|exact l g (fun c t z a=>p ⟨c,t,z,a⟩)
     simpa [k] using b
   subst A;refine⟨rfl,?_⟩;rcases h.at_ e pz i with a|⟨_,d,a,j⟩
   ·rw[a];have k:(if r=e then f pz else pz)=pz:=by split<;>first|rfl|exact l pz (fun c t z=>by simp[pz])
    simp[k]
   ·rw[a];have m:(if r=e then f d else d)=d:=by split<;>first|rfl|exact l d (v d j)
    simp[m]
theorem Un.push{w u:R3}(h:Un w u){o:U9}(d:o≠pz):qU w u {w with heap:=w.heap.push o} {u with heap:=u.heap.push o}:=by
 refine⟨⟨by simp[h.size],fun c e a=>?_,h.os,h.output⟩,fun c a=>?_⟩
 ·simp only[SN,h.size] at a ⊢
  split
  ·rename_i b;rw[if_pos b] at a;exact .inl a
  ·rename_i b;rw[if_neg b] at a;exact h.at_ c e a
 ·simp only[SN,h.size] at a ⊢
  split at a
  ·cases a;exact absurd rfl d
  ·rename_i b;rw[if_neg b];exact⟨a,rfl⟩
theorem Un.set{w u:R3}(h:Un w u)(r:Nat){o:U9}(d:o≠pz):qU w u {w with heap:=w.heap.setIfInBounds r o} {u with heap:=u.heap.setIfInBounds r o}:=by
 refine⟨⟨by simp[h.size],fun c e a=>?_,h.os,h.output⟩,fun c a=>?_⟩
 ·simp only[SQ,h.size] at a ⊢
  split
  ·rename_i b;rw[if_pos b] at a;exact .inl a
  ·rename_i b;rw[if_neg b] at a;exact h.at_ c e a
 ·simp only[SQ,h.size] at a ⊢
  split at a
  ·split at a
   ·cases a;exact absurd rfl d
   ·cases a
  ·rename_i b;rw[if_neg b];exact⟨a,rfl⟩
structure Views(P P':Sd):Prop where
 load:∀ (w u:R3) at_ t a m,(∀ c e f,w.heap[(at_:SL).block]? =RX (.cells c e f)↔u.heap[at_.block]? =RX (.cells c e f))→u.viewLoad P' at_ t a m=w.viewLoad P at_ t a m
 touch:∀ (w:R3) at_ t a m v l,w.viewLoad P at_ t a m= .ok (v,l)→∀ x∈l,x.block<w.heap.size
 store:∀ (w u:R3) at_ t a v m,(∀ c e f,w.heap[(at_:SL).block]? =RX (.cells c e f)↔u.heap[at_.block]? =RX (.cells c e f))→(∃ why,w.viewStore P at_ t a v m= .error why∧u.viewStore P' at_ t a v m= .error why)∨∃ c e f l,w.viewStore P at_ t a v m= .ok ({w with heap:=w.heap.setIfInBounds at_.block (.cells c e f)},l)∧u.viewStore P' at_ t a v m= .ok ({u with heap:=u.heap.setIfInBounds at_.block (.cells c e f)},l)∧∀ x∈l,x.block<w.heap.size
def yN (n:Nat)(e:Ti):Prop:=match e.loc with
 | .obj b=>b<n
 | .cell a=>a.block<n
 | .mark m=>Conc.Neutral m∨∃ f,m= .extern f
 |_=>True
def yN.mono{n m:Nat}(h:n≤m){e:Ti}(a:yN n e):yN m e:=by
 unfold yN at*
 split<;>simp_all<;>omega
def MK {α:Type}(u:R3):Vv α→Vv α
 | .ok a _=>.ok a u
 | .halt b _=>.halt b u
structure iW{α:Type}(P P':Sd)(O:U9→Prop)(Q:α→Prop)(s:Ul α)(w:R3)(es:Array Ti):Prop where
 tape:(rW (s.runT P w es).1).tape=w.tape
 drawn:w.drawn≤(rW (s.runT P w es).1).drawn
 size:w.heap.size≤(rW (s.runT P w es).1).heap.size
 os:(rW (s.runT P w es).1).os=w.os
 output:(rW (s.runT P w es).1).output=w.output
 hp:Hp O (rW (s.runT P w es).1)
 ok:∀ a w',(s.runT P w es).1= .ok a w'→Q a
 halt:∀ h w',(s.runT P w es).1= .halt h w'→oz h=R7
 evs:∀ e∈(s.runT P w es).2,e∈es∨yN (rW (s.runT P w es).1).heap.size e
 shift:(∃ y w',(s.runT P w es).1= .halt (.stuck y) w')∨∀ τ d u,Un w u→Al w.tape w.drawn τ d ((rW (s.runT P w es).1).drawn - w.drawn)→∃ u',qU w u (rW (s.runT P w es).1) u'∧s.runT P' (sh τ d u) es=(MK (sh τ (d+((rW (s.runT P w es).1).drawn - w.drawn)) u') (s.runT P w es).1,(s.runT P w es).2)
section
variable {α:Type}{P P':Sd}{O:U9→Prop}{Q:α→Prop}{w w1:R3}{es KF:Array Ti}{s s1:Ul α}
theorem iW.cons(n:Nat)(h:iW P P' O Q s1 w1 KF)(a:s.runT P w es=s1.runT P w1 KF)(i:w1.tape=w.tape)(l:w1.drawn=w.drawn+n)(r:w.heap.size≤w1.heap.size)(o:w1.os=w.os)(v:w1.output=w.output)
 (A:∀ e∈KF,e∈es∨yN w1.heap.size e) (f:(∃ y w',(s.runT P w es).1= .halt (.stuck y) w')∨∀ b d u,Un w u→Al w.tape w.drawn b d n→∃ u1,qU w u w1 u1∧s.runT P' (sh b d u) es=s1.runT P' (sh b (d+n) u1) KF):iW P P' O Q s w es:=by
 have D:=h.drawn;refine⟨by rw[a,h.tape,i],by rw[a];omega,by rw[a];exact Ss r h.size,by rw[a,h.os,o],by rw[a,h.output,v],by rw[a];exact h.hp,by rw[a];exact h.ok,by rw[a];exact h.halt,?_,?_⟩
 ·rw[a];intro e m;rcases h.evs e m with c|c
  ·exact(A e c).imp id (yN.mono h.size)
  ·exact .inr c
 ·rcases f with f|f
  ·exact .inl f
  ·rw[a];rcases h.shift with c|t
   ·exact .inl c
   ·refine .inr fun b d u z g=>?_;have k:(rW (s1.runT P w1 KF).1).drawn - w.drawn=n+((rW (s1.runT P w1 KF).1).drawn - w1.drawn):=by omega
    obtain⟨u1,j,p⟩:=f b d u z (g.sub (by omega));obtain⟨u2,x,q⟩:=t b (d+n) u1 j.un (by
     intro B C E;have:=g (n+B) C (by omega);rw[i,l,Td,Td];exact this)
    exact⟨u2,j.trans x,by rw[p,q,k,Td]⟩
theorem iW.ends{x:Halt}(a:s.runT P w es=(.halt x w,es))(j:oz x=R7)(i:Hp O w)(c:(∃ y,x= .stuck y)∨∀ b d u,Un w u→s.runT P' (sh b d u) es=(.halt x (sh b d u),es)):iW P P' O Q s w es:=by
 refine⟨by rw[a];rfl,by rw[a];exact R8 _,by rw[a];exact R8 _,by rw[a];rfl,by rw[a];rfl,by rw[a];exact i,?_,?_,?_,?_⟩
 ·rw[a];intro l k f;cases f
 ·rw[a];intro f k e;cases e;exact j
 ·rw[a];exact fun e h=>.inl h
 ·rw[a];rcases c with⟨y,rfl⟩|c
  ·exact .inl ⟨y,w,rfl⟩
  ·refine .inr fun b d u g _=>⟨u,g.two,?_⟩;rw[c b d u g];simp[MK,rW]
end
def Hp.push{O:U9→Prop}{w:R3}(h:Hp O w){o:U9}(c:O o):Hp O {w with heap:=w.heap.push o}:=by
 intro b d a;simp only[SN] at a
 split at a
 ·cases a;exact .inl c
 ·exact h b d a
def Hp.set{O:U9→Prop}{w:R3}(h:Hp O w)(r:Nat){o:U9}(c:O o):Hp O {w with heap:=w.heap.setIfInBounds r o}:=by
 intro b d a;simp only[SQ] at a
 split at a
 ·split at a
  ·cases a;exact .inl c
  ·cases a
 ·exact h b d a
def Hp.modify{O:U9→Prop}(g:Plain O){w:R3}(h:Hp O w)(r:Nat)(f:U9→U9)(i:∀ o,f o=o∨∃ c t z,f o= .cells c t z):Hp O {w with heap:=w.heap.modify r f}:=by
 intro d k a;simp only[TV] at a
 split at a
 ·obtain⟨e,j,rfl⟩:=Uh.1 a;rcases i e with b|⟨c,t,z,b⟩
  ·rw[b];exact h d e j
  ·rw[b];exact .inl (g.cells c t z)
 ·exact h d k a
def Hp.sh{O:U9→Prop}{w:R3}(h:Hp O w)(a:Tp)(d:Nat):Hp O (sh a d w):=h
def rV{O:U9→Prop}(d:Plain O){w:R3}(h:Hp O w){a:SL}(e:∀ x t,w.heap[a.block]? ≠RX (.view x t))(s:String):w.noCell a s= .stuck s:=by
 unfold UH
 split
 ·rename_i c t b;exact(h _ _ b).elim (fun h=>absurd h (d.pending _ _)) (fun h=>by cases h)
 ·rename_i c t b;exact absurd b (e _ _)
 ·rfl
def lX{n:Nat}{es:Array Ti}{e:Ti}(b:yN n e):∀ x∈es.push e,x∈es∨yN n x:=fun x c=>by
 rcases Array.mem_push.1 c with a|rfl
 ·exact .inl a
 ·exact .inr b
def Gg{w:R3}{a:SL}{v:R2}(h:w.cell? a=RX v):a.block<w.heap.size:=by
 unfold Sr at h;cases b:w.heap[a.block]? with
 |none=>rw[b] at h;cases h
 |some c=>exact(R9.1 b).1
def Un.setCell{w u:R3}(h:Un w u)(a:SL)(v:R2):qU w u (w.setCell a v) (u.setCell a v):=by
 unfold VI;refine h.modify _ _ (fun d e f=>⟨_,_,_,rfl⟩) fun c b=>?_;cases c<;>first|rfl|exact absurd rfl (b _ _ _)
def Un.freeze{w u:R3}(h:Un w u)(a:SL)(n:Nat):qU w u (w.freeze a n) (u.freeze a n):=by
 unfold TN
 split
 ·exact h.two
 ·refine h.modify _ _ (fun d e f=>⟨_,_,_,rfl⟩) fun c b=>?_;cases c<;>first|rfl|exact absurd rfl (b _ _ _)
def yG(w:R3)(a:SL):(∃ x t,w.heap[a.block]? =RX (.view x t))∨∀ x t,w.heap[a.block]? ≠RX (.view x t):=by
 by_cases b:∃ x t,w.heap[a.block]? =RX (.view x t)
 ·exact .inl b
 ·exact .inr fun x t c=>b ⟨x,t,c⟩
def rM{w:R3}{a x:SL}{t:Sg}(h:w.heap[a.block]? =RX (.view x t))(R:Sd)(m:Bool):w.farLoad R a m=match w.viewLoad R x t a m with| .ok r=>.ok r| .error b=>.error (.unsupported (.unsafePointer b)):=by
 unfold VH;rw[h];rfl
def jQ{w:R3}{a x:SL}{t:Sg}(h:w.heap[a.block]? =RX (.view x t))(R:Sd)(v:R2)(m:Bool):w.farStore R a v m=match w.viewStore R x t a v m with| .ok r=>.ok r| .error b=>.error (.unsupported (.unsafePointer b)):=by
 unfold Vc;rw[h];rfl
def A0 {w:R3} {a:SL} (h:∀ x t,w.heap[a.block]? ≠RX (.view x t)) (R:Sd) (m:Bool):w.farLoad R a m= .error (w.noCell a "load: no such cell"):=by
 unfold VH
 split
 ·rename_i b;exact absurd b (h _ _)
 ·rfl
def y9 {w:R3} {a:SL} (h:∀ x t,w.heap[a.block]? ≠RX (.view x t)) (R:Sd) (v:R2) (m:Bool):w.farStore R a v m= .error (w.noCell a "store: no such cell"):=by
 unfold Vc
 split
 ·rename_i b;exact absurd b (h _ _)
 ·rfl
def Gd{n:Nat}{es a:Array Ti}(b:∀ e∈a,yN n e):∀ x∈es ++ a,x∈es∨yN n x:=fun x c=>(Array.mem_append.1 c).imp id (b x)
theorem LJ{α:Type}{P P':Sd}{O:U9→Prop}(L:Plain O)(ab:Views P P'){Q:α→Prop}(s:Ul α):∀ (w:R3) (es:Array Ti),Still P P' O Q s→Hp O w→iW P P' O Q s w es:=by
 induction s with
 |pure c=>
  intro w es i g;refine⟨rfl,R8 _,R8 _,rfl,rfl,g,fun a1 j n=>?_,fun n j h=>by simp[S1] at h,fun h am=>.inl am,.inr fun e d a b _=>⟨a,b.two,?_⟩⟩
  ·simp only[S1] at n;cases n;exact i
  ·simp[S1,MK,rW]
 |load m c p u=>
  intro w es i g;cases q:w.cell? c with
  |some v=>
   have T:=Gg q;exact(u v w (es.push ⟨.cell c,R6,m == .atomic⟩) (i v) g).cons 0 (by simp only[S1,q]) rfl rfl (R8 _) rfl rfl (lX (by simpa [yN] using T)) (.inr fun e d a b _=>⟨a,b.two,by
    have z:(sh e d a).cell? c=RX v:=(b.cell c).trans q;simp only[S1,z];rfl⟩)
  |none=>
   rcases yG w c with⟨l,o,B⟩|B
   ·cases I:w.viewLoad P l o c (m == .atomic) with
    |ok ba=>
     obtain⟨v,M⟩:=ba;have t:∀ (K:Sd) (j:R3),j.cell? c=RZ→j.heap[c.block]? =RX (.view l o)→j.viewLoad K l o c (m == .atomic)= .ok (v,M)→(Sem.load m c p).runT K j es=(p v).runT K j (es ++ M.toArray.map (⟨.cell ·,R6,m == .atomic⟩)):=by
      intro K j W X al;simp only[S1,W,rM X,al]
     refine(u v w _ (i v) g).cons 0 (t P w q B I) rfl rfl (R8 _) rfl rfl (Gd fun h am=>?_) (.inr fun e d a b _=>⟨a,b.two,t P' (sh e d a) ((b.cell c).trans q) (b.out B (by simp[pz])) ?_⟩)
     ·obtain⟨D,S,rfl⟩:=Array.mem_map.1 am;exact ab.touch w l o c _ v M I D (by simpa using S)
     ·rw[← I];exact ab.load w (sh e d a) l o c _ fun r h f=>b.row
    |error ad=>
     have t:∀ (K:Sd) (j:R3),j.cell? c=RZ→j.heap[c.block]? =RX (.view l o)→j.viewLoad K l o c (m == .atomic)= .error ad→(Sem.load m c p).runT K j es=(.halt (.unsupported (.unsafePointer ad)) j,es):=by
      intro K j W X al;simp only[S1,W,rM X,al]
     exact iW.ends (t P w q B I) rfl g (.inr fun e d a b=>t P' (sh e d a) ((b.cell c).trans q) (b.out B (by simp[pz])) (by rw[← I];exact ab.load w (sh e d a) l o c _ fun r h f=>b.row))
   ·exact iW.ends (x:=.stuck "load: no such cell") (by simp only[S1,q,A0 B,rV L g B]) rfl g (.inl ⟨_,rfl⟩)
 |store m c v p u=>
  intro w es i g;have a9:(∀ l,v≠.agg l)→(∀ l,v≠.tuple l)→iW P P' O Q (.store m c v p) w es:=by
   intro W X;have t:∀ (P:Sd) (j:R3),(Sem.store m c v p).runT P j es=(match j.cell? c with
    |some _=>if j.frozen? c then(.halt (.unsupported (.unsafePointer "a write to bytes that a string shares")) j,es) else p.runT P (j.setCell c v) (es.push ⟨.cell c,R7,m == .atomic⟩)
    |none=>match j.farStore P c v (m == .atomic) with
     | .ok (bc,bb)=>p.runT P bc (es ++ bb.toArray.map (⟨.cell ·,R7,m == .atomic⟩))
     | .error n=>(.halt n j,es)):=by
    intro P j;cases v<;>first|exact absurd rfl (W _)|exact absurd rfl (X _)|rfl
   cases q:w.cell? c with
   |some l=>
    by_cases H:w.frozen? c=R7
    ·refine iW.ends (x:=.unsupported (.unsafePointer "a write to bytes that a string shares")) (by rw[t,q];simp only[H,if_true]) rfl g (.inr fun e d a b=>?_);have z:(sh e d a).cell? c=RX l:=(b.cell c).trans q;have ao:(sh e d a).frozen? c=R7:=(b.frozen c).trans H;rw[t,z];simp only[ao,if_true]
    ·have Y:Hp O (w.setCell c v):=by
      unfold VI;refine g.modify L _ _ fun k=>?_;cases k<;>first|exact .inl rfl|exact .inr ⟨_,_,_,rfl⟩
     refine(u (w.setCell c v) (es.push ⟨.cell c,R7,m == .atomic⟩) i Y).cons 0 (by rw[t,q];simp only[H,if_false];rfl) rfl rfl (by simp[VI]) rfl rfl (lX (by simpa [yN,VI] using Gg q)) (.inr fun e d a b _=>⟨a.setCell c v,b.setCell c v,?_⟩);have z:(sh e d a).cell? c=RX l:=(b.cell c).trans q;have ao:¬ (sh e d a).frozen? c=R7:=fun h=>H ((b.frozen c).symm.trans h);rw[t,z];simp only[ao,if_false];rfl
   |none=>
    rcases yG w c with⟨l,o,B⟩|B
    ·have N:=fun a (b:Un w a)=>ab.store w a l o c v (m == .atomic) fun r h f=>b.row;rcases N w (Un.refl w) with⟨ad,C,-⟩|⟨r,h,f,M,C,-,I⟩
     ·refine iW.ends (x:=.unsupported (.unsafePointer ad)) (by rw[t,q];simp only[jQ B,C]) rfl g (.inr fun e d a b=>?_);have z:(sh e d a).cell? c=RZ:=(b.cell c).trans q;have ar:(sh e d a).heap[c.block]? =RX (.view l o):=b.out B (by simp[pz]);rcases N (sh e d a) ⟨b.size,b.at_,b.os,b.output⟩ with⟨bd,E,Z⟩|⟨r,h,f,M,E,-⟩
      ·rw[C] at E;cases E;rw[t,z];simp only[jQ ar,Z]
      ·rw[C] at E;cases E
     ·have Y:Hp O {w with heap:=w.heap.setIfInBounds l.block (.cells r h f)}:=g.set _ (L.cells _ _ _);refine(u {w with heap:=w.heap.setIfInBounds l.block (.cells r h f)} (es ++ M.toArray.map (⟨.cell ·,R7,m == .atomic⟩)) i Y).cons 0 (by rw[t,q];simp only[jQ B,C]) rfl rfl (by simp) rfl rfl (Gd fun D S=>?_) (.inr fun e d a b _=>?_)
      ·obtain⟨y,a8,rfl⟩:=Array.mem_map.1 S;have:=I y (by simpa using a8);simpa [yN] using this
      ·have z:(sh e d a).cell? c=RZ:=(b.cell c).trans q;have ar:(sh e d a).heap[c.block]? =RX (.view l o):=b.out B (by simp[pz]);rcases N (sh e d a) ⟨b.size,b.at_,b.os,b.output⟩ with⟨bd,E,Z⟩|⟨a2,a3,a4,be,E,Z,-⟩
       ·rw[C] at E;cases E
       ·rw[C] at E;have aw:=Except.ok.inj E;simp only[Prod.mk.injEq] at aw;obtain⟨a5,rfl⟩:=aw;refine⟨{a with heap:=a.heap.setIfInBounds l.block (.cells a2 a3 a4)},?_,?_⟩
        ·rw[a5];exact b.set l.block (by simp[pz])
        ·rw[t,z];simp only[jQ ar,Z];rfl
    ·exact iW.ends (x:=.stuck "store: no such cell") (by rw[t,q];simp only[y9 B,rV L g B]) rfl g (.inl ⟨_,rfl⟩)
  cases v with
  |agg l=>exact iW.ends (x:=.stuck "store: not the value of one cell") rfl rfl g (.inl ⟨_,rfl⟩)
  |tuple l=>exact iW.ends (x:=.stuck "store: not the value of one cell") rfl rfl g (.inl ⟨_,rfl⟩)
  |_=>exact a9 (fun l n=>by cases n) (fun l n=>by cases n)
 |new k p u=>
  intro w es i g;have U:k≠pz:=fun h=>L.Pj (h▸i.1);exact(u w.heap.size {w with heap:=w.heap.push k} es (i.2 _) (g.push i.1)).cons 0 rfl rfl rfl (by simp) rfl rfl (fun h n=>.inl n) (.inr fun e d a b _=>⟨{a with heap:=a.heap.push k},b.push U,by
   show(p a.heap.size).runT P' _ es=_;rw[b.size];rfl⟩)
 |shape x p u=>intro w es i g;exact(u (w.shape? x) w es (i _) g).cons 0 rfl rfl rfl (R8 _) rfl rfl (fun h n=>.inl n) (.inr fun e d a b _=>⟨a,b.two,by
  show(p (a.shape? x)).runT P' (sh e d a) es=_;rw[b.shape];rfl⟩)
 |freeze c F p u=>
  intro w es i g;have Y:Hp O (w.freeze c F):=by
   unfold TN
   split
   ·exact g
   ·refine g.modify L _ _ fun k=>?_;cases k<;>first|exact .inl rfl|exact .inr ⟨_,_,_,rfl⟩
  have C:(w.freeze c F).tape=w.tape∧(w.freeze c F).drawn=w.drawn∧(w.freeze c F).heap.size=w.heap.size∧(w.freeze c F).os=w.os∧(w.freeze c F).output=w.output:=by
   unfold TN;split<;>simp
  exact(u (w.freeze c F) es i Y).cons 0 rfl C.1 C.2.1 (by rw[C.2.2.1];exact R8 _) C.2.2.2.1 C.2.2.2.2 (fun h n=>.inl n) (.inr fun e d a b _=>⟨a.freeze c F,b.freeze c F,by
   have:(sh e d a).freeze c F=sh e d (a.freeze c F):=by unfold TN;split<;>rfl
   simp only[S1,this];rfl⟩)
 |frozen c p u=>intro w es i g;exact(u (w.frozen? c) w es (i _) g).cons 0 rfl rfl rfl (R8 _) rfl rfl (fun h n=>.inl n) (.inr fun e d a b _=>⟨a,b.two,by
  show(p (a.frozen? c)).runT P' (sh e d a) es=_;rw[b.frozen];rfl⟩)
 |getObj x p u=>
  intro w es i g;cases A:w.heap[x]? with
  |none=>exact iW.ends (x:=.stuck "getObj: no such block") (by simp only[S1,A]) rfl g (.inl ⟨_,rfl⟩)
  |some k=>
   have T:x<w.heap.size:=(R9.1 A).1;by_cases q:∃ r o y,k= .cells r o y
   ·obtain⟨r,o,y,rfl⟩:=q;exact iW.ends (x:=.stuck "getObj: a row of cells") (by simp only[S1,A]) rfl g (.inl ⟨_,rfl⟩)
   ·have t:∀ (P:Sd) (j:R3) (k:U9),(∀ r o y,k≠.cells r o y)→j.heap[x]? =RX k→(Sem.getObj x p).runT P j es=(p k).runT P j (es.push ⟨.obj x,R6,k.isChan⟩):=by
     intro P j k q ae;cases k<;>first|exact absurd rfl (q _ _ _)|simp only[S1,ae]
    have z:∀ r o y,k≠.cells r o y:=fun r o y h=>q ⟨r,o,y,h⟩;have N:Still P P' O Q (p k)∨∃ D,p k= .halt (.stuck D):=by
     rcases g x k A with n|rfl
     ·exact .inl (i.1 k n)
     ·rcases i.2 with⟨D,n⟩|⟨n,-⟩
      ·exact .inr ⟨D,n⟩
      ·obtain⟨M,I⟩:=L.loop;exact .inl (by rw[← n M];exact i.1 _ I)
    rcases N with N|⟨D,S⟩
    ·refine(u k w _ N g).cons 0 (t P w k z A) rfl rfl (R8 _) rfl rfl (lX (by simpa [yN] using T)) ?_;by_cases U:k=pz
     ·subst U;by_cases a0:∃ D,p pz= .halt (.stuck D)
      ·obtain⟨D,S⟩:=a0;exact .inl ⟨D,w,by rw[t P w pz z A,S];rfl⟩
      ·refine .inr fun e d a b _=>⟨a,b.two,?_⟩;rcases b.at_ x pz A with h|⟨_,l,h,R⟩
       ·exact t P' (sh e d a) pz z h
       ·rw[t P' (sh e d a) l (fun r o y h=>by rw[h] at R;simp[jk] at R) h,(i.2.Rj R).resolve_left a0];cases l<;>first|rfl|(simp[jk] at R;done)
     ·exact .inr fun e d a b _=>⟨a,b.two,t P' (sh e d a) k z (b.out A U)⟩
    ·have G:(Sem.getObj x p).runT P w es=(.halt (.stuck D) w,es.push ⟨.obj x,R6,k.isChan⟩):=by rw[t P w k z A,S];rfl
     refine⟨by rw[G];rfl,by rw[G];exact R8 _,by rw[G];exact R8 _,by rw[G];rfl,by rw[G];rfl,by rw[G];exact g,?_,?_,?_,.inl ⟨D,w,by rw[G]⟩⟩
     ·rw[G];intro c j n;cases n
     ·rw[G];intro n j h;cases h;rfl
     ·rw[G];exact lX (n:=w.heap.size) (by simpa [yN] using T)
 |setObj x k p u=>
  intro w es i g;cases A:w.heap[x]? with
  |none=>exact iW.ends (x:=.stuck "setObj: no such block") (by simp only[S1,A]) rfl g (.inl ⟨_,rfl⟩)
  |some J=>
   have T:x<w.heap.size:=(R9.1 A).1;by_cases q:∃ r o y,J= .cells r o y
   ·obtain⟨r,o,y,rfl⟩:=q;exact iW.ends (x:=.stuck "setObj: a row of cells") (by simp only[S1,A]) rfl g (.inl ⟨_,rfl⟩)
   ·have t:∀ (P:Sd) (j:R3) (J:U9),(∀ r o y,J≠.cells r o y)→j.heap[x]? =RX J→(Sem.setObj x k p).runT P j es=p.runT P {j with heap:=j.heap.setIfInBounds x k} (es.push ⟨.obj x,R7,k.isChan⟩):=by
     intro P j J q ae;cases J<;>first|exact absurd rfl (q _ _ _)|simp only[S1,ae]
    have U:k≠pz:=fun h=>L.Pj (h▸i.1);refine(u {w with heap:=w.heap.setIfInBounds x k} _ i.2 (g.set x i.1)).cons 0 (t P w J (fun r o y h=>q ⟨r,o,y,h⟩) A) rfl rfl (by simp) rfl rfl (lX (by simpa [yN] using T)) (.inr fun e d a b _=>⟨{a with heap:=a.heap.setIfInBounds x k},b.set x U,?_⟩);rcases b.at_ x J A with h|⟨_,l,h,R⟩
    ·exact t P' (sh e d a) J (fun r o y h=>q ⟨r,o,y,h⟩) h
    ·exact t P' (sh e d a) l (fun r o y h=>by rw[h] at R;simp[jk] at R) h
 |choose V p u=>
  intro w es i g;by_cases H:V.forced=R7
  ·exact(u 0 w es (i _) g).cons 0 (by simp only[S1,H,if_true]) rfl rfl (R8 _) rfl rfl (fun h n=>.inl n) (.inr fun e d a b _=>⟨a,b.two,by simp only[S1,H,if_true];rfl⟩)
  ·refine(u (V.cut (w.tape w.drawn V)) {w with drawn:=w.drawn+1} es (i _) g).cons 1 (by simp only[S1,H,if_false];rfl) rfl rfl (R8 _) rfl rfl (fun h n=>.inl n) (.inr fun e d a b a6=>⟨a,⟨⟨b.size,b.at_,b.os,b.output⟩,fun a1 a7=>⟨a7,rfl⟩⟩,?_⟩);have:=a6 0 V (by omega);simp only[Nat.add_zero] at this;simp only[S1,H,if_false];have h:(sh e d a).tape (sh e d a).drawn V=w.tape w.drawn V:=this;rw[h];rfl
 |sys r p u=>
  intro w es i g;obtain⟨rfl,i⟩:=i;exact(u (.strings w.os.env) w (es.push ⟨.output,R7,R6⟩) (i _) g).cons 0 rfl rfl rfl (R8 _) rfl rfl (lX (by simp[yN])) (.inr fun e d a b _=>⟨a,b.two,by
   show(p (.strings a.os.env)).runT P' (sh e d a) _=_;rw[b.os];rfl⟩)
 |program p u=>
  intro w es i g;exact(u P w es i.2 g).cons 0 rfl rfl rfl (R8 _) rfl rfl (fun h n=>.inl n) (.inr fun e d a b _=>⟨a,b.two,by
   show(p P').runT P' (sh e d a) es=_;rw[← i.1];rfl⟩)
 |mark m p u=>intro w es i g;exact(u w _ i.2 g).cons 0 rfl rfl rfl (R8 _) rfl rfl (lX i.1) (.inr fun e d a b _=>⟨a,b.two,rfl⟩)
 |halt l=>intro w es i g;exact iW.ends (x:=l) rfl i g (.inr fun e d a b=>rfl)
structure Twin(P P':Sd):Prop where
 info:∀ t,P'.info? t=P.info? t
 sI:∀ t,P'.underlying t=P.underlying t
 rt:P'.rt=P.rt
 cells:∀ t,P'.cellsOf t=P.cellsOf t
 bytes:∀ t,P'.bytesOf t=P.bytesOf t
 depth:P'.depth=P.depth
 j9:∀ d e c o u n,liesAt P' d e c o u n=liesAt P d e c o u n
 cellAt:∀ d e c o b,cellAtBytes P' d e c o b=cellAtBytes P d e c o b
 AO:∀ d t o,byteOfCell P' d t o=byteOfCell P d t o
 QY:∀ d t,P'.eqGuardType d t=P.eqGuardType d t
 GP:∀ t,P'.stoodInHeld t=P.stoodInHeld t
 Ln:∀ d t,P'.holdsPacked d t=P.holdsPacked d t
 wT:P'.globals=P.globals
 godebug:P'.godebug=P.godebug
 RE:P'.types=P.types
 O6:∀ f:Nat,P'.funcs[f]? =P.funcs[f]? ∨∃ fn fn':UB,P.funcs[f]? =RX fn∧P'.funcs[f]? =RX fn'∧fn'.name=fn.name∧fn.body.isNone=R6∧fn'.body.isNone=R6
section
variable {P P':Sd}{O:U9→Prop}{α β:Type}
abbrev St(P P':Sd)(O:U9→Prop)(s:Ul α):Prop:=Still P P' O (fun _=>True) s
def gR{Q:α→Prop}{R:β→Prop}{s:Ul α}{f:α→Ul β}(c:Still P P' O Q s)(b:∀ a,Q a→Still P P' O R (f a)):Still P P' O R (s >>= f):=Still.bind P P' O b c
def af{R:β→Prop}{s:Ul α}{f:α→Ul β}(c:St P P' O s)(b:∀ a,Still P P' O R (f a)):Still P P' O R (s >>= f):=Still.bind P P' O (fun a _=>b a) c
def bF{Q:α→Prop}{c:Prop} [Decidable c]{s t:Ul α}(a:Still P P' O Q s)(b:Still P P' O Q t):Still P P' O Q (if c then s else t):=by split<;>assumption
def Rs{Q:α→Prop}{s:Ul α}(a:Still P P' O Q s):St P P' O s:=a.mono P P' O (fun _ _=>trivial)
def bU{Q:α→Prop}{f:Sd→Ul α}(h:f P=f P')(a:Still P P' O Q (f P)):Still P P' O Q (program >>= f):=⟨h,a⟩
def aq{Q:α→Prop}(s:String):Still P P' O Q (stuck s):=rfl
def aO{Q:α→Prop}(u:Unsupported)(h:oz (.unsupported u)=R7):Still P P' O Q (unsupported u):=h
def nX{Q:α→Prop}(v:R2):Still P P' O Q (goPanic v):=rfl
def sr(a:SL)(m:Mode):St P P' O (load a m):=fun _=>trivial
def L7(a:SL)(v:R2)(m:Mode):St P P' O (store a v m):=trivial
def fT(r:Nat):St P P' O (shape r):=fun _=>trivial
def tY(a:SL):St P P' O (frozen a):=fun _=>trivial
def Am(a:SL)(n:Nat):St P P' O (freeze a n):=trivial
def cz(q:Question):St P P' O (choose q):=fun _=>trivial
def iN{R:β→Prop}(r:Nat){f:U9→Ul β}(a:∀ o,O o→Still P P' O R (f o))(b:Gx f):Still P P' O R (getObj r >>= f):=⟨a,b⟩
def oT{f:U9→Ul β}{s:String}(h:f pz= .halt (.stuck s)):Gx f:=.inl ⟨s,h⟩
def Gq{f:U9→Ul β}(h1:∀ r,f (.loop r)=f pz)(a:∀ d,f (.deferred d)=f pz)(b:∀ c t,f (.pending c t)=f pz)(e:∀ x,f (.coro x)=f pz):Gx f:=.inr ⟨h1,a,b,e⟩
def lz(r:Nat){o:U9}(h:O o):St P P' O (setObj r o):=⟨h,trivial⟩
def lu{o:U9}(h:O o):St P P' O (newObj o):=⟨h,fun _=>trivial⟩
def Ap:St P P' O (mark .noRoom):=⟨.inl rfl,trivial⟩
def ye(n:Nat):St P P' O (askRoom n):=by unfold askRoom;split;exact Ap;exact trivial
def nU(v:R2):St P P' O (asIntOf v):=by unfold asIntOf;split<;>first|exact trivial|exact aq _|exact rfl
def kx(v:R2):St P P' O (asInt v):=af (nU v) (fun _=>trivial)
def tU(v:R2):St P P' O (asBool v):=by unfold asBool;split<;>first|exact trivial|exact aq _
def pi(v:R2):St P P' O (asString v):=by unfold asString;split<;>first|exact trivial|exact aq _
def yd(v:R2):St P P' O (asAgg v):=by unfold asAgg;split<;>first|exact trivial|exact aq _
def bq(a:Twin P P')(t:Sg):St P P' O (UX t):=by
 unfold UX;refine bU (by rw[a.info]) ?_
 split
 ·exact trivial
 ·exact aq _
def aB(a:Twin P P')(t:Sg):St P P' O (U3 t):=by
 unfold U3;refine bU (by rw[a.sI]) ?_
 split
 ·exact trivial
 ·exact aq _
def eM(a:Twin P P')(t:Sg):St P P' O (T9 t):=by
 unfold T9;refine af (bq a t) fun b=>?_
 split
 ·exact trivial
 ·exact aO _ rfl
def bD(a:Twin P P')(t:Sg):St P P' O (V3 t):=af (bq a t) (fun _=>trivial)
def DN(a:Twin P P')(t:Sg):St P P' O (isAgg t):=by
 unfold isAgg;refine af (aB a t) fun b=>?_
 split<;>exact trivial
def ru(a:Twin P P')(t:Sg):St P P' O (typeStr t):=by
 unfold typeStr;refine af (bq a t) fun b=>?_;dsimp only
 split
 ·exact aO _ rfl
 ·exact trivial
def tW(a:Twin P P')(t:Sg):St P P' O (elemOf t):=by
 unfold elemOf;refine af (aB a t) fun b=>?_
 split
 ·exact trivial
 ·exact aq _
theorem nu(a:SL):∀ (n i:Nat) (b:Array R2),St P P' O (loadCellsFrom a i n b)
 |0,i,b=>trivial
 |n+1,i,b=>af (sr _ _) (fun v=>nu a n (i+1) (b.push v))
def nY(a:SL)(n:Nat):St P P' O (loadCells a n):=nu a n 0 #[]
theorem iF(a:SL):∀ (vs:List R2) (i:Nat),St P P' O (storeCells a vs i)
 | [],i=>trivial
 |v :: b,i=>af (L7 _ _ _) (fun _=>iF a b (i+1))
def iU(a:Plain O)(e:Sg)(c:Array R2):St P P' O (newRow e c):=af (lu (a.cells c e (0,0))) (fun _=>trivial)
def Ao(a:Plain O)(e:Sg)(v:R2):St P P' O (newVar e v):=iU a e v.cells
def fY(a:Twin P P')(t:Sg)(cs:Array R2)(off:Nat):St P P' O (part t cs off):=by
 unfold part;refine af (DN a t) fun b=>?_
 split
 ·exact af (bD a t) fun _=>trivial
 ·split
  ·exact trivial
  ·exact aq _
def nZ(b:Twin P P')(t:Sg)(a:SL):St P P' O (loadVar t a):=by
 unfold loadVar;refine af (DN b t) fun c=>?_
 split
 ·exact af (bD b t) fun _=>af (nY _ _) fun _=>trivial
 ·exact sr _ _
def uR(b:Twin P P')(t:Sg)(a:SL)(v:R2):St P P' O (storeVar t a v):=by
 unfold storeVar;refine af (bD b t) fun c=>?_;dsimp only
 split
 ·exact af (aq _) fun _=>iF _ _ _
 ·exact iF _ _ _
def bz(a:Twin P P')(b:Plain O){Q:α→Prop}(e:RuntimeError):Still P P' O Q (runtimePanic e):=by
 unfold runtimePanic;refine bU ?_ ?_
 ·dsimp only;rw[a.rt];cases e<;>first|rfl|(simp only[typeHandle,a.wT])
 ·dsimp only;cases e with
  |typeAssertion f d c m=>exact af (tW a _) fun _=>af (Ao b _ _) fun _=>nX _
  |panicNil=>exact af (tW a _) fun _=>af (Ao b _ _) fun _=>nX _
  |_=>exact nX _
def nt(b:Twin P P')(a:Plain O)(v:R2):St P P' O (asAddr v):=by
 unfold asAddr
 split
 ·exact trivial
 ·exact bz b a _
 ·exact aq _
def l9(b:Twin P P')(a:Plain O){Q:α→Prop}(k:Uo)(x y:Int)(c:BoundsCode):Still P P' O Q (boundsPanic k x y c):=by
 unfold boundsPanic;dsimp only
 split
 ·exact af (af (cz _) fun _=>trivial) fun _=>bz b a _
 ·exact af trivial fun _=>bz b a _
def Ar(b:Twin P P')(a:Plain O)(r:Nat):St P P' O (viewAt r):=by unfold viewAt;((try dsimp only);repeat' first|exact fT _|(refine iN _ (fun _ _=>?_) ?_)|exact Gq (fun _=>rfl) (fun _=>rfl) (fun _ _=>rfl) (fun _=>rfl)|assumption|(refine af ?_ (fun _=>?_))|(refine bF ?_ ?_)|intro _|split|(dsimp only)|exact trivial)
def uP(b:Twin P P')(a:Plain O)(r:Nat):St P P' O (numberAt r):=by unfold numberAt;((try dsimp only);repeat' first|exact fT _|(refine iN _ (fun _ _=>?_) ?_)|exact Gq (fun _=>rfl) (fun _=>rfl) (fun _ _=>rfl) (fun _=>rfl)|assumption|(refine af ?_ (fun _=>?_))|(refine bF ?_ ?_)|intro _|split|(dsimp only)|exact trivial)
def dH(b:Twin P P')(a:Plain O)(n:SL):St P P' O (Us n):=by unfold Us;((try dsimp only);repeat' first|exact uP b a _|assumption|(refine af ?_ (fun _=>?_))|intro _|split|(dsimp only)|exact trivial)
def Aq(c:Twin P P')(b:Plain O)(a:SL):St P P' O (noView a):=by unfold noView;((try dsimp only);repeat' first|(refine aO _ ?_;rfl)|exact Ar c b _|assumption|(refine af ?_ (fun _=>?_))|(refine bF ?_ ?_)|intro _|split|(dsimp only)|exact trivial)
def ny(c:Twin P P')(b:Plain O)(a:SL):St P P' O (markStringish a):=by unfold markStringish;((try dsimp only);repeat' first|exact fT _|exact Am _ _|assumption|(refine af ?_ (fun _=>?_))|intro _|split|(dsimp only)|exact trivial)
def BJ(c:Twin P P')(b:Plain O)(a:SL):St P P' O (stringish a):=by unfold stringish;((try dsimp only);repeat' first|exact fT _|exact tY _|assumption|(refine af ?_ (fun _=>?_))|(refine bF ?_ ?_)|intro _|split|(dsimp only)|exact trivial)
def DQ(d:Twin P P')(c:Plain O)(a b:SL):St P P' O (mayBeOne a b):=by unfold mayBeOne;((try dsimp only);repeat' first|exact fT _|exact BJ d c _|assumption|(refine af ?_ (fun _=>?_))|intro _|split|(dsimp only)|exact trivial)
def uQ(d:Twin P P')(c:Plain O)(a b:SL):St P P' O (sameAddr a b):=by unfold sameAddr;((try dsimp only);repeat' first|exact tY _|exact cz _|(refine aO _ ?_;rfl)|exact DQ d c _ _|exact Aq d c _|assumption|(refine af ?_ (fun _=>?_))|(refine bF ?_ ?_)|intro _|split|(dsimp only)|exact trivial)
def yq(d:Twin P P')(c:Plain O)(a b:Option SL):St P P' O (samePointer a b):=by unfold samePointer;((try dsimp only);repeat' first|exact uQ d c _ _|assumption|intro _|split|(dsimp only)|exact trivial)
def p8(b:Twin P P')(c:Plain O)(a:SL):St P P' O (byteOf a):=by
 unfold byteOf;dsimp only
 split
 ·exact trivial
 ·refine bU (by simp only[b.cells,b.bytes,b.AO,b.depth]) ?_
  ((try dsimp only);repeat' first|exact aq _|exact fT _|exact Aq b c _|assumption|(refine af ?_ (fun _=>?_))|(refine bF ?_ ?_)|intro _|split|(dsimp only)|exact trivial)
def Jr(e:Twin P P')(d:Plain O)(a:SL)(c b:Nat):St P P' O (partAt a c b):=by unfold partAt;((try dsimp only);repeat' first|exact p8 e d _|assumption|(refine af ?_ (fun _=>?_))|intro _|split|(dsimp only)|exact trivial)
def qK(b:Twin P P')(c:Plain O)(a:SL)(f:Field):St P P' O (fieldPlace a f):=by unfold fieldPlace;((try dsimp only);repeat' first|exact bD b _|exact Jr b c _ _ _|assumption|(refine af ?_ (fun _=>?_))|(refine bF ?_ ?_)|intro _|split|(dsimp only)|exact trivial)
def yu(b:Twin P P')(c:Plain O)(a:SL)(u:Sg)(n:Nat):St P P' O (variablesAt a u n):=by
 unfold variablesAt;refine bU (by simp only[b.cells,b.j9,b.depth]) ?_
 ((try dsimp only);repeat' first|exact fT _|assumption|(refine af ?_ (fun _=>?_))|intro _|split|(dsimp only)|exact trivial)
def BF(e:Twin P P')(d:Plain O)(a:SL)(b:ByteArray)(n:Nat):St P P' O (loadBytes a b n):=by
 induction n generalizing a b with
 |zero=>exact trivial
 |succ n c=>unfold loadBytes;((try dsimp only);repeat' first|exact aq _|exact sr _ _|exact c _ _|assumption|(refine af ?_ (fun _=>?_))|intro _|split|(dsimp only)|exact trivial)
theorem BE{γ:Type}{f:α→γ→Ul (ForInStep γ)}:∀ (l:List α) (b:γ),(∀ x b,St P P' O (f x b))→St P P' O (forIn l b f)
 | [],b,a=>by simp only[List.forIn_nil];exact trivial
 |x :: l,b,a=>by
  simp only[List.forIn_cons];refine af (a x b) fun s=>?_;cases s with
  |done b=>exact trivial
  |yield b=>exact BE l b a
def nW{γ:Type}{f:α→γ→Ul (ForInStep γ)}(l:Array α)(b:γ)(h:∀ x b,St P P' O (f x b)):St P P' O (forIn l b f):=by
 rw[← Array.forIn_toList];exact BE _ _ h
def qc{γ:Type}{f:Nat→γ→Ul (ForInStep γ)}(n:Nat)(b:γ)(h:∀ x b,St P P' O (f x b)):St P P' O (forIn [0:n] b f):=by
 rw[Tz];exact BE _ _ h
theorem GN(g:α→Ul β):∀ (l:List α),(∀ x,St P P' O (g x))→St P P' O (l.mapM g)
 | [],a=>by rw[List.mapM_nil];exact trivial
 |x :: l,a=>by
  rw[List.mapM_cons];exact af (a x) fun _=>af (GN g l a) fun _=>trivial
def GM(g:α→Ul β)(l:Array α)(h:∀ x,St P P' O (g x)):St P P' O (l.mapM g):=by
 rw[Array.mapM_eq_mapM_toList];exact af (GN g _ h) fun _=>trivial
theorem DK{γ:Type}(g:γ→α→Ul γ):∀ (l:List α) (b:γ),(∀ b x,St P P' O (g b x))→St P P' O (l.foldlM g b)
 | [],b,a=>trivial
 |x :: l,b,a=>by
  rw[List.foldlM_cons];exact af (a b x) fun _=>DK g l _ a
def kA(v:R2):St P P' O (UR v):=by unfold UR;split<;>first|exact trivial|exact aq _
def LW(a:Twin P P')(b:Plain O)(e:Sg)(h:Bool)(v:R2):St P P' O (Instr.alloc e h v):=by unfold Instr.alloc;((try dsimp only);repeat' first|exact eM a _|exact uR a _ _ _|exact iU b _ _|assumption|(refine af ?_ (fun _=>?_))|intro _|split|(dsimp only)|exact trivial)
def PL(b:Twin P P')(a:Plain O)(e:Sg)(v:R2):St P P' O (Instr.box e v):=by unfold Instr.box;((try dsimp only);repeat' first|exact iU a _ _|assumption|(refine af ?_ (fun _=>?_))|intro _|split|(dsimp only)|exact trivial)
theorem LY(a:Twin P P')(b:Plain O)(t:Sg)(ps:Array (Nat×R2)):St P P' O (Instr.build t ps):=by
 unfold Instr.build;refine af (eM a t) fun e=>?_;dsimp only;refine af (aB a t) fun d=>?_
 split
 ·refine af (GM _ _ fun f=>af (bD a _) fun _=>trivial) fun c=>?_
  ((try dsimp only);repeat' first|exact aB a _|exact eM a _|exact bD a _|exact aq _|assumption|(refine af ?_ (fun _=>?_))|intro _|split|(dsimp only)|exact trivial)
 ·((try dsimp only);repeat' first|exact aB a _|exact eM a _|exact bD a _|exact aq _|assumption|(refine af ?_ (fun _=>?_))|intro _|split|(dsimp only)|exact trivial)
 ·exact aq _
def zo(a:Twin P P')(b:Plain O)(t:Sg)(n:Nat)(ps:Array (Nat×R2)):St P P' O (UK t n ps):=by unfold UK;((try dsimp only);repeat' first|exact aB a _|exact eM a _|exact bD a _|exact aq _|(refine aO _ ?_;rfl)|exact iU b _ _|assumption|(refine af ?_ (fun _=>?_))|(refine bF ?_ ?_)|intro _|split|(dsimp only)|exact trivial)
def Jp(a:Twin P P')(b:Plain O)(t:Sg)(v:R2):St P P' O (Instr.loadAt t v):=by unfold Instr.loadAt;((try dsimp only);repeat' first|exact nZ a _ _|exact kA _|assumption|(refine af ?_ (fun _=>?_))|intro _|split|(dsimp only)|exact trivial)
def FP(b:Twin P P')(c:Plain O)(t:Sg)(a v:R2):St P P' O (Instr.storeAt t a v):=by unfold Instr.storeAt;((try dsimp only);repeat' first|exact uR b _ _ _|exact kA _|assumption|(refine af ?_ (fun _=>?_))|intro _|split|(dsimp only)|exact trivial)
def FJ(b:Twin P P')(c:Plain O)(t:Sg)(a:R2)(f:Nat):St P P' O (Instr.fieldAt t a f):=by unfold Instr.fieldAt;((try dsimp only);repeat' first|exact aB b _|exact aq _|exact kA _|exact qK b c _ _|assumption|(refine af ?_ (fun _=>?_))|intro _|split|(dsimp only)|exact trivial)
def FK(b:Twin P P')(c:Plain O)(t:Sg)(a i:R2):St P P' O (Instr.indexAt t a i):=by unfold Instr.indexAt;((try dsimp only);repeat' first|exact aB b _|exact bD b _|exact aq _|(refine aO _ ?_;rfl)|exact nU _|exact l9 b c _ _ _ _|exact kA _|assumption|(refine af ?_ (fun _=>?_))|(refine bF ?_ ?_)|intro _|split|(dsimp only)|exact trivial)
def zv(b:Twin P P')(a:Plain O)(x:R2)(y:Nat)(c:BoundsCode):St P P' O (Instr.sliceBound x y c):=by unfold Instr.sliceBound;((try dsimp only);repeat' first|exact nU _|exact l9 b a _ _ _ _|assumption|(refine af ?_ (fun _=>?_))|(refine bF ?_ ?_)|intro _|split|(dsimp only)|exact trivial)
def pE(e:Twin P P')(d:Plain O)(s:Bool)(l c:Nat)(a b m:Option R2):St P P' O (Instr.sliceBounds s l c a b m):=by unfold Instr.sliceBounds;((try dsimp only);repeat' first|exact aq _|exact zv e d _ _ _|assumption|(refine af ?_ (fun _=>?_))|intro _|split|(dsimp only)|exact trivial)
def L6(c:Twin P P')(d:Plain O)(t:Sg)(x:R2)(a b m:Option R2):St P P' O (Instr.slice t x a b m):=by unfold Instr.slice;((try dsimp only);repeat' first|exact aB c _|exact bD c _|exact aq _|exact nt c d _|exact pE c d _ _ _ _ _ _|assumption|(refine af ?_ (fun _=>?_))|(refine bF ?_ ?_)|intro _|split|(dsimp only)|exact trivial)
def FO(c:Twin P P')(d:Plain O)(t:Sg)(x:R2)(a b m:Option R2):St P P' O (Instr.sliceAt t x a b m):=by unfold Instr.sliceAt;((try dsimp only);repeat' first|exact aB c _|exact bD c _|exact pE c d _ _ _ _ _ _|exact L6 c d _ _ _ _ _|exact kA _|assumption|(refine af ?_ (fun _=>?_))|intro _|split|(dsimp only)|exact trivial)
def ua(a:Twin P P')(b:Plain O)(t:Sg)(x:R2):St P P' O (Instr.makeInterface t x):=by unfold Instr.makeInterface;((try dsimp only);repeat' first|exact aB a _|exact aq _|assumption|(refine af ?_ (fun _=>?_))|intro _|split|(dsimp only)|exact trivial)
def BG(c:Twin P P')(d:Plain O)(t:Sg)(a b:R2):St P P' O (Vx t a b):=by unfold Vx;((try dsimp only);repeat' first|exact bq c _|exact aB c _|exact eM c _|exact bD c _|exact aq _|exact bz c d _|exact cz _|exact kx _|exact iU d _ _|exact ye _|assumption|(refine af ?_ (fun _=>?_))|(refine bF ?_ ?_)|intro _|split|(dsimp only)|exact trivial)
def FN(b:Twin P P')(d:Plain O)(a:∀ e c,O (.map e c))(t:Sg)(r:Option R2):St P P' O (Instr.makeMap t r):=by unfold Instr.makeMap;((try dsimp only);repeat' first|exact aB b _|exact aq _|exact kx _|exact lu (a _ _)|assumption|(refine af ?_ (fun _=>?_))|intro _|split|(dsimp only)|exact trivial)
def L1(a:Twin P P')(b:Plain O)(t:Sg)(x:R2)(f:Nat):St P P' O (Instr.field t x f):=by unfold Instr.field;((try dsimp only);repeat' first|exact aB a _|exact aq _|exact yd _|exact fY a _ _ _|assumption|(refine af ?_ (fun _=>?_))|intro _|split|(dsimp only)|exact trivial)
def L2(a:Twin P P')(b:Plain O)(t:Sg)(x i:R2):St P P' O (Instr.index t x i):=by unfold Instr.index;((try dsimp only);repeat' first|exact aB a _|exact bD a _|exact aq _|exact nU _|exact l9 a b _ _ _ _|exact fY a _ _ _|assumption|(refine af ?_ (fun _=>?_))|(refine bF ?_ ?_)|intro _|split|(dsimp only)|exact trivial)
def FI(v:R2)(i:Nat):St P P' O (Instr.extract v i):=by
 unfold Instr.extract
 split
 ·split
  ·exact trivial
  ·exact aq _
 ·exact aq _
def DS(a:Twin P P'):St P P' O Instr.panicnil:=by
 unfold Instr.panicnil;refine af ⟨rfl,fun _=>trivial⟩ fun b=>?_
 split
 ·dsimp only;exact bU (by rw[a.godebug]) trivial
 ·exact aq _
def L3(a:Twin P P')(b:Plain O)(x:R2):St P P' O (Instr.panic x):=by unfold Instr.panic;((try dsimp only);repeat' first|exact aq _|exact bz a b _|exact nX _|exact DS a|assumption|(refine af ?_ (fun _=>?_))|(refine bF ?_ ?_)|intro _|split|(dsimp only)|exact trivial)
end
section
variable {P P':Sd}{O:U9→Prop}{α β:Type}
def uN(a:V5)(k:Uo)(x y:Int):St P P' O (Op.intArith a k x y):=by unfold Op.intArith;split<;>first|exact trivial|exact aq _
def Jo(b:Twin P P')(a:Plain O)(c:V5)(k:Uo)(x y:Int):St P P' O (Op.intDiv c k x y):=by unfold Op.intDiv;((try dsimp only);repeat' first|exact aq _|exact bz b a _|assumption|(refine bF ?_ ?_)|intro _|split|(dsimp only)|exact trivial)
def yj(a:V5)(k:Uo)(x y:Int):St P P' O (Op.intBits a k x y):=by unfold Op.intBits;dsimp only;split<;>first|exact trivial|exact aq _
def Jn(a:V5)(x y:Int):St P P' O (Op.intCmp a x y):=by unfold Op.intCmp;split<;>first|exact trivial|exact aq _
def L4(b:Twin P P')(a:Plain O)(c:V5)(k:Uo)(x:Int)(d:Uo)(y:Int):St P P' O (Op.shift c k x d y):=by unfold Op.shift;((try dsimp only);repeat' first|exact aq _|exact bz b a _|assumption|(refine bF ?_ ?_)|intro _|split|(dsimp only)|exact trivial)
def qM(a:V5)(k:FloatKind)(x y:Nat):St P P' O (Op.floatArith a k x y):=by
 unfold Op.floatArith;dsimp only
 split
 all_goals first|exact af (aq _) fun _=>(by split<;>first|exact trivial|exact af (cz _) fun _=>trivial)|exact af trivial fun _=>(by split<;>first|exact trivial|exact af (cz _) fun _=>trivial)
def uM(a:V5)(k:FloatKind)(x y:Nat):St P P' O (Op.floatCmp a k x y):=by unfold Op.floatCmp;dsimp only;split<;>first|exact trivial|exact aq _
def vu(s:FloatKind)(b:Nat)(d:FloatKind):St P P' O (Conv.floatToFloat s b d):=by
 unfold Conv.floatToFloat
 (try dsimp only)
 repeat' first|exact trivial|exact aq _|exact cz _|refine af ?_ (fun _=>?_)|intro _|split|dsimp only
def p9(a:V5)(k:FloatKind)(x y:Nat):St P P' O (Wx a k x y):=by
 unfold Wx;refine af (qM _ _ _ _) fun _=>?_
 split<;>first|exact trivial|exact aq _
def BB(a:V5)(k:FloatKind)(x y:Nat):St P P' O (WB a k x y):=by
 unfold WB;exact af (uM _ _ _ _) fun _=>tU _
def kz(s:FloatKind)(b:Nat)(d:FloatKind):St P P' O (Wy s b d):=by
 unfold Wy
 split
 ·exact trivial
 ·refine af (vu _ _ _) fun _=>?_
  split<;>first|exact trivial|exact aq _
def LZ(a b c d:Nat):St P P' O (Wu a b c d):=by
 unfold Wu WD WC WA
 repeat' first|exact trivial|exact p9 _ _ _ _|refine af ?_ (fun _=>?_)
def L0(a b c d:Nat):St P P' O (Ws a b c d):=by
 unfold Ws WE WD WC WA WO
 repeat' first|exact p9 _ _ _ _|exact BB _ _ _ _|refine af ?_ (fun _=>?_)|split|dsimp only|exact trivial
theorem BC(e:V5)(k:FloatKind)(a b c d:Nat):St P P' O (Op.complexOp e k a b c d):=by
 unfold Op.complexOp
 split
 all_goals first
  |exact af (p9 _ _ _ _) fun _=>af (p9 _ _ _ _) fun _=>trivial
  |exact af (BB _ _ _ _) fun _=>af (BB _ _ _ _) fun _=>trivial
  |exact aq _
  |(refine af (kz _ _ _) fun _=>af (kz _ _ _) fun _=>af (kz _ _ _) fun _=>af (kz _ _ _) fun _=>?_;dsimp only
    split
    ·exact af (LZ _ _ _ _) fun _=>af (kz _ _ _) fun _=>af (kz _ _ _) fun _=>trivial
    ·exact af (L0 _ _ _ _) fun _=>af (kz _ _ _) fun _=>af (kz _ _ _) fun _=>trivial)
def uS(a:V5)(x y:ByteArray):St P P' O (Op.stringOp a x y):=by
 unfold Op.stringOp
 repeat' first|exact trivial|exact aq _|exact aO _ rfl|split|dsimp only
def L8(a:UnOp)(x:R2):St P P' O (Op.unary a x):=by
 unfold Op.unary
 repeat' first|exact trivial|exact aq _|exact aO _ rfl|exact uN _ _ _ _|exact yj _ _ _ _|split|dsimp only
def su(c:Twin P P')(d:Plain O)(a b:SL):St P P' O (Op.twoPlaces a b):=by
 unfold Op.twoPlaces;refine bU (by rw[c.wT]) ?_
 ((try dsimp only);repeat' first|(refine aO _ ?_;rfl)|exact p8 c d _|assumption|(refine af ?_ (fun _=>?_))|(refine bF ?_ ?_)|intro _|split|(dsimp only)|exact trivial)
def FB(d:Twin P P')(c:Plain O)(k:Uo)(a b:SL):St P P' O (Op.addrSub k a b):=by unfold Op.addrSub;((try dsimp only);repeat' first|exact su d c _ _|assumption|(refine af ?_ (fun _=>?_))|intro _|split|(dsimp only)|exact trivial)
def Fz(d:Twin P P')(c:Plain O)(k:V5)(a b:SL):St P P' O (Op.addrCmp k a b):=by unfold Op.addrCmp;((try dsimp only);repeat' first|(refine aO _ ?_;rfl)|exact su d c _ _|assumption|(refine af ?_ (fun _=>?_))|intro _|split|(dsimp only)|exact trivial)
def FA(b:Twin P P')(c:Plain O)(k:Uo)(a:SL)(n:Int):St P P' O (Op.addrMod k a n):=by unfold Op.addrMod;((try dsimp only);repeat' first|exact bq b _|exact fT _|(refine aO _ ?_;rfl)|exact p8 b c _|assumption|(refine af ?_ (fun _=>?_))|(refine bF ?_ ?_)|intro _|split|(dsimp only)|exact trivial)
theorem sw(b:Twin P P')(k:Plain O)(o:Array Sg)(t:Sg)(d:Array R2):St P P' O (U0 o t d):=by
 have f:∀ s:String,St P P' O (stuck s:Ul R2):=fun s=>aq s;unfold U0;obtain⟨h⟩:=d;rcases h with _|⟨a,_|⟨p,_|⟨q,h⟩⟩⟩
 case cons.cons.nil=>
  cases a with
  |pointer n=>
   dsimp only;refine af (kx _) fun l=>?_
   split
   ·((try dsimp only);repeat' first|exact aq _|exact fT _|(refine aO _ ?_;rfl)|exact kx _|exact Ar b k _|assumption|(refine af ?_ (fun _=>?_))|(refine bF ?_ ?_)|intro _|split|(dsimp only)|exact trivial)
   ·have g:St P P' O (match n with
     |some a=>do
      let i ← shape a.block
      match i with
       |some (e,j)=>do
        let c ← program
        match cellAtBytes c c.depth e (j / c.cellsOf e) a.off l with
         |some m=>pure (Value.pointer (RX {block:=a.block,off:=m,spot:=a.spot}))
         |none=>unsupported (V7 "Add")
       |x=>unsupported (V7 "Add")
     |x=>unsupported (V7 "Add"):Ul R2):=by
     split
     ·refine af (fT _) fun s=>?_
      split
      ·refine bU (by simp only[b.cells,b.cellAt,b.depth]) ?_
       ((try dsimp only);repeat' first|exact aq _|exact fT _|(refine aO _ ?_;rfl)|exact kx _|assumption|(refine af ?_ (fun _=>?_))|(refine bF ?_ ?_)|intro _|split|(dsimp only)|exact trivial)
      ·exact aO _ rfl
     ·exact aO _ rfl
    split
    ·exact af (aO _ rfl) fun _=>g
    ·exact g
  |_=>exact f _
 all_goals exact f _
def DF(c:∀ a b,O (.number a b))(a:SL)(l:Bool):St P P' O (asNumber a l):=af (lu (c _ _)) fun _=>trivial
def px(c:Twin P P')(d:Plain O)(e:∀ a b,O (.number a b))(t:Sg)(x y:R2):St P P' O (movedNumber t x y):=by unfold movedNumber;((try dsimp only);repeat' first|exact aB c _|(refine aO _ ?_;rfl)|exact sw c d _ _ _|exact dH c d _|exact DF e _ _|assumption|(refine af ?_ (fun _=>?_))|(refine bF ?_ ?_)|intro _|split|(dsimp only)|exact trivial)
def vv(b:Twin P P')(a:Plain O)(t:Sg)(x y:R2):St P P' O (movedPointer t x y):=by unfold movedPointer;((try dsimp only);repeat' first|(refine aO _ ?_;rfl)|exact sw b a _ _ _|exact uP b a _|assumption|(refine af ?_ (fun _=>?_))|(refine bF ?_ ?_)|intro _|split|(dsimp only)|exact trivial)
theorem yg(a:Twin P P')(b:Plain O):∀ (d:Nat) (t:Sg) (x y:R2),St P P' O (Op.equalIn d t x y)
 |0,t,x,y=>aO _ rfl
 |d+1,t,x,y=>by
  have c:=yg a b d;unfold Op.equalIn;refine af (aB a t) fun h=>?_
  split
  all_goals first
   |exact trivial
   |exact aq _
   |exact aO _ rfl
   |exact yq a b _ _
   |exact bF trivial (aq _)
   |(refine af (dH a b _) fun e=>?_;refine af (dH a b _) fun f=>?_;dsimp only;refine bU (by rw[a.wT]) ?_
     ((try dsimp only);repeat' first|exact bq a _|exact aB a _|exact bD a _|exact aq _|exact bz a b _|exact cz _|(refine aO _ ?_;rfl)|exact fY a _ _ _|exact p8 a b _|assumption|(refine af ?_ (fun _=>?_))|(refine bF ?_ ?_)|intro _|split|(dsimp only)|exact trivial))
   |(refine af (bD a _) fun g=>?_
     ((try dsimp only);repeat' first|exact bq a _|exact aB a _|exact bD a _|exact aq _|exact bz a b _|exact cz _|(refine aO _ ?_;rfl)|exact fY a _ _ _|exact uQ a b _ _|assumption|(refine af ?_ (fun _=>?_))|(refine bF ?_ ?_)|intro _|split|(dsimp only)|exact trivial))
   |skip
  ·refine bF trivial ?_;refine af (bq a _) fun info=>?_;dsimp only
   split
   ·refine bU (by simp only[a.Ln]) ?_;refine bU (by simp only[a.depth]) ?_
    ((try dsimp only);repeat' first|exact bq a _|exact aB a _|exact bD a _|exact aq _|exact bz a b _|exact cz _|(refine aO _ ?_;rfl)|exact fY a _ _ _|exact ru a _|assumption|(refine af ?_ (fun _=>?_))|(refine bF ?_ ?_)|intro _|split|(dsimp only)|exact trivial)
   ·exact c _ _ _
  ·refine bU (by rw[a.GP]) ?_
   ((try dsimp only);repeat' first|exact bq a _|exact aB a _|exact bD a _|exact aq _|exact bz a b _|exact cz _|(refine aO _ ?_;rfl)|exact fY a _ _ _|exact c _ _ _|assumption|(refine nW _ _ (fun _ _=>?_))|(refine qc _ _ (fun _ _=>?_))|(refine af ?_ (fun _=>?_))|(refine bF ?_ ?_)|intro _|split|(dsimp only)|exact trivial)
  ·((try dsimp only);repeat' first|exact bq a _|exact aB a _|exact bD a _|exact aq _|exact bz a b _|exact cz _|(refine aO _ ?_;rfl)|exact fY a _ _ _|exact c _ _ _|assumption|(refine nW _ _ (fun _ _=>?_))|(refine qc _ _ (fun _ _=>?_))|(refine af ?_ (fun _=>?_))|(refine bF ?_ ?_)|intro _|split|(dsimp only)|exact trivial)
def DI(b:Twin P P')(a:Plain O)(t:Sg)(x y:R2):St P P' O (Op.equal t x y):=yg b a _ t x y
theorem nV(a:Twin P P')(c:Plain O):∀ (d:Nat) (t:Sg) (x y:R2),St P P' O (Op.eqGuardIn d t x y)
 |0,t,x,y=>aO _ rfl
 |d+1,t,x,y=>by
  have b:=nV a c d;unfold Op.eqGuardIn;refine af (aB a t) fun e=>?_
  split
  ·exact trivial
  ·((try dsimp only);repeat' first|exact aB a _|exact bD a _|(refine aO _ ?_;rfl)|exact fY a _ _ _|exact b _ _ _|assumption|(refine nW _ _ (fun _ _=>?_))|(refine qc _ _ (fun _ _=>?_))|(refine af ?_ (fun _=>?_))|(refine bF ?_ ?_)|intro _|split|(dsimp only)|exact trivial)
  ·((try dsimp only);repeat' first|exact aB a _|exact bD a _|(refine aO _ ?_;rfl)|exact fY a _ _ _|exact b _ _ _|assumption|(refine nW _ _ (fun _ _=>?_))|(refine qc _ _ (fun _ _=>?_))|(refine af ?_ (fun _=>?_))|(refine bF ?_ ?_)|intro _|split|(dsimp only)|exact trivial)
  ·exact trivial
theorem FH(c:Twin P P')(d:Plain O)(e:V5)(t:Sg)(x y:S3)(a b:R2):St P P' O (eqGuard e t x y a b):=by
 unfold eqGuard;refine bF trivial ?_
 split
 ·((try dsimp only);repeat' first|(refine aO _ ?_;rfl)|exact nV c d _ _ _ _|assumption|(refine af ?_ (fun _=>?_))|(refine bF ?_ ?_)|intro _|split|(dsimp only)|exact trivial)
 ·refine bU (by simp only[c.QY]) ?_;refine bU (by simp only[c.depth]) ?_
  ((try dsimp only);repeat' first|(refine aO _ ?_;rfl)|exact nV c d _ _ _ _|assumption|(refine af ?_ (fun _=>?_))|(refine bF ?_ ?_)|intro _|split|(dsimp only)|exact trivial)
 ·exact trivial
theorem LX(c:Twin P P')(d:Plain O)(e:∀ a b,O (.number a b))(f:V5)(t:Sg)(x y:R2):St P P' O (binOp f t x y):=by
 unfold binOp
 split
 all_goals first
  |exact L4 c d _ _ _ _ _
  |exact uS _ _ _
  |exact aO _ rfl
  |exact aq _
  |exact px c d e _ _ _
  |exact af (DI c d _ _ _) fun _=>trivial
  |(refine bF (aq _) ?_
    split<;>first|exact uN _ _ _ _|exact Jo c d _ _ _ _|exact yj _ _ _ _|exact Jn _ _ _|exact qM _ _ _ _|exact uM _ _ _ _)
  |exact bF (aq _) (BC _ _ _ _ _ _)
  |(refine af (aB c _) fun g=>?_
    split<;>first|exact vv c d _ _ _|exact px c d e _ _ _)
  |exact af (dH c d _) fun _=>af (dH c d _) fun _=>FB c d _ _ _
  |exact af (dH c d _) fun _=>af (dH c d _) fun _=>Fz c d _ _ _
  |exact af (dH c d _) fun _=>FA c d _ _ _
end
section
variable {P P':Sd}{O:U9→Prop}{α β:Type}
theorem pq(a:Twin P P')(b:Plain O)(e:Bool):∀ (n:Nat) (t:Sg) (v:R2),St P P' O (Vt e n t v)
 |0,t,v=>aO _ rfl
 |n+1,t,v=>by
  have c:=pq a b e n;unfold Vt;refine af (aB a t) fun d=>?_
  split
  ·((try dsimp only);repeat' first|exact bq a _|exact aB a _|exact bD a _|exact aq _|exact bz a b _|(refine aO _ ?_;rfl)|exact fY a _ _ _|exact c _ _|exact ru a _|assumption|(refine af ?_ (fun _=>?_))|(refine bF ?_ ?_)|intro _|split|(dsimp only)|exact trivial)
  ·((try dsimp only);repeat' first|exact bq a _|exact aB a _|exact bD a _|exact aq _|exact bz a b _|(refine aO _ ?_;rfl)|exact fY a _ _ _|exact c _ _|assumption|(refine nW _ _ (fun _ _=>?_))|(refine qc _ _ (fun _ _=>?_))|(refine af ?_ (fun _=>?_))|(refine bF ?_ ?_)|intro _|split|(dsimp only)|exact trivial)
  ·((try dsimp only);repeat' first|exact bq a _|exact aB a _|exact bD a _|exact aq _|exact bz a b _|(refine aO _ ?_;rfl)|exact fY a _ _ _|exact c _ _|assumption|(refine nW _ _ (fun _ _=>?_))|(refine qc _ _ (fun _ _=>?_))|(refine af ?_ (fun _=>?_))|(refine bF ?_ ?_)|intro _|split|(dsimp only)|exact trivial)
  all_goals first|exact trivial|exact aq _
theorem qL(b:Twin P P')(a:Plain O)(t:Sg)(k:R2):∀ (es:List TM) (i:Nat),St P P' O (Instr.findAsking t k es i)
 | [],i=>trivial
 |e :: es,i=>by
  unfold Instr.findAsking;refine af (DI b a _ _ _) fun c=>?_
  split
  ·exact trivial
  ·exact qL b a t k es (i+1)
def yh(a:Twin P P')(b:Plain O)(t:Sg)(k:R2)(es:List TM):St P P' O (VV t k es):=by unfold VV;((try dsimp only);repeat' first|exact aB a _|exact qL a b _ _ _ _|assumption|(refine af ?_ (fun _=>?_))|intro _|split|(dsimp only)|exact trivial)
def Jq(a:Twin P P')(b:Plain O)(t:Sg)(x i:R2)(c:Bool):St P P' O (Instr.lookup t x i c):=by unfold Instr.lookup;((try dsimp only);repeat' first|exact aB a _|exact eM a _|exact aq _|(refine iN _ (fun _ _=>?_) ?_)|exact oT rfl|exact yh a b _ _ _|exact pq a b _ _ _ _|assumption|(refine af ?_ (fun _=>?_))|intro _|split|(dsimp only)|exact trivial)
theorem BH(a:Twin P P')(b:Plain O)(d:∀ e c,O (.map e c))(t:Sg)(m k v:R2):St P P' O (Instr.mapUpdate t m k v):=by unfold Instr.mapUpdate Instr.keyThatStays;((try dsimp only);repeat' first|exact aB a _|exact aq _|exact bz a b _|exact cz _|(refine iN _ (fun _ _=>?_) ?_)|exact oT rfl|exact yh a b _ _ _|exact pq a b _ _ _ _|exact lz _ (d _ _)|assumption|(refine af ?_ (fun _=>?_))|(refine bF ?_ ?_)|intro _|split|(dsimp only)|exact trivial)
def tV(e:Twin P P')(d:Plain O)(x:R2):St P P' O (Conv.bytesToString x):=by
 unfold Conv.bytesToString
 split
 ·exact trivial
 ·refine af (nY _ _) fun c=>?_;dsimp only;refine af (nW _ _ fun b a=>?_) fun _=>trivial
  split
  ·exact trivial
  ·exact aq _
 ·exact aq _
def vO(b:Twin P P')(t:Sg):Still P P' O (fun d=>P.underlying t=RX d) (U3 t):=by
 unfold U3;refine bU (by rw[b.sI]) ?_
 split
 ·rename_i d a;exact a
 ·exact aq _
def EF (P:Sd)(s d:Sg):Bool:=match P.underlying s,P.underlying d with
 |some (.int _),RX (.int _)=>R7
 |some (.slice a),RX .string=>match P.underlying a with|some (.int .u8)=>R7|_=>R6
 |some (.slice _),RX (.slice _)=>R7
 |_,_=>R6
def DO(x:R2):St P P' O (VU x):=by unfold VU;split<;>first|exact trivial|exact aq _
def jT(s n:Nat)(x:R2):St P P' O (UY s n x):=by unfold UY;split<;>first|exact trivial|exact nY _ _|exact aq _
def zu(a:SL)(c:Nat):St P P' O (UZ a c):=by unfold UZ;refine af (fT _) fun s=>?_;split<;>exact trivial
def DR(f:Twin P P')(e:Plain O)(a b c:Nat)(d:Option SL)(x:R2):St P P' O (VJ a b c d x):=by unfold VJ;((try dsimp only);repeat' first|exact tY _|exact zu _ _|assumption|(refine af ?_ (fun _=>?_))|(refine bF ?_ ?_)|intro _|split|(dsimp only)|exact trivial)
def NW(a:Twin P P')(d:Plain O)(c:Array Sg)(t:Sg)(b:Array R2):St P P' O (Builtin.copy_ c t b):=by unfold Builtin.copy_;((try dsimp only);repeat' first|exact aB a _|exact bD a _|exact aq _|exact iF _ _ _|exact DO _|exact jT _ _ _|assumption|(refine af ?_ (fun _=>?_))|intro _|split|(dsimp only)|exact trivial)
def PM(b:Twin P P')(d:Plain O)(c:Array Sg)(t:Sg)(a:Array R2):St P P' O (Builtin.len_ c t a):=by unfold Builtin.len_;((try dsimp only);repeat' first|exact aB b _|exact aq _|(refine iN _ (fun _ _=>?_) ?_)|exact oT rfl|assumption|(refine af ?_ (fun _=>?_))|intro _|split|(dsimp only)|exact trivial)
def NY(x y:R2):St P P' O (Builtin.min2 x y):=by
 unfold Builtin.min2
 repeat' first|exact aq _|exact aO _ rfl|exact cz _|exact uS _ _ _|exact tU _|refine af ?_ (fun _=>?_)|split|dsimp only|exact trivial
def PN(c:Array Sg)(t:Sg)(a:Array R2):St P P' O (Builtin.min_ c t a):=by
 unfold Builtin.min_
 split
 ·exact aq _
 ·exact DK _ _ _ fun b d=>NY b d
theorem vz(a:Twin P P')(b:Plain O)(g:Array Sg)(t:Sg)(c:Array R2):St P P' O (Builtin.unsafeString_ g t c):=by
 have d:∀ s:String,St P P' O (stuck s:Ul R2):=fun s=>aq s;unfold Builtin.unsafeString_;obtain⟨e⟩:=c;rcases e with _|⟨f,_|⟨h,_|⟨i,e⟩⟩⟩
 case cons.cons.nil=>
  cases f with
  |pointer j=>
   dsimp only
   ((try dsimp only);repeat' first|exact aq _|exact bz a b _|exact Am _ _|(refine aO _ ?_;rfl)|exact kx _|exact tW a _|exact yu a b _ _ _|exact BF a b _ _ _|assumption|(refine af ?_ (fun _=>?_))|(refine bF ?_ ?_)|intro _|split|(dsimp only)|exact trivial)
  |_=>exact d _
 all_goals exact d _
end
end Cc
namespace Rl
section
structure lC where
 g:Nat
 b:Nat→Bool
structure aI(G:lC) where
 f:Nat→Option Nat
 inj:∀ a b c,f a=RX c→f b=RX c→a=b
 Nd:∀ a b,f a=RX b→(a<G.g↔b<G.g)
variable {G:lC}
def aI.le(ρ σ:aI G):Prop:=∀ a b,ρ.f a=RX b→σ.f a=RX b
def aI.le.refl(ρ:aI G):ρ.le ρ:=fun _ _ a=>a
def aI.le.trans{ρ σ a:aI G}(h:ρ.le σ)(b:σ.le a):ρ.le a:=fun d e c=>b _ _ (h _ _ c)
structure OR(ρ:aI G)(r r':Nat):Prop where
 left:ρ.f r=RZ
 right:∀ b,ρ.f b≠RX r'
 gl:G.g≤r
 gr:G.g≤r'
def aI.ext(ρ:aI G)(r r':Nat)(h:OR ρ r r'):aI G where
 f:=fun b=>if b=r then RX r' else ρ.f b
 inj:=fun c b e a d=>by
  split at a<;>split at d
  ·omega
  ·cases a;exact absurd d (h.right b)
  ·cases d;exact absurd a (h.right c)
  ·exact ρ.inj c b e a d
 Nd:=fun c b a=>by
  have:=h.gl;have:=h.gr
  split at a
  ·cases a;omega
  ·exact ρ.Nd c b a
def aI.KI{ρ:aI G}{r r':Nat}(h:OR ρ r r'):ρ.le (ρ.ext r r' h):=fun c d a=>by
 unfold aI.ext;dsimp only
 split
 ·rename_i b;subst b;rw[h.left] at a;cases a
 ·exact a
def aI.vF(ρ:aI G)(r r':Nat)(h:OR ρ r r'):(ρ.ext r r' h).f r=RX r':=by simp[aI.ext]
def cm (ρ:aI G)(a a':SL):Prop:=ρ.f a.block=RX a'.block∧a.off=a'.off∧a.spot=a'.spot
def cm.mono{ρ σ:aI G}{a a':SL}(b:ρ.le σ)(h:cm ρ a a'):cm σ a a':=⟨b _ _ h.1,h.2⟩
def cm.add{ρ:aI G}{a a':SL}(h:cm ρ a a')(n:Nat):cm ρ (a.add n) (a'.add n):=by
 unfold V8
 split
 ·exact h
 ·exact⟨h.1,by show a.off+n=a'.off+n;rw[h.2.1],rfl⟩
def mO (ρ:aI G)(b:Fn)(c:Fn):Prop:=∀ a:Fn→Fn→Prop,(∀ (f:T1) (d:G.b f=R7),a (.func f) (.func f))→a b c
def mO.func{ρ:aI G}(f:T1)(h:G.b f=R7):mO ρ (.func f) (.func f):=fun b a=>a f h
def mO.ind{ρ:aI G}{c:∀ (a:Fn) (b:Fn),mO ρ a b→Prop}(func:∀ (f:T1) (h:G.b f=true),c _ _ (mO.func f h)){a:Fn}{b:Fn}(h:mO ρ a b):c a b h:=(h (fun a b=>mO ρ a b∧∀ h,c a b h) (fun f h=>⟨mO.func f h,fun _=>func f h⟩)).2 h
def mO.mono{ρ σ:aI G}{f f':Fn}(a:ρ.le σ)(h:mO ρ f f'):mO σ f f':=by
 cases h using mO.ind with
 |func f h=>exact .func f h
def ap (ρ:aI G)(y:R2)(z:R2):Prop:=∀ a:R2→R2→Prop,(∀ (p:Bool),a (.bool p) (.bool p))→(∀ (u:Uo) (g:Int),a (.int u g) (.int u g))→(∀ (s:ByteArray),a (.string s) (.string s))→(a (.pointer RZ) (.pointer RZ))→(∀ {h i:SL} (e:cm ρ h i),a (.pointer (RX h)) (.pointer (RX i)))→(∀ (g j:Nat),a (.slice RZ g j) (.slice RZ g j))→(∀ {h i:SL} (e:cm ρ h i) (g j:Nat),a (.slice (RX h) g j) (.slice (RX i) g j))→(a (.map RZ) (.map RZ))→(∀ {k l:Nat} (e:ρ.f k=RX l),a (.map (RX k)) (.map (RX l)))→(a (.chan RZ) (.chan RZ))→(∀ {k l:Nat} (e:ρ.f k=RX l),a (.chan (RX k)) (.chan (RX l)))→(∀ {f q:Fn} {c d m n:Array R2} (A:mO ρ f q) (r:c.size=d.size) (t:∀ b (e:b<c.size) (o:b<d.size),a c[b] d[b]) (B:m.size=n.size) (C:∀ b (e:b<m.size) (o:b<n.size),a m[b] n[b]),a (.func f c m) (.func q d n))→(a .nilFunc .nilFunc)→(∀ (w:Sg) {v x:R2} (e:a v x),a (.iface w v) (.iface w x))→(a .nilIface .nilIface)→(∀ {c d:Array R2} (r:c.size=d.size) (t:∀ b (e:b<c.size) (o:b<d.size),a c[b] d[b]),a (.agg c) (.agg d))→(∀ {c d:Array R2} (r:c.size=d.size) (t:∀ b (e:b<c.size) (o:b<d.size),a c[b] d[b]),a (.tuple c) (.tuple d))→a y z
def ap.bool{ρ:aI G}(b:Bool):ap ρ (.bool b) (.bool b):=fun c a l m n o p q r s d e f g h i j k=>a b
def ap.int{ρ:aI G}(k:Uo)(n:Int):ap ρ (.int k n) (.int k n):=fun b c a m o p q r s t d e f g h i j l=>a k n
def ap.string{ρ:aI G}(s:ByteArray):ap ρ (.string s) (.string s):=fun b c l a m n o p q r d e f g h i j k=>a s
def ap.cD{ρ:aI G}:ap ρ (.pointer RZ) (.pointer RZ):=fun b c l m a n o p q r d e f g h i j k=>a
def ap.ptr{ρ:aI G}{a a':SL}(h:cm ρ a a'):ap ρ (.pointer (RX a)) (.pointer (RX a')):=fun c d n o p b q r s t e f g i j k l m=>b h
def ap.jd{ρ:aI G}(n c:Nat):ap ρ (.slice RZ n c) (.slice RZ n c):=fun b d m o p q a r s t e f g h i j k l=>a n c
def ap.sl{ρ:aI G}{a a':SL}(h:cm ρ a a')(n c:Nat):ap ρ (.slice (RX a) n c) (.slice (RX a') n c):=fun d e p q r s t b u v f g i j k l m o=>b h n c
def ap.jH{ρ:aI G}:ap ρ (.map RZ) (.map RZ):=fun b c l m n o p q a r d e f g h i j k=>a
def ap.map{ρ:aI G}{r r':Nat}(h:ρ.f r=RX r'):ap ρ (.map (RX r)) (.map (RX r')):=fun b c m n o p q s t a d e f g i j k l=>a h
def ap.gP{ρ:aI G}:ap ρ (.chan RZ) (.chan RZ):=fun b c k l m n o p q r a d e f g h i j=>a
def ap.chan{ρ:aI G}{r r':Nat}(h:ρ.f r=RX r'):ap ρ (.chan (RX r)) (.chan (RX r')):=fun b c l m n o p q s t d a e f g i j k=>a h
def ap.func{ρ:aI G}{f f':Fn}{x a y b:Array R2}(D:mO ρ f f')(E:x.size=a.size)(F:∀ i (h:i<x.size) (C:i<a.size),ap ρ x[i] a[i])(H:y.size=b.size)(I:∀ i (h:i<y.size) (C:i<b.size),ap ρ y[i] b[i]):ap ρ (.func f x y) (.func f' a b):=fun j k s t u v w z A B l m c n o p q r=>c D E (fun d e g=>F d e g j k s t u v w z A B l m c n o p q r) H (fun d e g=>I d e g j k s t u v w z A B l m c n o p q r)
def ap.nilFunc{ρ:aI G}:ap ρ .nilFunc .nilFunc:=fun b c k l m n o p q r d e f a g h i j=>a
def ap.iface{ρ:aI G}(t:Sg){v b:R2}(h:ap ρ v b):ap ρ (.iface t v) (.iface t b):=fun c d m n o p q r s u e f g i a j k l=>a t (h c d m n o p q r s u e f g i a j k l)
def ap.nilIface{ρ:aI G}:ap ρ .nilIface .nilIface:=fun b c k l m n o p q r d e f g h a i j=>a
def ap.agg{ρ:aI G}{x a:Array R2}(v:x.size=a.size)(w:∀ i (h:i<x.size) (B:i<a.size),ap ρ x[i] a[i]):ap ρ (.agg x) (.agg a):=fun c d n o p q r s t u e f g j k l b m=>b v (fun y z A=>w y z A c d n o p q r s t u e f g j k l b m)
def ap.tuple{ρ:aI G}{x a:Array R2}(v:x.size=a.size)(w:∀ i (h:i<x.size) (B:i<a.size),ap ρ x[i] a[i]):ap ρ (.tuple x) (.tuple a):=fun c d n o p q r s t u e f g j k l m b=>b v (fun y z A=>w y z A c d n o p q r s t u e f g j k l m b)
def ap.ind{ρ:aI G}{j:∀ (p:R2) (q:R2),ap ρ p q→Prop}(bool:∀ (b:Bool),j _ _ (ap.bool b))(int:∀ (k:Uo) (n:Int),j _ _ (ap.int k n))(string:∀ (s:ByteArray),j _ _ (ap.string s))(cD:j _ _ (ap.cD))(ptr:∀ {a a':SL} (h:cm ρ a a'),j _ _ (ap.ptr h))(jd:∀ (n c:Nat),j _ _ (ap.jd n c))(sl:∀ {a a':SL} (h:cm ρ a a') (n c:Nat),j _ _ (ap.sl h n c))(jH:j _ _ (ap.jH))(map:∀ {r r':Nat} (h:ρ.f r=some r'),j _ _ (ap.map h))(gP:j _ _ (ap.gP))(chan:∀ {r r':Nat} (h:ρ.f r=some r'),j _ _ (ap.chan h))(func:∀ {f f':Fn} {x o y B:Array R2} (w:mO ρ f f') (m:x.size=o.size) (l:∀ i (h:i<x.size) (A:i<o.size),ap ρ x[i] o[i]) (z:y.size=B.size) (u:∀ i (h:i<y.size) (A:i<B.size),ap ρ y[i] B[i]),(∀ d e g,j _ _ (l d e g))→(∀ d e g,j _ _ (u d e g))→j _ _ (ap.func w m l z u))(nilFunc:j _ _ (ap.nilFunc))(iface:∀ (t:Sg) {v C:R2} (h:ap ρ v C),(j _ _ h)→j _ _ (ap.iface t h))(nilIface:j _ _ (ap.nilIface))(agg:∀ {x o:Array R2} (m:x.size=o.size) (l:∀ i (h:i<x.size) (A:i<o.size),ap ρ x[i] o[i]),(∀ d e g,j _ _ (l d e g))→j _ _ (ap.agg m l))(tuple:∀ {x o:Array R2} (m:x.size=o.size) (l:∀ i (h:i<x.size) (A:i<o.size),ap ρ x[i] o[i]),(∀ d e g,j _ _ (l d e g))→j _ _ (ap.tuple m l)){p:R2}{q:R2}(h:ap ρ p q):j p q h:=(h (fun p q=>ap ρ p q∧∀ h,j p q h) (fun b=>⟨ap.bool b,fun _=>bool b⟩) (fun k n=>⟨ap.int k n,fun _=>int k n⟩) (fun s=>⟨ap.string s,fun _=>string s⟩) (⟨ap.cD,fun _=>cD⟩) (fun h=>⟨ap.ptr h,fun _=>ptr h⟩) (fun n c=>⟨ap.jd n c,fun _=>jd n c⟩) (fun h n c=>⟨ap.sl h n c,fun _=>sl h n c⟩) (⟨ap.jH,fun _=>jH⟩) (fun h=>⟨ap.map h,fun _=>map h⟩) (⟨ap.gP,fun _=>gP⟩) (fun h=>⟨ap.chan h,fun _=>chan h⟩) (fun w m l z u=>⟨ap.func w m (fun d e g=>(l d e g).1) z (fun d e g=>(u d e g).1),fun _=>func w m (fun d e g=>(l d e g).1) z (fun d e g=>(u d e g).1) (fun d e g=>(l d e g).2 _) (fun d e g=>(u d e g).2 _)⟩) (⟨ap.nilFunc,fun _=>nilFunc⟩) (fun t {v} {C} h=>⟨ap.iface t h.1,fun _=>iface t h.1 (h.2 _)⟩) (⟨ap.nilIface,fun _=>nilIface⟩) (fun m l=>⟨ap.agg m (fun d e g=>(l d e g).1),fun _=>agg m (fun d e g=>(l d e g).1) (fun d e g=>(l d e g).2 _)⟩) (fun m l=>⟨ap.tuple m (fun d e g=>(l d e g).1),fun _=>tuple m (fun d e g=>(l d e g).1) (fun d e g=>(l d e g).2 _)⟩)).2 h
def aQ (ρ:aI G)(x b:Array R2):Prop:=x.size=b.size∧∀ a (c:a<x.size) (d:a<b.size),ap ρ x[a] b[a]
theorem ap.mono{ρ σ:aI G}(c:ρ.le σ){v f:R2}(h:ap ρ v f):ap σ v f:=by
 induction h using ap.ind with
 |ptr h=>exact .ptr (h.mono c)
 |sl h m g=>exact .sl (h.mono c) m g
 |map h=>exact .map (c _ _ h)
 |chan h=>exact .chan (c _ _ h)
 |func i d _ j _ k l=>exact .func (i.mono c) d (fun b h a=>k b h a) j (fun b h a=>l b h a)
 |iface n _ e=>exact .iface n e
 |agg d _ e=>exact .agg d (fun b h a=>e b h a)
 |tuple d _ e=>exact .tuple d (fun b h a=>e b h a)
 |_=>first|exact .bool _|exact .int _ _|exact .string _|exact .cD|exact .jd _ _|exact .jH|exact .gP|exact .nilFunc|exact .nilIface
def aQ.mono{ρ σ:aI G}(d:ρ.le σ){x a:Array R2}(h:aQ ρ x a):aQ σ x a:=⟨h.1,fun e b c=>(h.2 e b c).mono d⟩
def aQ.nil(ρ:aI G):aQ ρ #[] #[]:=⟨rfl,fun b a=>by simp at a⟩
def aQ.push{ρ:aI G}{x b:Array R2}{v a:R2}(h:aQ ρ x b)(c:ap ρ v a):aQ ρ (x.push v) (b.push a):=by
 refine⟨by simp[h.1],fun d e f=>?_⟩;simp only[Array.getElem_push];have:=h.1
 split
 ·rw[dif_pos (by omega)];exact h.2 d _ _
 ·rw[dif_neg (by omega)];exact c
def aQ.append{ρ:aI G}{x b y e:Array R2}(h:aQ ρ x b)(d:aQ ρ y e):aQ ρ (x ++ y) (b ++ e):=by
 have c:=h.1;have f:=d.1;refine⟨by simp[c,f],fun a g i=>?_⟩;simp only[Array.getElem_append]
 split
 ·rw[dif_pos (by omega)];exact h.2 a _ _
 ·rw[dif_neg (by omega)];have:a - x.size=a - b.size:=by rw[c]
  simp only[this];exact d.2 (a - b.size) (by simp at g;omega) (by simp at i;omega)
def aQ.get{ρ:aI G}{x a:Array R2}(h:aQ ρ x a)(i:Nat):(x[i]? =RZ∧a[i]? =RZ)∨∃ v c,x[i]? =RX v∧a[i]? =RX c∧ap ρ v c:=by
 have d:=h.1;by_cases b:i<x.size
 ·exact .inr ⟨_,_,SU b,SU (by omega),h.2 i b (by omega)⟩
 ·exact .inl ⟨Tg (by omega),Tg (by omega)⟩
def aQ.set{ρ:aI G}{x d:Array R2}(h:aQ ρ x d){v c:R2}(g:ap ρ v c)(i:Nat):aQ ρ (x.setIfInBounds i v) (d.setIfInBounds i c):=by
 refine⟨by simp[h.1],fun b e f=>?_⟩;by_cases a:i=b
 ·subst a;simp only[Array.getElem_setIfInBounds_self];exact g
 ·rw[Array.getElem_setIfInBounds_ne (by simpa using e) a,Array.getElem_setIfInBounds_ne (by simpa using f) a];exact h.2 b _ _
def aQ.extract{ρ:aI G}{x a:Array R2}(h:aQ ρ x a)(i j:Nat):aQ ρ (x.extract i j) (a.extract i j):=by
 refine⟨by simp[h.1],fun d b c=>?_⟩;simp only[Array.getElem_extract];exact h.2 _ _ _
theorem ap.cells{ρ:aI G}{v a:R2}(h:ap ρ v a):aQ ρ v.cells a.cells:=by
 cases h using ap.ind with
 |agg c d=>exact⟨c,d⟩
 |_=>exact⟨rfl,fun e b f=>by
  have:e=0:=by simp[Uw] at b;omega
  subst this
  first|exact .bool _|exact .int _ _|exact .string _|exact .cD|exact .ptr ‹_› |exact .jd _ _|exact .sl ‹_› _ _|exact .jH|exact .map ‹_› |exact .gP|exact .chan ‹_› |exact .func ‹_› ‹_› ‹_› ‹_› ‹_› |exact .nilFunc|exact .iface _ ‹_› |exact .nilIface|exact .tuple ‹_› ‹_›⟩
structure rD(ρ:aI G)(e e':TM):Prop where
 key:ap ρ e.key e'.key
 val:ap ρ e.val e'.val
 born:e.born=e'.born
def rD.mono{ρ σ:aI G}(a:ρ.le σ){e e':TM}(h:rD ρ e e'):rD σ e e':=⟨h.key.mono a,h.val.mono a,h.born⟩
def cZ (ρ:aI G)(r:U9)(t:U9):Prop:=∀ a:U9→U9→Prop,(∀ {b l:Array R2} (g:aQ ρ b l) (c:Sg) (m:Nat×Nat),a (.cells b c m) (.cells l c m))→(∀ {d e:Array TM} (w:d.size=e.size) (g:∀ f (u:f<d.size) (v:f<e.size),rD ρ d[f] e[f]) (n:Nat),a (.map d n) (.map e n))→(∀ (p:Nat) {j k:Array R2} (g:aQ ρ j k) (b:Bool) (s q:Nat) (c:Bool),a (.chan p j b s q c) (.chan p k b s q c))→(∀ {h i:SL} (g:cm ρ h i) (o:Bool),a (.number h o) (.number i o))→a r t
def cZ.cells{ρ:aI G}{c b:Array R2}(h:aQ ρ c b)(t:Sg)(a:Nat×Nat):cZ ρ (.cells c t a) (.cells b t a):=fun e d f g i=>d h t a
def cZ.map{ρ:aI G}{es a:Array TM}(c:es.size=a.size)(h:∀ i (h1:i<es.size) (j:i<a.size),rD ρ es[i] a[i])(k:Nat):cZ ρ (.map es k) (.map a k):=fun d e b f g=>b c h k
def cZ.chan{ρ:aI G}(n:Nat){b b':Array R2}(h:aQ ρ b b')(c:Bool)(s r:Nat)(t:Bool):cZ ρ (.chan n b c s r t) (.chan n b' c s r t):=fun d e f a g=>a n h c s r t
def cZ.number{ρ:aI G}{a a':SL}(h:cm ρ a a')(l:Bool):cZ ρ (.number a l) (.number a' l):=fun c d e f b=>b h l
def cZ.ind{ρ:aI G}{f:∀ (d:U9) (e:U9),cZ ρ d e→Prop}(cells:∀ {c o:Array R2} (h:aQ ρ c o) (t:Sg) (g:Nat×Nat),f _ _ (cZ.cells h t g))(map:∀ {es m:Array TM} (j:es.size=m.size) (h:∀ i (h1:i<es.size) (p:i<m.size),rD ρ es[i] m[i]) (k:Nat),f _ _ (cZ.map j h k))(chan:∀ (n:Nat) {b b':Array R2} (h:aQ ρ b b') (c:Bool) (s r:Nat) (t:Bool),f _ _ (cZ.chan n h c s r t))(number:∀ {a a':SL} (h:cm ρ a a') (l:Bool),f _ _ (cZ.number h l)){d:U9}{e:U9}(h:cZ ρ d e):f d e h:=(h (fun d e=>cZ ρ d e∧∀ h,f d e h) (fun h t g=>⟨cZ.cells h t g,fun _=>cells h t g⟩) (fun j h k=>⟨cZ.map j h k,fun _=>map j h k⟩) (fun n {b} {b'} h c s r t=>⟨cZ.chan n h c s r t,fun _=>chan n h c s r t⟩) (fun h l=>⟨cZ.number h l,fun _=>number h l⟩)).2 h
def cZ.mono{ρ σ:aI G}(a:ρ.le σ){o o':U9}(h:cZ ρ o o'):cZ σ o o':=by
 cases h using cZ.ind with
 |cells h b d=>exact .cells (h.mono a) b d
 |map g h j=>exact .map g (fun i e f=>(h i e f).mono a) j
 |chan l h c s m b=>exact .chan l (h.mono a) c s m b
 |number h k=>exact .number (h.mono a) k
structure dY(ρ:aI G)(bu:Nat)(w w':R3):Prop where
 gl:G.g≤w.heap.size
 gr:G.g≤w'.heap.size
 at_:∀ b b',ρ.f b=RX b'→∃ o o',w.heap[b]? =RX o∧w'.heap[b']? =RX o'∧cZ ρ o o'
 tape:∀ i q,i<bu→w.tape (w.drawn+i) q=w'.tape (w'.drawn+i) q
def oP:Halt→Bool
 | .stuck _=>R7
 | .unsupported (.initOrder _)=>R6
 | .unsupported _=>R7
 |_=>R6
def kK (ρ:aI G)(d:Halt)(e:Halt):Prop:=∀ b:Halt→Halt→Prop,(∀ {v c:R2} (a:ap ρ v c),b (.panic v) (.panic c))→(∀ (a:Halt) (f:oP a=R7),b a a)→b d e
def kK.panic{ρ:aI G}{v a:R2}(h:ap ρ v a):kK ρ (.panic v) (.panic a):=fun c b d=>b h
def kK.same{ρ:aI G}(h:Halt)(b:oP h=R7):kK ρ h h:=fun c d a=>a h b
def kK.ind{ρ:aI G}{c:∀ (a:Halt) (b:Halt),kK ρ a b→Prop}(panic:∀ {v e:R2} (h:ap ρ v e),c _ _ (kK.panic h))(same:∀ (h:Halt) (d:oP h=true),c _ _ (kK.same h d)){a:Halt}{b:Halt}(h:kK ρ a b):c a b h:=(h (fun a b=>kK ρ a b∧∀ h,c a b h) (fun h=>⟨kK.panic h,fun _=>panic h⟩) (fun h d=>⟨kK.same h d,fun _=>same h d⟩)).2 h
end
section
variable {G:lC}{bu:Nat}
def ak {α β:Type}(P P':Sd)(A:aI G→α→β→Prop)(y:aI G)(z:Ul α)(C:Ul β):Prop:=∀ d:aI G→Ul α→Ul β→Prop,(∀ {a:aI G} {e:α} {l:β} (f:A a e l),d a (.pure e) (.pure l))→(∀ {a:aI G} {m:Mode} {e i:SL} {b:R2→Ul α} {c:R2→Ul β} (p:cm a e i) (f:∀ v o,ap a v o→d a (b v) (c o)),d a (.load m e b) (.load m i c))→(∀ {a:aI G} {m:Mode} {e i:SL} {v o:R2} {b:Ul α} {c:Ul β} (p:cm a e i) (D:ap a v o) (f:d a b c),d a (.store m e v b) (.store m i o c))→(∀ {a:aI G} {j k:U9} {b:Nat→Ul α} {c:Nat→Ul β} (x:cZ a j k) (f:∀ g h (w:OR a g h),d (a.ext g h w) (b g) (c h)),d a (.new j b) (.new k c))→(∀ {a:aI G} {g h:Nat} {b:Option (Sg×Nat)→Ul α} {c:Option (Sg×Nat)→Ul β} (q:a.f g=RX h) (f:∀ s,d a (b s) (c s)),d a (.shape g b) (.shape h c))→(∀ {a:aI G} {e i:SL} {n:Nat} {b:Ul α} {c:Ul β} (p:cm a e i) (f:d a b c),d a (.freeze e n b) (.freeze i n c))→(∀ {a:aI G} {e i:SL} {b:Bool→Ul α} {c:Bool→Ul β} (p:cm a e i) (f:∀ l,d a (b l) (c l)),d a (.frozen e b) (.frozen i c))→(∀ {a:aI G} {g h:Nat} {b:U9→Ul α} {c:U9→Ul β} (q:a.f g=RX h) (f:∀ j k,cZ a j k→d a (b j) (c k)),d a (.getObj g b) (.getObj h c))→(∀ {a:aI G} {g h:Nat} {j k:U9} {b:Ul α} {c:Ul β} (q:a.f g=RX h) (x:cZ a j k) (f:d a b c),d a (.setObj g j b) (.setObj h k c))→(∀ {a:aI G} {r:Question} {b:Nat→Ul α} {c:Nat→Ul β} (f:∀ n,d a (b n) (c n)),d a (.choose r b) (.choose r c))→(∀ {a:aI G} {b:Sd→Ul α} {c:Sd→Ul β} (f:d a (b P) (c P')),d a (.program b) (.program c))→(∀ {a:aI G} {b:Ul α} {c:Ul β} (f:d a b c),d a (.mark .noRoom b) (.mark .noRoom c))→(∀ {a:aI G} {t u:Halt} (f:kK a t u),d a (.halt t) (.halt u))→d y z C
def ak.pure{α β:Type}{P P':Sd}{A:aI G→α→β→Prop}{ρ:aI G}{a:α}{b:β}(h:A ρ a b):ak P P' A ρ (.pure a) (.pure b):=fun d c j k l m n o p q e f g i=>c h
def ak.load{α β:Type}{P P':Sd}{A:aI G→α→β→Prop}{ρ:aI G}{m:Mode}{a a':SL}{k:R2→Ul α}{k':R2→Ul β}(t:cm ρ a a')(h:∀ v c,ap ρ v c→ak P P' A ρ (k v) (k' c)):ak P P' A ρ (.load m a k) (.load m a' k'):=fun d e b l n o p q r s f g i j=>b t (fun u w x=>h u w x d e b l n o p q r s f g i j)
def ak.store{α β:Type}{P P':Sd}{A:aI G→α→β→Prop}{ρ:aI G}{m:Mode}{a a':SL}{v c:R2}{k:Ul α}{k':Ul β}(t:cm ρ a a')(u:ap ρ v c)(h:ak P P' A ρ k k'):ak P P' A ρ (.store m a v k) (.store m a' c k'):=fun d e l b n o p q r s f g i j=>b t u (h d e l b n o p q r s f g i j)
def ak.new{α β:Type}{P P':Sd}{A:aI G→α→β→Prop}{ρ:aI G}{o o':U9}{k:Nat→Ul α}{k':Nat→Ul β}(t:cZ ρ o o')(h:∀ r r' (s:OR ρ r r'),ak P P' A (ρ.ext r r' s) (k r) (k' r')):ak P P' A ρ (.new o k) (.new o' k'):=fun b c i j a l m n p q d e f g=>a t (fun u v w=>h u v w b c i j a l m n p q d e f g)
def ak.shape{α β:Type}{P P':Sd}{A:aI G→α→β→Prop}{ρ:aI G}{r r':Nat}{k:Option (Sg×Nat)→Ul α}{k':Option (Sg×Nat)→Ul β}(q:ρ.f r=RX r')(h:∀ s,ak P P' A ρ (k s) (k' s)):ak P P' A ρ (.shape r k) (.shape r' k'):=fun b c i j l a m n o p d e f g=>a q (fun t=>h t b c i j l a m n o p d e f g)
def ak.freeze{α β:Type}{P P':Sd}{A:aI G→α→β→Prop}{ρ:aI G}{a a':SL}{n:Nat}{k:Ul α}{k':Ul β}(s:cm ρ a a')(h:ak P P' A ρ k k'):ak P P' A ρ (.freeze a n k) (.freeze a' n k'):=fun c d j l m o b p q r e f g i=>b s (h c d j l m o b p q r e f g i)
def ak.frozen{α β:Type}{P P':Sd}{A:aI G→α→β→Prop}{ρ:aI G}{a a':SL}{k:Bool→Ul α}{k':Bool→Ul β}(s:cm ρ a a')(h:∀ b,ak P P' A ρ (k b) (k' b)):ak P P' A ρ (.frozen a k) (.frozen a' k'):=fun d e l m n o p c q r f g i j=>c s (fun t=>h t d e l m n o p c q r f g i j)
def ak.getObj{α β:Type}{P P':Sd}{A:aI G→α→β→Prop}{ρ:aI G}{r r':Nat}{k:U9→Ul α}{k':U9→Ul β}(s:ρ.f r=RX r')(h:∀ o o',cZ ρ o o'→ak P P' A ρ (k o) (k' o')):ak P P' A ρ (.getObj r k) (.getObj r' k'):=fun b c i j l m n p a q d e f g=>a s (fun t u v=>h t u v b c i j l m n p a q d e f g)
def ak.setObj{α β:Type}{P P':Sd}{A:aI G→α→β→Prop}{ρ:aI G}{r r':Nat}{o o':U9}{k:Ul α}{k':Ul β}(t:ρ.f r=RX r')(s:cZ ρ o o')(h:ak P P' A ρ k k'):ak P P' A ρ (.setObj r o k) (.setObj r' o' k'):=fun b c i j l m n p q a d e f g=>a t s (h b c i j l m n p q a d e f g)
def ak.choose{α β:Type}{P P':Sd}{A:aI G→α→β→Prop}{ρ:aI G}{q:Question}{k:Nat→Ul α}{k':Nat→Ul β}(h:∀ n,ak P P' A ρ (k n) (k' n)):ak P P' A ρ (.choose q k) (.choose q k'):=fun b c g i j l m o p r a d e f=>a (fun s=>h s b c g i j l m o p r a d e f)
def ak.program{α β:Type}{P P':Sd}{A:aI G→α→β→Prop}{ρ:aI G}{k:Sd→Ul α}{k':Sd→Ul β}(h:ak P P' A ρ (k P) (k' P')):ak P P' A ρ (.program k) (.program k'):=fun b c g i j l m n o p d a e f=>a (h b c g i j l m n o p d a e f)
def ak.room{α β:Type}{P P':Sd}{A:aI G→α→β→Prop}{ρ:aI G}{k:Ul α}{k':Ul β}(h:ak P P' A ρ k k'):ak P P' A ρ (.mark .noRoom k) (.mark .noRoom k'):=fun b c g i j l m n o p d e a f=>a (h b c g i j l m n o p d e a f)
def ak.halt{α β:Type}{P P':Sd}{A:aI G→α→β→Prop}{ρ:aI G}{x a:Halt}(h:kK ρ x a):ak P P' A ρ (.halt x) (.halt a):=fun c d i j k l m n o p e f g b=>b h
def ak.ind{α β:Type}{P P':Sd}{A:aI G→α→β→Prop}{d:∀ (l:aI G) (p:Ul α) (t:Ul β),ak P P' A l p t→Prop}(pure:∀ {ρ:aI G} {a:α} {b:β} (h:A ρ a b),d ρ (.pure a) (.pure b) (ak.pure h))(load:∀ {ρ:aI G} {m:Mode} {a a':SL} {k:R2→Ul α} {k':R2→Ul β} (g:cm ρ a a') (h:∀ v u,ap ρ v u→ak P P' A ρ (k v) (k' u)),(∀ c e f,d _ _ _ (h c e f))→d ρ (.load m a k) (.load m a' k') (ak.load g h))(store:∀ {ρ:aI G} {m:Mode} {a a':SL} {v u:R2} {k:Ul α} {k':Ul β} (g:cm ρ a a') (w:ap ρ v u) (h:ak P P' A ρ k k'),(d _ _ _ h)→d ρ (.store m a v k) (.store m a' u k') (ak.store g w h))(new:∀ {ρ:aI G} {o o':U9} {k:Nat→Ul α} {k':Nat→Ul β} (j:cZ ρ o o') (h:∀ r r' (z:OR ρ r r'),ak P P' A (ρ.ext r r' z) (k r) (k' r')),(∀ c e f,d _ _ _ (h c e f))→d ρ (.new o k) (.new o' k') (ak.new j h))(shape:∀ {ρ:aI G} {r r':Nat} {k:Option (Sg×Nat)→Ul α} {k':Option (Sg×Nat)→Ul β} (i:ρ.f r=some r') (h:∀ s,ak P P' A ρ (k s) (k' s)),(∀ c,d _ _ _ (h c))→d ρ (.shape r k) (.shape r' k') (ak.shape i h))(freeze:∀ {ρ:aI G} {a a':SL} {n:Nat} {k:Ul α} {k':Ul β} (g:cm ρ a a') (h:ak P P' A ρ k k'),(d _ _ _ h)→d ρ (.freeze a n k) (.freeze a' n k') (ak.freeze g h))(frozen:∀ {ρ:aI G} {a a':SL} {k:Bool→Ul α} {k':Bool→Ul β} (g:cm ρ a a') (h:∀ b,ak P P' A ρ (k b) (k' b)),(∀ c,d _ _ _ (h c))→d ρ (.frozen a k) (.frozen a' k') (ak.frozen g h))(getObj:∀ {ρ:aI G} {r r':Nat} {k:U9→Ul α} {k':U9→Ul β} (i:ρ.f r=some r') (h:∀ o o',cZ ρ o o'→ak P P' A ρ (k o) (k' o')),(∀ c e f,d _ _ _ (h c e f))→d ρ (.getObj r k) (.getObj r' k') (ak.getObj i h))(setObj:∀ {ρ:aI G} {r r':Nat} {o o':U9} {k:Ul α} {k':Ul β} (i:ρ.f r=some r') (j:cZ ρ o o') (h:ak P P' A ρ k k'),(d _ _ _ h)→d ρ (.setObj r o k) (.setObj r' o' k') (ak.setObj i j h))(choose:∀ {ρ:aI G} {q:Question} {k:Nat→Ul α} {k':Nat→Ul β} (h:∀ n,ak P P' A ρ (k n) (k' n)),(∀ c,d _ _ _ (h c))→d ρ (.choose q k) (.choose q k') (ak.choose h))(program:∀ {ρ:aI G} {k:Sd→Ul α} {k':Sd→Ul β} (h:ak P P' A ρ (k P) (k' P')),(d _ _ _ h)→d ρ (.program k) (.program k') (ak.program h))(room:∀ {ρ:aI G} {k:Ul α} {k':Ul β} (h:ak P P' A ρ k k'),(d _ _ _ h)→d ρ (.mark .noRoom k) (.mark .noRoom k') (ak.room h))(halt:∀ {ρ:aI G} {x y:Halt} (h:kK ρ x y),d ρ (.halt x) (.halt y) (ak.halt h)){l:aI G}{p:Ul α}{t:Ul β}(h:ak P P' A l p t):d l p t h:=(h (fun l p t=>ak P P' A l p t∧∀ h,d l p t h) (fun h=>⟨ak.pure h,fun _=>pure h⟩) (fun g h=>⟨ak.load g (fun c e f=>(h c e f).1),fun _=>load g (fun c e f=>(h c e f).1) (fun c e f=>(h c e f).2 _)⟩) (fun g w h=>⟨ak.store g w h.1,fun _=>store g w h.1 (h.2 _)⟩) (fun j h=>⟨ak.new j (fun c e f=>(h c e f).1),fun _=>new j (fun c e f=>(h c e f).1) (fun c e f=>(h c e f).2 _)⟩) (fun i h=>⟨ak.shape i (fun c=>(h c).1),fun _=>shape i (fun c=>(h c).1) (fun c=>(h c).2 _)⟩) (fun g h=>⟨ak.freeze g h.1,fun _=>freeze g h.1 (h.2 _)⟩) (fun g h=>⟨ak.frozen g (fun c=>(h c).1),fun _=>frozen g (fun c=>(h c).1) (fun c=>(h c).2 _)⟩) (fun i h=>⟨ak.getObj i (fun c e f=>(h c e f).1),fun _=>getObj i (fun c e f=>(h c e f).1) (fun c e f=>(h c e f).2 _)⟩) (fun i j h=>⟨ak.setObj i j h.1,fun _=>setObj i j h.1 (h.2 _)⟩) (fun h=>⟨ak.choose (fun c=>(h c).1),fun _=>choose (fun c=>(h c).1) (fun c=>(h c).2 _)⟩) (fun h=>⟨ak.program h.1,fun _=>program h.1 (h.2 _)⟩) (fun h=>⟨ak.room h.1,fun _=>room h.1 (h.2 _)⟩) (fun h=>⟨ak.halt h,fun _=>halt h⟩)).2 h
section
variable {P P':Sd}{α β γ δ:Type}{A:aI G→α→β→Prop}{B:aI G→γ→δ→Prop}
theorem ak.bind{ρ:aI G}{s:Ul α}{s':Ul β}{f:α→Ul γ}{f':β→Ul δ}(h:ak P P' A ρ s s')(d:∀ σ a b,ρ.le σ→A σ a b→ak P P' B σ (f a) (f' b)):ak P P' B ρ (s.bind f) (s'.bind f'):=by
 induction h using ak.ind with
 |pure h=>exact d _ _ _ (aI.le.refl _) h
 |load g _ c=>exact .load g (fun v r j=>c v r j d)
 |store g j _ c=>exact .store g j (c d)
 |new i _ c=>exact .new i (fun p q e=>c p q e (fun σ a b l k=>d σ a b ((aI.KI e).trans l) k))
 |shape e _ c=>exact .shape e (fun s=>c s d)
 |freeze g _ c=>exact .freeze g (c d)
 |frozen g _ c=>exact .frozen g (fun b=>c b d)
 |getObj e _ c=>exact .getObj e (fun n o i=>c n o i d)
 |setObj e i _ c=>exact .setObj e i (c d)
 |choose _ c=>exact .choose (fun m=>c m d)
 |program _ c=>exact .program (c d)
 |room _ c=>exact .room (c d)
 |halt h=>exact .halt h
end
def jy (σ:aI G)(e:Ti):Prop:=match e.loc with
 | .cell b=>∃ a,σ.f a=RX b.block
 | .obj c=>∃ a,σ.f a=RX c
 | .mark .noRoom=>True
 |_=>False
def jy.mono{ρ σ:aI G}(c:ρ.le σ){e:Ti}(h:jy ρ e):jy σ e:=by
 unfold jy at*
 split<;>simp_all
 ·obtain⟨a,b⟩:=h;exact⟨a,c _ _ b⟩
 ·obtain⟨a,b⟩:=h;exact⟨a,c _ _ b⟩
structure Fr(ρ σ:aI G)(w w1:R3):Prop where
 le:ρ.le σ
 os:w1.os=w.os
 output:w1.output=w.output
 tape:w1.tape=w.tape
 drawn:w.drawn≤w1.drawn
 size:w.heap.size≤w1.heap.size
 keep:∀ b',(∀ b,σ.f b≠RX b')→b'<w.heap.size→w1.heap[b']? =w.heap[b']?
 fresh:∀ b b',σ.f b=RX b'→ρ.f b=RX b'∨w.heap.size≤b'
 all:∀ b',w.heap.size≤b'→b'<w1.heap.size→∃ b,σ.f b=RX b'
def Fr.refl(ρ:aI G)(w:R3):Fr ρ ρ w w:=⟨aI.le.refl _,rfl,rfl,rfl,R8 _,R8 _,fun _ _ _=>rfl,fun _ _ a=>.inl a,fun _ c b=>absurd b (by omega)⟩
def Fr.trans{ρ σ k:aI G}{w g j:R3}(h:Fr ρ σ w g)(a:Fr σ k g j):Fr ρ k w j:=
 ⟨h.le.trans a.le,a.os.trans h.os,a.output.trans h.output,a.tape.trans h.tape,Ss h.drawn a.drawn,Ss h.size a.size,
  fun b d i=>(a.keep b d (Sa i h.size)).trans (h.keep b (fun c l=>d c (a.le _ _ l)) i),
  fun c b d=>by
   rcases a.fresh c b d with e|e
   ·exact h.fresh c b e
   ·exact .inr (Ss h.size e),
  fun b e m=>by
   rcases TF b g.heap.size with f|f
   ·obtain⟨c,d⟩:=h.all b e f;exact⟨c,a.le _ _ d⟩
   ·exact a.all b f m⟩
def Result.drawn{α:Type}:Vv α→Nat
 | .ok _ a=>a.drawn
 | .halt _ a=>a.drawn
def He{α:Type}(a:Ask α):∀ w:R3,w.drawn≤(w.ask a).2.drawn:=by
 induction a with
 |done a=>intro w;exact R8 _
 |ask e d c b=>
  intro w;unfold World.ask;dsimp only
  split
  ·exact b _ w
  ·exact Ss (Nat.le_succ _) (b _ {w with drawn:=w.drawn+1})
def Jt(w:R3)(c:Sys):w.drawn≤(w.sys c).2.drawn:=by
 have a:=He (Kernel.perform c w.os) w;unfold World.sys;generalize w.ask (Kernel.perform c w.os)=d at a;obtain⟨⟨b,e⟩,f⟩:=d;cases b<;>first|exact a|exact R8 _
def F1{P:Sd}{w c:R3}{a k:SL}{u:Sg}{v:R2}{b:Bool}{l:List SL}(h:w.viewStore P a u k v b= .ok (c,l)):c.drawn=w.drawn:=by
 unfold World.viewStore at h;simp only[bind,Except.bind,pure,Except.pure,throw,throwThe,Wj] at h
 repeat' split at h
 all_goals first
  |(cases h;rfl)
  |(cases h;done)
  |(simp at h;done)
def Ig{P:Sd}{w c:R3}{a:SL}{v:R2}{b:Bool}{l:List SL}(h:w.farStore P a v b= .ok (c,l)):c.drawn=w.drawn:=by
 unfold Vc at h
 split at h
 ·split at h
  ·rename_i d;cases h;exact F1 d
  ·cases h
 ·cases h
theorem I6{α:Type}(P:Sd)(s:Ul α):∀ (w:R3) (es:Array Ti),w.drawn≤Result.drawn (s.runT P w es).1:=by
 induction s with
 |pure c=>intro w es;exact R8 _
 |load m c b a=>
  intro w es;simp only[S1]
  split
  ·exact a _ w _
  ·split
   ·exact a _ w _
   ·exact R8 _
 |store m c v b a=>
  intro w es;have k:∀ d:R3,d.drawn=w.drawn→w.drawn≤Result.drawn (b.runT P d es).1:=fun d h=>by rw[← h];exact a d _
  cases v<;>simp only[S1]<;>first|exact R8 _|skip
  all_goals
   split
   ·split
    ·exact R8 _
    ·exact a (w.setCell c _) _
   ·split
    ·rename_i i;have:=Ig i;rw[← this];exact a _ _
    ·exact R8 _
 |new e b a=>intro w es;simp only[S1];exact a _ {w with heap:=w.heap.push e} _
 |shape f b a=>intro w es;simp only[S1];exact a _ w _
 |freeze c j b a=>intro w es;simp only[S1];exact Ss (by unfold TN;split<;>exact R8 _) (a (w.freeze c j) _)
 |frozen c b a=>intro w es;simp only[S1];exact a _ w _
 |getObj f b a=>intro w es;simp only[S1];split<;>first|exact R8 _|exact a _ w _
 |setObj f e b a=>intro w es;simp only[S1];split<;>first|exact R8 _|exact a {w with heap:=w.heap.setIfInBounds f e} _
 |choose l b a=>
  intro w es;simp only[S1]
  split
  ·exact a _ w _
  ·exact Ss (Nat.le_succ _) (a _ {w with drawn:=w.drawn+1} _)
 |sys g b a=>intro w es;simp only[S1];exact Ss (Jt w g) (a _ (w.sys g).2 _)
 |program b a=>intro w es;simp only[S1];exact a _ w _
 |mark m b a=>intro w es;simp only[S1];exact a w _
 |halt h=>intro w es;exact R8 _
def iJ (es:Array Ti):Prop:=∀ a∈es,a.loc≠.output
def iJ.push{es:Array Ti}(h:iJ es){e:Ti}(b:e.loc≠.output):iJ (es.push e):=fun c a=>by
 rcases Array.mem_push.1 a with a|rfl
 ·exact h c a
 ·exact b
def fc {α β:Type}(A:aI G→α→β→Prop)(ρ:aI G)(t:Nat)(w':R3)(v:Vv α×Array Ti)(w:Vv β×Array Ti):Prop:=∀ e:Vv α×Array Ti→Vv β×Array Ti→Prop,(∀ {b:aI G} {g:Nat} {f:α} {j:β} {a d:R3} {c h:Array Ti} (p:A b f j) (s:dY b g a d) (r:Fr ρ b w' d) (q:∀ l∈h,jy b l) (n:a.drawn+g=t) (m:iJ c),e (.ok f a,c) (.ok j d,h))→(∀ {b:aI G} {g:Nat} {i k:Halt} {a d:R3} {c h:Array Ti} (u:kK b i k) (s:dY b g a d) (r:Fr ρ b w' d) (q:∀ l∈h,jy b l) (n:a.drawn+g=t) (m:iJ c),e (.halt i a,c) (.halt k d,h))→(∀ {b:aI G} {f:α} {j:β} {a:R3} {c:Array Ti} {o:Vv β×Array Ti} (p:A b f j) (n:t<a.drawn) (m:iJ c),e (.ok f a,c) o)→(∀ {b:aI G} {i k:Halt} {a:R3} {c:Array Ti} {o:Vv β×Array Ti} (u:kK b i k) (n:t<a.drawn) (m:iJ c),e (.halt i a,c) o)→e v w
def fc.ok{α β:Type}{A:aI G→α→β→Prop}{ρ:aI G}{t:Nat}{w':R3}{σ:aI G}{b1:Nat}{a:α}{b:β}{c w1':R3}{es d:Array Ti}(g:A σ a b)(l:dY σ b1 c w1')(i:Fr ρ σ w' w1')(h:∀ e∈d,jy σ e)(k:c.drawn+b1=t)(j:iJ es):fc A ρ t w' (.ok a c,es) (.ok b w1',d):=fun m f n o p=>f g l i h k j
def fc.halt{α β:Type}{A:aI G→α→β→Prop}{ρ:aI G}{t:Nat}{w':R3}{σ:aI G}{b1:Nat}{x c:Halt}{a w1':R3}{es b:Array Ti}(k:kK σ x c)(j:dY σ b1 a w1')(g:Fr ρ σ w' w1')(f:∀ e∈b,jy σ e)(i:a.drawn+b1=t)(h:iJ es):fc A ρ t w' (.halt x a,es) (.halt c w1',b):=fun l m d n o=>d k j g f i h
def fc.over{α β:Type}{A:aI G→α→β→Prop}{ρ:aI G}{t:Nat}{w':R3}{σ:aI G}{a:α}{b:β}{c:R3}{es:Array Ti}{r:Vv β×Array Ti}(e:A σ a b)(g:t<c.drawn)(f:iJ es):fc A ρ t w' (.ok a c,es) r:=fun h i j d k=>d e g f
def fc.nj{α β:Type}{A:aI G→α→β→Prop}{ρ:aI G}{t:Nat}{w':R3}{σ:aI G}{x f:Halt}{a:R3}{es:Array Ti}{r:Vv β×Array Ti}(e:kK σ x f)(d:t<a.drawn)(c:iJ es):fc A ρ t w' (.halt x a,es) r:=fun g h i j b=>b e d c
def fc.ind{α β:Type}{A:aI G→α→β→Prop}{ρ:aI G}{t:Nat}{w':R3}{o:∀ (m:Vv α×Array Ti) (n:Vv β×Array Ti),fc A ρ t w' m n→Prop}(ok:∀ {σ:aI G} {b1:Nat} {a:α} {b:β} {f w1':R3} {es p:Array Ti} (g:A σ a b) (k:dY σ b1 f w1') (j:Fr ρ σ w' w1') (i:∀ e∈p,jy σ e) (d:f.drawn+b1=t) (c:iJ es),o (.ok a f,es) (.ok b w1',p) (fc.ok g k j i d c))(halt:∀ {σ:aI G} {b1:Nat} {x q:Halt} {f w1':R3} {es p:Array Ti} (l:kK σ x q) (k:dY σ b1 f w1') (j:Fr ρ σ w' w1') (i:∀ e∈p,jy σ e) (d:f.drawn+b1=t) (c:iJ es),o (.halt x f,es) (.halt q w1',p) (fc.halt l k j i d c))(over:∀ {σ:aI G} {a:α} {b:β} {f:R3} {es:Array Ti} {r:Vv β×Array Ti} (g:A σ a b) (d:t<f.drawn) (c:iJ es),o (.ok a f,es) r (fc.over g d c))(nj:∀ {σ:aI G} {x q:Halt} {f:R3} {es:Array Ti} {r:Vv β×Array Ti} (l:kK σ x q) (d:t<f.drawn) (c:iJ es),o (.halt x f,es) r (fc.nj l d c)){m:Vv α×Array Ti}{n:Vv β×Array Ti}(h:fc A ρ t w' m n):o m n h:=(h (fun m n=>fc A ρ t w' m n∧∀ h,o m n h) (fun g k j i d c=>⟨fc.ok g k j i d c,fun _=>ok g k j i d c⟩) (fun l k j i d c=>⟨fc.halt l k j i d c,fun _=>halt l k j i d c⟩) (fun g d c=>⟨fc.over g d c,fun _=>over g d c⟩) (fun l d c=>⟨fc.nj l d c,fun _=>nj l d c⟩)).2 h
def fc.after{α β:Type}{A:aI G→α→β→Prop}{ρ σ:aI G}{t:Nat}{w' w1':R3}{r:Vv α×Array Ti}{r':Vv β×Array Ti}(i:Fr ρ σ w' w1')(h:fc A σ t w1' r r'):fc A ρ t w' r r':=by
 cases h using fc.ind with
 |ok c f e d b a=>exact .ok c f (i.trans e) d b a
 |halt g f e d b a=>exact .halt g f (i.trans e) d b a
 |over c b a=>exact .over c b a
 |nj g b a=>exact .nj g b a
def fc.left{α β:Type}{A:aI G→α→β→Prop}{ρ l:aI G}{t e:Nat}{w' k:R3}{r:Vv α×Array Ti}{r' j:Vv β×Array Ti}(h:fc A ρ t w' r r')(b:e<Result.drawn r.1):fc A l e k r j:=by
 cases h using fc.ind with
 |ok c i g f _ a=>exact .over c b a
 |halt d i g f _ a=>exact .nj d b a
 |over c _ a=>exact .over c b a
 |nj d _ a=>exact .nj d b a
def dY.lt{ρ:aI G}{w w':R3}(h:dY ρ bu w w'){b b':Nat}(d:ρ.f b=RX b'):b<w.heap.size∧b'<w'.heap.size:=by
 obtain⟨e,f,a,c,-⟩:=h.at_ b b' d;exact⟨(R9.1 a).1,(R9.1 c).1⟩
structure Oy(w W:R3)(b:Nat)(o:U9):Prop where
 at_:W.heap[b]? =RX o
 other:∀ c,c≠b→W.heap[c]? =w.heap[c]?
 size:W.heap.size=w.heap.size
 tape:W.tape=w.tape
 drawn:W.drawn=w.drawn
 os:W.os=w.os
 output:W.output=w.output
theorem dY.upd{ρ:aI G}{w w' i W':R3}(h:dY ρ bu w w'){b b':Nat}(j:ρ.f b=RX b'){o o':U9}(r:cZ ρ o o')(c:Oy w i b o)(d:Oy w' W' b' o'):dY ρ bu i W':=by
 refine⟨by rw[c.size];exact h.gl,by rw[d.size];exact h.gr,fun e a f=>?_,fun s v q=>by rw[c.tape,c.drawn,d.tape,d.drawn];exact h.tape s v q⟩;by_cases g:e=b
 ·subst g;have:a=b':=by rw[j] at f;cases f;rfl
  subst this;exact⟨o,o',c.at_,d.at_,r⟩
 ·have k:a≠b':=fun l=>g (ρ.inj e b a f (by rw[l];exact j));obtain⟨t,u,m,n,p⟩:=h.at_ e a f;exact⟨t,u,(c.other e g).trans m,(d.other a k).trans n,p⟩
def Oy.fr{ρ:aI G}{w' W':R3}{b b':Nat}(e:ρ.f b=RX b'){o':U9}(h:Oy w' W' b' o'):Fr ρ ρ w' W':=
 ⟨aI.le.refl _,h.os,h.output,h.tape,by rw[h.drawn];exact R8 _,by rw[h.size];exact R8 _,fun a f _=>h.other a (fun c=>f b (by rw[c];exact e)),fun _ _ h=>.inl h,fun _ g d=>absurd d (by rw[h.size];omega)⟩
def uW{w:R3}{a:SL}{c:Array R2}{t:Sg}{b:Nat×Nat}(h:w.heap[a.block]? =RX (.cells c t b))(v:R2):Oy w (w.setCell a v) a.block (.cells (if a.spot.isSome then c else c.setIfInBounds a.off v) t b):=by
 refine⟨?_,fun c d=>?_,by simp[VI],rfl,rfl,rfl,rfl⟩
 ·simp[VI,TV,h]
 ·simp[VI,TV,Ne.symm d]
def yA{w:R3}{a:SL}{n:Nat}(b:n≠0){c:Array R2}{t:Sg}{d:Nat×Nat}(h:w.heap[a.block]? =RX (.cells c t d)):Oy w (w.freeze a n) a.block (.cells c t (if d.1 == d.2 then(a.off,a.off+n) else(min d.1 a.off,max d.2 (a.off+n)))):=by
 obtain⟨g,f⟩:=d;refine⟨?_,fun c e=>?_,by simp[TN,b],by simp[TN,b],by simp[TN,b],by simp[TN,b],by simp[TN,b]⟩
 ·simp[TN,b,TV,h]
 ·simp[TN,b,TV,Ne.symm e]
def gU{w:R3}{a:SL}{n:Nat}(b:n≠0){o:U9}(h:w.heap[a.block]? =RX o)(f:∀ c t d,o≠.cells c t d):Oy w (w.freeze a n) a.block o:=by
 refine⟨?_,fun c e=>?_,by simp[TN,b],by simp[TN,b],by simp[TN,b],by simp[TN,b],by simp[TN,b]⟩
 ·simp only[TN,b,if_false,TV,h];cases o<;>first|rfl|exact absurd rfl (f _ _ _)
 ·simp[TN,b,TV,Ne.symm e]
def yB{w:R3}{r:Nat}(o:U9)(h:r<w.heap.size):Oy w {w with heap:=w.heap.setIfInBounds r o} r o:=
 ⟨by simp[SQ,h],fun b a=>by simp[TR (Ne.symm a)],by simp,rfl,rfl,rfl,rfl⟩
theorem m9 {ρ:aI G} {w w':R3} (h:dY ρ bu w w') {a a':SL} (n:cm ρ a a'):(w.cell? a=RZ∧w'.cell? a'=RZ∧(∀ P b,w.farLoad P a b= .error (.stuck "load: no such cell"))∧(∀ P b,w'.farLoad P a' b= .error (.stuck "load: no such cell"))∧(∀ P v b,w.farStore P a v b= .error (.stuck "store: no such cell"))∧(∀ P v b,w'.farStore P a' v b= .error (.stuck "store: no such cell")))∨
 ∃ c i t j v k,w.heap[a.block]? =RX (.cells c t j)∧w'.heap[a'.block]? =RX (.cells i t j)∧aQ ρ c i∧w.cell? a=RX v∧w'.cell? a'=RX k∧ap ρ v k:=by
 obtain⟨s,u,d,e,r⟩:=h.at_ _ _ n.1;have o:=n.2.1;have f:=n.2.2;cases r using cZ.ind with
 |cells p t j=>
  rename_i c i;cases g:a.spot with
  |some x=>
   rw[g] at f;exact .inl ⟨by simp[Sr,d,g],by simp[Sr,e,← f],fun P b=>by simp[VH,UH,d],fun P b=>by simp[VH,UH,e],fun P v b=>by simp[Vc,UH,d],fun P v b=>by simp[Vc,UH,e]⟩
  |none=>
   rw[g] at f;rcases p.get a.off with⟨l,m⟩|⟨v,k,l,m,q⟩
   ·exact .inl ⟨by simp[Sr,d,g,l],by simp[Sr,e,← f,← o,m],fun P b=>by simp[VH,UH,d],fun P b=>by simp[VH,UH,e],fun P v b=>by simp[Vc,UH,d],fun P v b=>by simp[Vc,UH,e]⟩
   ·exact .inr ⟨c,i,t,j,v,k,d,e,p,by simp[Sr,d,g,l],by simp[Sr,e,← f,← o,m],q⟩
 |_=>exact .inl ⟨by simp[Sr,d],by simp[Sr,e],fun P b=>by simp[VH,UH,d],fun P b=>by simp[VH,UH,e],fun P v b=>by simp[Vc,UH,d],fun P v b=>by simp[Vc,UH,e]⟩
def wR{ρ:aI G}{w w':R3}(h:dY ρ bu w w'){a a':SL}(d:cm ρ a a'):w.frozen? a=w'.frozen? a':=by
 obtain⟨j,k,b,c,f⟩:=h.at_ _ _ d.1;have e:=d.2.1;cases f using cZ.ind with
 |cells i l g=>simp[S4,b,c,e]
 |_=>simp[S4,b,c]
def Jk{ρ:aI G}{w w':R3}(h:dY ρ bu w w'){r r':Nat}(e:ρ.f r=RX r'):w.shape? r=w'.shape? r':=by
 obtain⟨g,i,a,b,c⟩:=h.at_ _ _ e;cases c using cZ.ind with
 |cells d j f=>simp[World.shape?,a,b,d.1]
 |_=>simp[World.shape?,a,b]
def dY.fresh{ρ:aI G}{w w':R3}(h:dY ρ bu w w'):OR ρ w.heap.size w'.heap.size:=by
 refine⟨?_,fun c a=>?_,h.gl,h.gr⟩
 ·cases b:ρ.f w.heap.size with
  |none=>rfl
  |some d=>have:=(h.lt b).1;omega
 ·have:=(h.lt a).2;omega
theorem dY.new{ρ:aI G}{w w':R3}(h:dY ρ bu w w'){o o':U9}(j:cZ ρ o o'):dY (ρ.ext w.heap.size w'.heap.size h.fresh) bu {w with heap:=w.heap.push o} {w' with heap:=w'.heap.push o'}∧Fr ρ (ρ.ext w.heap.size w'.heap.size h.fresh) w' {w' with heap:=w'.heap.push o'}:=by
 have e:=aI.KI h.fresh;refine⟨⟨by have:=h.gl;simp;omega,by have:=h.gr;simp;omega,fun f b a=>?_,h.tape⟩,⟨e,rfl,rfl,rfl,R8 _,by simp,fun b a k=>by simp[SN,Nat.ne_of_lt k],fun f b a=>?_,fun b g d=>⟨w.heap.size,by
  have c:b=w'.heap.size:=by simp at d;omega
  rw[c];exact aI.vF _ _ _ _⟩⟩⟩
 ·unfold aI.ext at a;dsimp only at a
  split at a
  ·rename_i c;cases a;subst c;exact⟨o,o',by simp,by simp,j.mono e⟩
  ·obtain⟨l,m,g,d,i⟩:=h.at_ f b a;have:=h.lt a;exact⟨l,m,by simp[SN,Nat.ne_of_lt this.1];simpa using g,by simp[SN,Nat.ne_of_lt this.2];simpa using d,i.mono e⟩
 ·unfold aI.ext at a;dsimp only at a
  split at a
  ·cases a;exact .inr (R8 _)
  ·exact .inl a
def lR{σ:aI G}{es:Array Ti}(h:∀ e∈es,jy σ e){e:Ti}(b:jy σ e):∀ x∈es.push e,jy σ x:=fun x a=>by
 rcases Array.mem_push.1 a with a|rfl
 ·exact h x a
 ·exact b
theorem ak.runs{P P':Sd}{α β:Type}{A:aI G→α→β→Prop}{ρ:aI G}{s:Ul α}{s':Ul β}(h:ak P P' A ρ s s'):∀ (w w':R3) (es g:Array Ti) (bu:Nat),dY ρ bu w w'→(∀ e∈g,jy ρ e)→iJ es→fc A ρ (w.drawn+bu) w' (s.runT P w es) (s'.runT P' w' g):=by
 induction h using ak.ind with
 |pure h=>intro w w' es g bu a b c;exact .ok h a (Fr.refl _ _) b rfl c
 |load i _ d=>
  intro w w' es g bu a b c;rcases m9 a i with⟨j,f,o,Q,-⟩|⟨D,N,r,t,v,n,-,-,-,j,f,o⟩
  ·simp only[S1,j,f,o,Q];exact .halt (.same _ rfl) a (Fr.refl _ _) b rfl c
  ·simp only[S1,j,f];exact d v n o w w' _ _ _ a (lR b ⟨_,i.1⟩) (c.push (by simp))
 |store i al _ d=>
  intro w w' es g bu a b c;rename_i ρ m k y v n q C _;have U:(∀ x,v≠.agg x)→(∀ x,v≠.tuple x)→(∀ x,n≠.agg x)→(∀ x,n≠.tuple x)→fc A ρ (w.drawn+bu) w' ((Sem.store m k v q).runT P w es) ((Sem.store m y n C).runT P' w' g):=by
   intro a4 a5 a6 a7;have ab:=wR a i;rcases m9 a i with⟨j,f,-,-,o,Q⟩|⟨D,N,r,t,bc,bd,ao,ar,Y,j,f,o⟩
   ·have H:(Sem.store m k v q).runT P w es=(.halt (.stuck "store: no such cell") w,es):=by cases v<;>first|exact absurd rfl (a4 _)|exact absurd rfl (a5 _)|simp only[S1,j,o]
    have I:(Sem.store m y n C).runT P' w' g=(.halt (.stuck "store: no such cell") w',g):=by cases n<;>first|exact absurd rfl (a6 _)|exact absurd rfl (a7 _)|simp only[S1,f,Q]
    rw[H,I];exact .halt (.same _ rfl) a (Fr.refl _ _) b rfl c
   ·cases am:w.frozen? k with
    |true=>
     rw[am] at ab;have H:(Sem.store m k v q).runT P w es=(.halt (.unsupported (.unsafePointer "a write to bytes that a string shares")) w,es):=by cases v<;>simp_all [S1]
     have I:(Sem.store m y n C).runT P' w' g=(.halt (.unsupported (.unsafePointer "a write to bytes that a string shares")) w',g):=by cases n<;>simp_all [S1]
     rw[H,I];exact .halt (.same _ rfl) a (Fr.refl _ _) b rfl c
    |false=>
     rw[am] at ab;have H:(Sem.store m k v q).runT P w es=q.runT P (w.setCell k v) (es.push ⟨.cell k,R7,m == .atomic⟩):=by cases v<;>simp_all [S1]
     have I:(Sem.store m y n C).runT P' w' g=C.runT P' (w'.setCell y n) (g.push ⟨.cell y,R7,m == .atomic⟩):=by cases n<;>simp_all [S1]
     rw[H,I];have K:cZ ρ (.cells (if k.spot.isSome then D else D.setIfInBounds k.off v) r t) (.cells (if y.spot.isSome then N else N.setIfInBounds y.off n) r t):=by
      rw[← i.2.1,← i.2.2];refine .cells ?_ r t
      split
      ·exact Y
      ·exact Y.set al _
     have z:=uW ar n;exact fc.after (z.fr i.1) (d _ _ _ _ _ (a.upd i.1 K (uW ao v) z) (lR b ⟨_,i.1⟩) (c.push (by simp)))
  cases al using ap.ind with
  |agg a1 a2=>simp only[S1];exact .halt (.same _ rfl) a (Fr.refl _ _) b rfl c
  |tuple a1 a2=>simp only[S1];exact .halt (.same _ rfl) a (Fr.refl _ _) b rfl c
  |_=>exact U (by simp) (by simp) (by simp) (by simp)
 |new S _ d=>
  intro w w' es g bu a b c;obtain⟨j,f⟩:=a.new S;simp only[S1];exact fc.after f (d _ _ a.fresh _ _ _ _ _ j (fun e a0=>(b e a0).mono f.le) c)
 |shape l _ d=>
  intro w w' es g bu a b c;simp only[S1];rw[Jk a l];exact d _ w w' _ _ _ a b c
 |freeze i _ d=>
  intro w w' es g bu a b c;rename_i ρ k y F q C _;simp only[S1];by_cases p:F=0
  ·subst p;simp only[TN,if_pos];exact d w w' _ _ _ a b c
  ·obtain⟨W,X,j,f,o⟩:=a.at_ _ _ i.1;have aw:w.drawn=(w.freeze k F).drawn:=by unfold TN;split<;>rfl
   rw[aw];cases o using cZ.ind with
   |cells R r t=>
    have z:=yA (n:=F) p f;have K:cZ ρ _ _:=.cells R r (if t.1 == t.2 then(k.off,k.off+F) else(min t.1 k.off,max t.2 (k.off+F)));have ae:=yA (n:=F) p j;rw[i.2.1] at ae K;exact fc.after (z.fr i.1) (d _ _ _ _ _ (a.upd i.1 K ae z) b c)
   |map T J a3=>exact fc.after ((gU p f (fun _ _ _ e=>by cases e)).fr i.1) (d _ _ _ _ _ (a.upd i.1 (.map T J a3) (gU p j (fun _ _ _ e=>by cases e)) (gU p f (fun _ _ _ e=>by cases e))) b c)
   |chan D E O s M r=>exact fc.after ((gU p f (fun _ _ _ e=>by cases e)).fr i.1) (d _ _ _ _ _ (a.upd i.1 (.chan D E O s M r) (gU p j (fun _ _ _ e=>by cases e)) (gU p f (fun _ _ _ e=>by cases e))) b c)
   |number E V=>exact fc.after ((gU p f (fun _ _ _ e=>by cases e)).fr i.1) (d _ _ _ _ _ (a.upd i.1 (.number E V) (gU p j (fun _ _ _ e=>by cases e)) (gU p f (fun _ _ _ e=>by cases e))) b c)
 |frozen i _ d=>
  intro w w' es g bu a b c;simp only[S1];rw[wR a i];exact d _ w w' _ _ _ a b c
 |getObj l _ d=>
  intro w w' es g bu a b c;obtain⟨W,X,j,f,o⟩:=a.at_ _ _ l;cases o using cZ.ind with
  |cells R r t=>
   simp only[S1,j,f];exact .halt (.same _ rfl) a (Fr.refl _ _) b rfl c
  |map T J q=>
   simp only[S1,j,f];exact d _ _ (.map T J q) w w' _ _ _ a (lR b ⟨_,l⟩) (c.push (by simp))
  |chan D E O s M r=>
   simp only[S1,j,f];exact d _ _ (.chan D E O s M r) w w' _ _ _ a (lR b ⟨_,l⟩) (c.push (by simp))
  |number E V=>
   simp only[S1,j,f];exact d _ _ (.number E V) w w' _ _ _ a (lR b ⟨_,l⟩) (c.push (by simp))
 |setObj l S _ d=>
  intro w w' es g bu a b c;rename_i ρ M bb W X q C _;obtain⟨a9,ba,j,f,o⟩:=a.at_ _ _ l;cases o using cZ.ind with
  |cells R r t=>
   simp only[S1,j,f];exact .halt (.same _ rfl) a (Fr.refl _ _) b rfl c
  |_=>
   simp only[S1,j,f];have ad:=a.lt l;have z:=yB (w:=w') X ad.2;exact fc.after (z.fr l) (d _ _ _ _ _ (a.upd l S (yB W ad.1) z) (lR b ⟨_,l⟩) (c.push (by simp)))
 |choose _ d=>
  intro w w' es g bu a b c;rename_i ρ u q C _;simp only[S1]
  split
  ·exact d 0 w w' _ _ _ a b c
  ·cases bu with
   |zero=>
    have J:=I6 P (q (u.cut (w.tape w.drawn u))) {w with drawn:=w.drawn+1} es;have l:=d (u.cut (w.tape w.drawn u)) {w with drawn:=w.drawn+1} {w' with tape:=fun L x=>w.tape (w.drawn+1+(L - w'.drawn)) x} es g (Result.drawn ((q (u.cut (w.tape w.drawn u))).runT P {w with drawn:=w.drawn+1} es).1) ⟨a.gl,a.gr,a.at_,fun L x _=>by simp⟩ b c;exact l.left J
   |succ bu=>
    have Z:=a.tape 0 u (by omega);simp only[Nat.add_zero] at Z;rw[Z];have U:=d (u.cut (w'.tape w'.drawn u)) {w with drawn:=w.drawn+1} {w' with drawn:=w'.drawn+1} es g bu ⟨a.gl,a.gr,a.at_,fun L u a8=>by
     have:=a.tape (1+L) u (by omega);simpa [Td] using this⟩ b c
    have e:w.drawn+(bu+1)=w.drawn+1+bu:=by omega
    rw[e];exact fc.after (σ:=ρ) (w1':={w' with drawn:=w'.drawn+1}) ⟨aI.le.refl _,rfl,rfl,rfl,by simp,R8 _,fun _ _ _=>rfl,fun _ _ h=>.inl h,fun _ j f=>absurd f (by simp;omega)⟩ U
 |program _ d=>intro w w' es g bu a b c;simp only[S1];exact d w w' _ _ _ a b c
 |room _ d=>intro w w' es g bu a b c;simp only[S1];exact d w w' _ _ _ a (lR b trivial) (c.push (by simp))
 |halt h=>intro w w' es g bu a b c;exact .halt h a (Fr.refl _ _) b rfl c
end
section
variable {G:lC}
structure u7(P P':Sd):Prop where
 info:∀ t,P'.info? t=P.info? t
 sI:∀ t,P'.underlying t=P.underlying t
 rt:P'.rt=P.rt
 zero:∀ t i v,P.info? t=RX i→i.zero=RX v→∀ (G:lC) (ρ:aI G),ap ρ v v
def iw (ρ:aI G)(e:List R2)(f:List R2):Prop:=∀ a:List R2→List R2→Prop,(a [] [])→(∀ {v d:R2} {b c:List R2} (g:ap ρ v d) (h:a b c),a (v :: b) (d :: c))→a e f
def iw.nil{ρ:aI G}:iw ρ [] []:=fun b a c=>a
def iw.cons{ρ:aI G}{v c:R2}{l b:List R2}(h:ap ρ v c)(f:iw ρ l b):iw ρ (v :: l) (c :: b):=fun d e a=>a h (f d e a)
def iw.ind{ρ:aI G}{d:∀ (a:List R2) (b:List R2),iw ρ a b→Prop}(nil:d _ _ (iw.nil))(cons:∀ {v f:R2} {l e:List R2} (h:ap ρ v f) (c:iw ρ l e),(d _ _ c)→d _ _ (iw.cons h c)){a:List R2}{b:List R2}(h:iw ρ a b):d a b h:=(h (fun a b=>iw ρ a b∧∀ h,d a b h) (⟨iw.nil,fun _=>nil⟩) (fun h c=>⟨iw.cons h c.1,fun _=>cons h c.1 (c.2 _)⟩)).2 h
theorem Gv{ρ:aI G}:∀ (l a:List R2),l.length=a.length→(∀ i (h:i<l.length) (e:i<a.length),ap ρ l[i] a[i])→iw ρ l a
 | [],[],_,_=>.nil
 | [],_ :: _,h,_=>by simp at h
 |_ :: _,[],h,_=>by simp at h
 |v :: l,f :: a,h,b=>.cons (b 0 (by simp) (by simp)) (Gv l a (by simpa using h) (fun i c d=>b (i+1) (by simpa using c) (by simpa using d)))
def aQ.toList{ρ:aI G}{x a:Array R2}(h:aQ ρ x a):iw ρ x.toList a.toList:=
 Gv _ _ (by simpa using h.1) (fun d b c=>by simpa using h.2 d (by simpa using b) (by simpa using c))
def iw.toArray{ρ:aI G}{l c:List R2}(h:iw ρ l c):aQ ρ l.toArray c.toArray:=by
 induction h using iw.ind with
 |nil=>exact aQ.nil _
 |cons f _ b=>
  refine⟨by simpa using b.1,fun a d e=>?_⟩;cases a with
  |zero=>exact f
  |succ a=>exact b.2 a (by simpa using d) (by simpa using e)
def ir {α:Type}(_:aI G)(a b:α):Prop:=a=b
section
variable {P P':Sd}{α β γ δ:Type}{A:aI G→α→β→Prop}{B:aI G→γ→δ→Prop}{ρ:aI G}
def ak.bindM{s:Ul α}{s':Ul β}{f:α→Ul γ}{f':β→Ul δ}(h:ak P P' A ρ s s')(c:∀ σ a b,ρ.le σ→A σ a b→ak P P' B σ (f a) (f' b)):ak P P' B ρ (s >>= f) (s' >>= f'):=h.bind c
def ak.au{a:α}{b:β}(h:A ρ a b):ak P P' A ρ (Pure.pure a) (Pure.pure b):=.pure h
def ak.stuck{w:String}:ak P P' A ρ (Go.stuck w) (Go.stuck w):=.halt (.same _ rfl)
def ak.cO{u:Unsupported}(a:oP (.unsupported u)=R7:=by rfl):ak P P' A ρ (Go.unsupported u) (Go.unsupported u):=.halt (.same _ a)
def ak.panics{v a:R2}(h:ap ρ v a):ak P P' A ρ (Go.goPanic v) (Go.goPanic a):=.halt (.panic h)
def ak.asks{k:Sd→Ul α}{k':Sd→Ul β}(h:ak P P' A ρ (k P) (k' P')):ak P P' A ρ (Go.program >>= k) (Go.program >>= k'):=.program h
def eV(S:u7 P P')(t:Sg):ak P P' (fun _ (i a:UL)=>i=a∧P.info? t=RX i) ρ (UX t) (UX t):=by
 unfold UX;refine .asks ?_;rw[S.info];cases b:P.info? t with
 |none=>exact .stuck
 |some i=>exact .au ⟨rfl,rfl⟩
def aK(S:u7 P P')(t:Sg):ak P P' (fun _ (i a:TypeDesc)=>i=a∧P.underlying t=RX i) ρ (U3 t) (U3 t):=by
 unfold U3;refine .asks ?_;rw[S.sI];cases b:P.underlying t with
 |none=>exact .stuck
 |some i=>exact .au ⟨rfl,rfl⟩
def cC(S:u7 P P')(t:Sg):ak P P' (ir (α:=Nat)) ρ (V3 t) (V3 t):=by
 unfold V3;exact(eV S t).bindM (fun d b c _ a=>.au (by rw[a.1];rfl))
def iS(S:u7 P P')(t:Sg):ak P P' ap ρ (T9 t) (T9 t):=by
 unfold T9;refine(eV S t).bindM (fun e a f _ b=>?_);obtain⟨rfl,c⟩:=b;cases d:a.zero with
 |none=>exact .cO
 |some v=>exact .au (S.zero t a v c d _ e)
def GG(S:u7 P P')(t:Sg):ak P P' (ir (α:=Bool)) ρ (isAgg t) (isAgg t):=by
 unfold isAgg;refine(aK S t).bindM (fun e b c _ a=>?_);obtain⟨rfl,d⟩:=a
 split<;>exact .au rfl
theorem ox:∀ (n:Nat) {ρ:aI G} {a a':SL} (i:Nat) {b c:Array R2},cm ρ a a'→aQ ρ b c→ak P P' aQ ρ (loadCellsFrom a i n b) (loadCellsFrom a' i n c)
 |0,ρ,a,a',i,b,c,e,d=>.au d
 |n+1,ρ,a,a',i,b,c,e,d=>.load (e.add i) (fun v g f=>ox n (i+1) e (d.push f))
def uE{a a':SL}(n:Nat)(b:cm ρ a a'):ak P P' aQ ρ (loadCells a n) (loadCells a' n):=ox n 0 b (aQ.nil _)
theorem jj:∀ (vs d:List R2) {ρ:aI G} {a a':SL} (i:Nat),cm ρ a a'→iw ρ vs d→ak P P' (ir (α:=Unit)) ρ (storeCells a vs i) (storeCells a' d i)
 | [],[],ρ,a,a',i,c,b=>.au rfl
 | [],_ :: _,ρ,a,a',i,c,b=>by cases b using iw.ind
 |_ :: _,[],ρ,a,a',i,c,b=>by cases b using iw.ind
 |v :: g,j :: h,ρ,a,a',i,c,b=>by
  cases b using iw.ind with
  |cons f e=>exact .store (c.add i) f (jj g h (i+1) c e)
def z8(S:u7 P P'){a a':SL}(t:Sg)(d:cm ρ a a'):ak P P' ap ρ (loadVar t a) (loadVar t a'):=by
 unfold loadVar;refine(GG S t).bindM (fun k c f e b=>?_);cases b;cases c
 ·exact .load (d.mono e) (fun v j h=>.pure h)
 ·refine(cC S t).bindM (fun i c f g b=>?_);cases b;exact(uE _ (d.mono (e.trans g))).bindM (fun i c f _ b=>.au (.agg b.1 b.2))
def Fb(S:u7 P P'){a a':SL}(t:Sg){v g:R2}(e:cm ρ a a')(h:ap ρ v g):ak P P' (ir (α:=Unit)) ρ (storeVar t a v) (storeVar t a' g):=by
 unfold storeVar;refine(cC S t).bindM (fun k i j b d=>?_);cases d;have c:=h.cells;rw[← c.1]
 split
 ·exact ak.stuck.bindM (A:=ir (α:=PUnit)) (fun l i j f d=>jj _ _ 0 (e.mono (b.trans f)) (c.mono (b.trans f)).toList)
 ·exact jj _ _ 0 (e.mono b) (c.mono b).toList
def o7(t:Sg){c a:Array R2}(h:aQ ρ c a):ak P P' cm ρ (newRow t c) (newRow t a):=by
 unfold newRow;exact .new (.cells h t (0,0)) (fun d e b=>.pure ⟨aI.vF _ _ _ b,rfl,rfl⟩)
def Di(t:Sg){v a:R2}(h:ap ρ v a):ak P P' cm ρ (newVar t v) (newVar t a):=o7 t h.cells
theorem kR(S:u7 P P')(t:Sg){c f:Array R2}(h:aQ ρ c f)(off:Nat):ak P P' ap ρ (part t c off) (part t f off):=by
 unfold part;refine(GG S t).bindM (fun m e k g d=>?_);cases d;cases e
 ·rcases(h.mono g).get off with⟨a,b⟩|⟨v,l,a,b,i⟩
  ·simp only[a,b];exact .stuck
  ·simp only[a,b];exact .au i
 ·refine(cC S t).bindM (fun n e k j d=>?_);cases d;have:=(h.mono (g.trans j)).extract off (off+e);exact .au (.agg this.1 this.2)
def pX{v a:R2}(h:ap ρ v a):ak P P' (ir (α:=Uo×Int)) ρ (asIntOf v) (asIntOf a):=by
 cases h using ap.ind with
 |int b c=>exact .au rfl
 |ptr h=>exact .cO
 |_=>exact .stuck
def nN{v a:R2}(h:ap ρ v a):ak P P' (ir (α:=Int)) ρ (asInt v) (asInt a):=by
 unfold asInt;exact(pX h).bindM (fun d b c _ h=>by cases h;exact .au rfl)
def Lt{v a:R2}(h:ap ρ v a):ak P P' (ir (α:=Bool)) ρ (asBool v) (asBool a):=by
 cases h using ap.ind with
 |bool b=>exact .au rfl
 |_=>exact .stuck
theorem dX(S:u7 P P'){A:aI G→α→β→Prop}(e:RuntimeError)(d:∀ i c a m,e≠.typeAssertion i c a m)(f:∀ t,e≠.unhashable t)(g:e≠.panicNil):ak P P' A ρ (runtimePanic e) (runtimePanic e):=by
 unfold runtimePanic;refine .asks ?_;rw[S.rt];cases e with
 |typeAssertion i c a m=>exact absurd rfl (d _ _ _ _)
 |unhashable t=>exact absurd rfl (f _)
 |panicNil=>exact absurd rfl g
 |bounds j k s c=>exact .panics (.iface _ (.agg rfl (fun i b h=>by
  have:i=0∨i=1∨i=2∨i=3:=by simp at b;omega
  rcases this with rfl|rfl|rfl|rfl<;>first|exact .bool _|exact .int _ _)))
 |error m=>exact .panics (.iface _ (.string _))
 |plain m=>exact .panics (.iface _ (.string _))
 |nilDeref=>exact .panics (.iface _ (.string _))
theorem nl(S:u7 P P'){A:aI G→α→β→Prop}(k:Uo)(x y:Int)(c:BoundsCode):ak P P' A ρ (boundsPanic k x y c) (boundsPanic k x y c):=by
 unfold boundsPanic
 split
 ·refine ak.bindM (A:=ir (α:=Bool)) ?_ (fun e b d _ a=>by cases a;exact dX S _ (by simp) (by simp) (by simp));exact ak.bind (A:=ir (α:=Nat)) (ak.choose (fun f=>.pure rfl)) (fun e b d _ a=>by cases a;exact .pure rfl)
 ·refine ak.bindM (A:=ir (α:=Bool)) (.au rfl) (fun e b d _ a=>by cases a;exact dX S _ (by simp) (by simp) (by simp))
end
end
section
variable {G:lC}
structure Alike(G:lC)(P P':Sd):Prop where
 S:u7 P P'
 cells:∀ t,P'.cellsOf t=P.cellsOf t
 bytes:∀ t,P'.bytesOf t=P.bytesOf t
 depth:P'.depth=P.depth
 j9:∀ d e c o u n,liesAt P' d e c o u n=liesAt P d e c o u n
 cellAt:∀ d e c o b,cellAtBytes P' d e c o b=cellAtBytes P d e c o b
 AO:∀ d t o,byteOfCell P' d t o=byteOfCell P d t o
 QY:∀ d t,P'.eqGuardType d t=P.eqGuardType d t
 GP:∀ t,P'.stoodInHeld t=P.stoodInHeld t
 Ln:∀ d t,P'.holdsPacked d t=P.holdsPacked d t
 wT:P.globals.size=G.g
 KR:P'.globals.size=G.g
 OW:∀ f:Nat,G.b f=R7→∃ fn,P.funcs[f]? =RX fn∧fn.body.isNone=R6∧(fn.name == "runtime.NumGoroutine")=R6
 O6:∀ f:Nat,(P'.funcs[f]?).map (fun(x:UB)=>(x.name,x.body.isNone))=(P.funcs[f]?).map (fun(x:UB)=>(x.name,x.body.isNone))
section
variable {P P':Sd}{ρ:aI G}
def l6{v a:R2}(h:ap ρ v a):ak P P' cm ρ (UR v) (UR a):=by
 cases h using ap.ind with
 |ptr h=>exact .au h
 |_=>exact .stuck
def Ly(L:Alike G P P')(t:Sg){v a:R2}(h:ap ρ v a):ak P P' ap ρ (Instr.loadAt t v) (Instr.loadAt t a):=
 (l6 h).bindM (fun d b c _ h=>z8 L.S t h)
def IZ(L:Alike G P P')(t:Sg){v a x b:R2}(h:ap ρ v a)(d:ap ρ x b):ak P P' (ir (α:=Unit)) ρ (Instr.storeAt t v x) (Instr.storeAt t a b):=
 (l6 h).bindM (fun g e f c h=>Fb L.S t h (d.mono c))
def Dj{r r':Nat}(h:ρ.f r=RX r'):ak P P' (fun _ (x y:Option (SL×Sg))=>x=RZ∧y=RZ) ρ (viewAt r) (viewAt r'):=by
 unfold viewAt;refine ak.bindM (A:=ir (α:=Option (Sg×Nat))) (.shape h (fun s=>.pure rfl)) (fun j f g c b=>?_);cases b
 split
 ·exact .au ⟨rfl,rfl⟩
 ·refine ak.bindM (A:=cZ) (.getObj (c _ _ h) (fun d e a=>.pure a)) (fun k d e i a=>?_);cases a using cZ.ind<;>exact .au ⟨rfl,rfl⟩
def xI{a a':SL}(h:cm ρ a a'):ak P P' (ir (α:=Unit)) ρ (noView a) (noView a'):=by
 unfold noView;refine(Dj h.1).bindM (fun f d e c b=>?_);obtain⟨rfl,rfl⟩:=b;exact .au rfl
theorem lZ(L:Alike G P P'){a a':SL}(h:cm ρ a a'):ak P P' (ir (α:=Nat)) ρ (byteOf a) (byteOf a'):=by
 unfold byteOf;rw[← h.2.2];cases g:a.spot with
 |some s=>exact .au rfl
 |none=>
  refine .asks ?_;refine(xI h).bindM (fun j c e d b=>?_);refine ak.bindM (A:=ir (α:=Option (Sg×Nat))) (.shape (d _ _ h.1) (fun s=>.pure rfl)) (fun k c e f b=>?_);cases b;cases c with
  |none=>exact .stuck
  |some i=>
   simp only[L.cells,L.bytes,L.AO,L.depth,← h.2.1]
   split
   ·exact .au rfl
   ·split
    ·exact .au rfl
    ·exact .stuck
theorem LB(L:Alike G P P'){a a':SL}(h:cm ρ a a')(c b:Nat):ak P P' cm ρ (partAt a c b) (partAt a' c b):=by
 unfold partAt;refine(lZ L h).bindM (fun k i j g e=>?_);cases e;have d:cm k {block:=a.block,off:=a.off+c} {block:=a'.block,off:=a'.off+c}:=⟨g _ _ h.1,by show a.off+c=a'.off+c;rw[h.2.1],rfl⟩;refine(lZ L d).bindM (fun l i j f e=>?_);cases e;refine .au ?_
 split
 ·exact d.mono f
 ·exact⟨f _ _ d.1,d.2.1,rfl⟩
def Bn(L:Alike G P P'){a a':SL}(h:cm ρ a a')(f:Field):ak P P' cm ρ (fieldPlace a f) (fieldPlace a' f):=by
 unfold fieldPlace;refine(cC L.S _).bindM (fun g d e b c=>?_);cases c
 split
 ·exact LB L (h.mono b) _ _
 ·exact .au ((h.mono b).add _)
theorem IU(L:Alike G P P')(s:Sg){v a:R2}(h:ap ρ v a)(f:Nat):ak P P' ap ρ (Instr.fieldAt s v f) (Instr.fieldAt s a f):=by
 unfold Instr.fieldAt;refine(aK L.S s).bindM (fun m j l i g=>?_);obtain⟨rfl,-⟩:=g;cases j with
 |struct e=>
  simp only;cases e[f]? with
  |none=>exact .stuck
  |some d=>exact(l6 (h.mono i)).bindM (fun k b c _ h=>(Bn L h d).bindM (fun k b c _ h=>.au (.ptr h)))
 |_=>exact .stuck
def NI(L:Alike G P P')(t:Sg):ak P P' ap ρ (Instr.alloc t R7 (.tuple #[])) (Instr.alloc t R7 (.tuple #[])):=by
 unfold Instr.alloc;exact(iS L.S t).bindM (fun g e f d a=>(Di t a).bindM (fun h b c _ a=>.au (.ptr a)))
def QH(t:Sg){v a:R2}(h:ap ρ v a):ak P P' ap ρ (Instr.box t v) (Instr.box t a):=by
 unfold Instr.box;exact(Di t h).bindM (fun d b c _ h=>.au (.ptr h))
theorem IV(L:Alike G P P')(t:Sg){x n i l:R2}(u:ap ρ x n)(q:ap ρ i l):ak P P' ap ρ (Instr.indexAt t x i) (Instr.indexAt t n l):=by
 unfold Instr.indexAt;refine(pX q).bindM (fun E k z r b=>?_);cases b;obtain⟨B,D⟩:=k;refine(aK L.S t).bindM (fun F d j s a=>?_);obtain⟨rfl,a⟩:=a;have h:=u.mono (r.trans s);cases d with
 |array C e=>
  refine(l6 h).bindM (fun H k y A f=>?_);refine(aK L.S t).bindM (fun o d j c a=>?_);obtain⟨rfl,-⟩:=a;dsimp only
  split
  ·exact(cC L.S e).bindM (fun w x v g b=>by cases b;exact .au (.ptr ((f.mono (c.trans g)).add _)))
  ·(repeat' split)<;>first|exact ak.cO|exact nl L.S _ _ _ _
 |slice e=>
  cases h using ap.ind with
  |jd m p=>
   refine(aK L.S t).bindM (fun o d j c a=>?_);exact nl L.S _ _ _ _
  |sl f m p=>
   refine(aK L.S t).bindM (fun o d j c a=>?_);obtain⟨rfl,-⟩:=a;dsimp only
   split
   ·exact(cC L.S e).bindM (fun w x v g b=>by cases b;exact .au (.ptr ((f.mono (c.trans g)).add _)))
   ·(repeat' split)<;>first|exact ak.cO|exact nl L.S _ _ _ _
  |_=>exact ak.stuck
 |_=>cases h using ap.ind<;>exact ak.stuck
def z6(n:Nat):ak P P' (ir (α:=Unit)) ρ (askRoom n) (askRoom n):=by
 unfold askRoom
 split
 ·exact .room (.pure rfl)
 ·exact .au rfl
def gQ(L:Alike G P P'){v a:R2}(h:ap ρ v a)(y:Nat)(c:BoundsCode):ak P P' (ir (α:=Nat)) ρ (Instr.sliceBound v y c) (Instr.sliceBound a y c):=by
 unfold Instr.sliceBound;refine(pX h).bindM (fun i b e _ d=>?_);cases d;obtain⟨g,f⟩:=b;dsimp only
 split
 ·exact .au rfl
 ·exact nl L.S _ _ _ _
def dN (ρ:aI G)(c:Option R2)(d:Option R2):Prop:=∀ a:Option R2→Option R2→Prop,(a RZ RZ)→(∀ {v b:R2} (e:ap ρ v b),a (RX v) (RX b))→a c d
def dN.none{ρ:aI G}:dN ρ RZ RZ:=fun b a c=>a
def dN.some{ρ:aI G}{v a:R2}(h:ap ρ v a):dN ρ (RX v) (RX a):=fun c d b=>b h
def dN.ind{ρ:aI G}{c:∀ (a:Option R2) (b:Option R2),dN ρ a b→Prop}(none:c _ _ (dN.none))(some:∀ {v d:R2} (h:ap ρ v d),c _ _ (dN.some h)){a:Option R2}{b:Option R2}(h:dN ρ a b):c a b h:=(h (fun a b=>dN ρ a b∧∀ h,c a b h) (⟨dN.none,fun _=>none⟩) (fun h=>⟨dN.some h,fun _=>some h⟩)).2 h
def dN.mono{σ:aI G}(a:ρ.le σ){o o':Option R2}(h:dN ρ o o'):dN σ o o':=by
 cases h using dN.ind with
 |none=>exact .none
 |some h=>exact .some (h.mono a)
theorem iD(L:Alike G P P')(b:Bool)(len cap:Nat){k l i j m n:Option R2}(h1:dN ρ k l)(h:dN ρ i j)(o:dN ρ m n):ak P P' (ir (α:=Nat×Nat×Nat)) ρ (Instr.sliceBounds b len cap k i m) (Instr.sliceBounds b len cap l j n):=by
 unfold Instr.sliceBounds;cases o using dN.ind with
 |none=>
  cases h using dN.ind with
  |none=>
   cases h1 using dN.ind with
   |none=>exact .au rfl
   |some d=>exact(gQ L d _ _).bindM (fun f c b _ a=>by cases a;exact .au rfl)
  |some g=>
   refine(gQ L g _ _).bindM (fun f c b e a=>?_);cases a;cases h1 using dN.ind with
   |none=>exact .au rfl
   |some d=>exact(gQ L (d.mono e) _ _).bindM (fun f c b _ a=>by cases a;exact .au rfl)
 |some q=>
  refine(gQ L q _ _).bindM (fun f c b e a=>?_);cases a;cases h using dN.ind with
  |none=>exact ak.stuck
  |some g=>
   refine(gQ L (g.mono e) _ _).bindM (fun r c b p a=>?_);cases a;cases h1 using dN.ind with
   |none=>exact .au rfl
   |some d=>exact(gQ L (d.mono (e.trans p)) _ _).bindM (fun f c b _ a=>by cases a;exact .au rfl)
theorem NQ(L:Alike G P P')(t:Sg){x u:R2}{B C w y p q:Option R2}(f:ap ρ x u)(h1:dN ρ B C)(c:dN ρ w y)(d:dN ρ p q):ak P P' ap ρ (Instr.slice t x B w p) (Instr.slice t u C y q):=by
 unfold Instr.slice;refine(aK L.S t).bindM (fun K r J k o=>?_);obtain⟨rfl,-⟩:=o;have f:=f.mono k;have h1:=h1.mono k;have c:=c.mono k;have d:=d.mono k;cases r with
 |string=>
  cases f using ap.ind with
  |string s=>
   dsimp only;have F:p.isSome=q.isSome:=by cases d using dN.ind<;>rfl
   rw[F]
   split
   ·exact ak.stuck
   ·exact(iD L R6 s.size s.size h1 c .none).bindM (fun l i m _ a=>by cases a;exact .au (.string _))
  |_=>exact ak.stuck
 |slice j=>
  cases f using ap.ind with
  |jd g n=>
   refine(iD L R7 g n h1 c d).bindM (fun l i m _ a=>?_);cases a;refine(cC L.S j).bindM (fun v x D _ a=>?_);cases a;refine .au ?_
   split
   ·exact .jd _ _
   ·exact .jd _ _
  |sl h g n=>
   refine(iD L R7 g n h1 c d).bindM (fun l i m e a=>?_);cases a;refine(cC L.S j).bindM (fun v x D b a=>?_);cases a;refine .au ?_
   split
   ·exact .sl (h.mono (e.trans b)) _ _
   ·exact .sl ((h.mono (e.trans b)).add _) _ _
  |_=>exact ak.stuck
 |pointer E=>
  have I:ak P P' cm K (asAddr x) (asAddr u):=by
   cases f using ap.ind with
   |ptr H=>exact .au H
   |cD=>exact dX L.S .nilDeref (by simp) (by simp) (by simp)
   |_=>exact ak.stuck
  refine I.bindM (fun l i M e h=>?_);refine(aK L.S E).bindM (fun v r J b o=>?_);obtain⟨rfl,-⟩:=o;cases r with
  |array g j=>
   refine(iD L R6 g g (h1.mono (e.trans b)) (c.mono (e.trans b)) (d.mono (e.trans b))).bindM (fun l i m z a=>?_);cases a;refine(cC L.S j).bindM (fun v x D A a=>?_);cases a;refine .au ?_
   split
   ·exact .sl (h.mono (b.trans (z.trans A))) _ _
   ·exact .sl ((h.mono (b.trans (z.trans A))).add _) _ _
  |_=>exact ak.stuck
 |_=>cases f using ap.ind<;>exact ak.stuck
theorem IY(L:Alike G P P')(t:Sg){x q:R2}{l m g h n o:Option R2}(k:ap ρ x q)(h1:dN ρ l m)(d:dN ρ g h)(e:dN ρ n o):ak P P' ap ρ (Instr.sliceAt t x l g n) (Instr.sliceAt t q m h o):=by
 unfold Instr.sliceAt;refine(aK L.S t).bindM (fun C w A a v=>?_);obtain⟨rfl,-⟩:=v;cases w with
 |array p s=>
  refine(l6 (k.mono a)).bindM (fun D r y u f=>?_);have c:=a.trans u;refine(iD L R6 p p (h1.mono c) (d.mono c) (e.mono c)).bindM (fun E r z i b=>?_);cases b;refine(cC L.S s).bindM (fun F x B j b=>?_);cases b;refine .au ?_
  split
  ·exact .sl (f.mono (i.trans j)) _ _
  ·exact .sl ((f.mono (i.trans j)).add _) _ _
 |_=>exact NQ L t (k.mono a) (h1.mono a) (d.mono a) (e.mono a)
end
end
section
variable {G:lC}
section
variable {P P':Sd}{ρ:aI G}
theorem k8{z a:Array R2}(h:aQ ρ z a)(n:Nat):aQ ρ ((VA n).map (z[· % z.size]!)) ((VA n).map (a[· % a.size]!)):=by
 refine⟨by simp,fun d f g=>?_⟩;simp only[Array.getElem_map,Array.getElem_range];have c:=h.1;by_cases e:0<z.size
 ·have b:d % z.size<z.size:=Nat.mod_lt _ e;rw[getElem!_pos z _ b,getElem!_pos a _ (by rw[← c];exact b)];have:d % a.size=d % z.size:=by rw[c]
  simp only[this];exact h.2 _ b (by rw[← c];exact b)
 ·rw[getElem!_neg z _ (by omega),getElem!_neg a _ (by omega)];exact .bool _
def tL(L:Alike G P P'){α k γ b:Type}{B:aI G→γ→b→Prop}(e:RuntimeError)(g:∀ i c a m,e≠.typeAssertion i c a m)(h:∀ t,e≠.unhashable t)(j:e≠.panicNil){f:α→Ul γ}{f':k→Ul b}:ak P P' B ρ (runtimePanic e >>= f) (runtimePanic e >>= f'):=
 (dX (A:=fun _ _ _=>False) L.S e g h j).bindM (fun _ _ _ _ d=>d.elim)
def o4{γ a:Type}{B:aI G→γ→a→Prop}(q:Question){f:Nat→Ul γ}{f':Nat→Ul a}(h:∀ n,ak P P' B ρ (f n) (f' n)):ak P P' B ρ (choose q >>= f) (choose q >>= f'):=.choose (fun n=>h n)
theorem Dg(L:Alike G P P')(t:Sg){l j c h:R2}(m:ap ρ l j)(hc:ap ρ c h):ak P P' ap ρ (Vx t l c) (Vx t j h):=by
 unfold Vx;refine(aK L.S t).bindM (fun w p v i n=>?_);obtain⟨rfl,-⟩:=n;cases p with
 |slice e=>
  refine(nN (m.mono i)).bindM (fun x b d k a=>?_);cases a;refine(nN (hc.mono (i.trans k))).bindM (fun y b d q a=>?_);cases a;refine(eV L.S e).bindM (fun z b d r a=>?_);obtain⟨rfl,-⟩:=a;dsimp only
  split
  ·split
   ·exact tL L _ (by simp) (by simp) (by simp)
   ·split
    ·exact tL L _ (by simp) (by simp) (by simp)
    ·exact o4 _ (fun u=>tL L _ (by simp) (by simp) (by simp))
  ·refine(z6 _).bindM (fun A b d s a=>?_);refine(cC L.S e).bindM (fun g b d _ a=>?_);cases a
   split
   ·exact(o7 e (k8 (aQ.nil _) _)).bindM (fun g b d _ f=>.au (.sl f _ _))
   ·refine(iS L.S e).bindM (fun g b d _ o=>?_);exact(o7 e (k8 o.cells _)).bindM (fun g b d _ f=>.au (.sl f _ _))
 |_=>exact ak.stuck
def oE (ρ:aI G)(f:List (R2×Nat))(g:List (R2×Nat)):Prop:=∀ a:List (R2×Nat)→List (R2×Nat)→Prop,(a [] [])→(∀ {v e:R2} (b:Nat) {c d:List (R2×Nat)} (h:ap ρ v e) (i:a c d),a ((v,b) :: c) ((e,b) :: d))→a f g
def oE.nil{ρ:aI G}:oE ρ [] []:=fun b a c=>a
def oE.cons{ρ:aI G}{v c:R2}(j:Nat){l b:List (R2×Nat)}(h:ap ρ v c)(f:oE ρ l b):oE ρ ((v,j) :: l) ((c,j) :: b):=fun d e a=>a j h (f d e a)
def oE.ind{ρ:aI G}{d:∀ (a:List (R2×Nat)) (b:List (R2×Nat)),oE ρ a b→Prop}(nil:d _ _ (oE.nil))(cons:∀ {v f:R2} (j:Nat) {l e:List (R2×Nat)} (h:ap ρ v f) (c:oE ρ l e),(d _ _ c)→d _ _ (oE.cons j h c)){a:List (R2×Nat)}{b:List (R2×Nat)}(h:oE ρ a b):d a b h:=(h (fun a b=>oE ρ a b∧∀ h,d a b h) (⟨oE.nil,fun _=>nil⟩) (fun {v} {f} j {l} {e} h c=>⟨oE.cons j h c.1,fun _=>cons j h c.1 (c.2 _)⟩)).2 h
def gd (ρ:aI G)(f:List (Nat×R2))(g:List (Nat×R2)):Prop:=∀ a:List (Nat×R2)→List (Nat×R2)→Prop,(a [] [])→(∀ {v e:R2} (b:Nat) {c d:List (Nat×R2)} (h:ap ρ v e) (i:a c d),a ((b,v) :: c) ((b,e) :: d))→a f g
def gd.nil{ρ:aI G}:gd ρ [] []:=fun b a c=>a
def gd.cons{ρ:aI G}{v c:R2}(j:Nat){l b:List (Nat×R2)}(h:ap ρ v c)(f:gd ρ l b):gd ρ ((j,v) :: l) ((j,c) :: b):=fun d e a=>a j h (f d e a)
def gd.ind{ρ:aI G}{d:∀ (a:List (Nat×R2)) (b:List (Nat×R2)),gd ρ a b→Prop}(nil:d _ _ (gd.nil))(cons:∀ {v f:R2} (j:Nat) {l e:List (Nat×R2)} (h:ap ρ v f) (c:gd ρ l e),(d _ _ c)→d _ _ (gd.cons j h c)){a:List (Nat×R2)}{b:List (Nat×R2)}(h:gd ρ a b):d a b h:=(h (fun a b=>gd ρ a b∧∀ h,d a b h) (⟨gd.nil,fun _=>nil⟩) (fun {v} {f} j {l} {e} h c=>⟨gd.cons j h c.1,fun _=>cons j h c.1 (c.2 _)⟩)).2 h
def gd.mono{σ:aI G}(b:ρ.le σ){l a:List (Nat×R2)}(h:gd ρ l a):gd σ l a:=by
 induction h using gd.ind with
 |nil=>exact .nil
 |cons d h _ c=>exact .cons d (h.mono b) c
def iw.zip{l a:List R2}(h:iw ρ l a):∀ k,oE ρ (l.zipIdx k) (a.zipIdx k):=by
 induction h using iw.ind with
 |nil=>exact fun _=>.nil
 |cons b _ c=>exact fun k=>.cons k b (c (k+1))
def N9(off:Nat){l b:List (R2×Nat)}(h:oE ρ l b):∀ {cs a:Array R2},aQ ρ cs a→aQ ρ (l.foldl (fun cs (c,j)=>cs.setIfInBounds (off+j) c) cs) (b.foldl (fun cs (c,j)=>cs.setIfInBounds (off+j) c) a):=by
 induction h using oE.ind with
 |nil=>exact fun h=>h
 |cons j d _ e=>exact fun h=>e (h.set d _)
theorem BU(a:Nat→Option (Nat×Nat)){ps d:List (Nat×R2)}(g:gd ρ ps d):∀ {cs b:Array R2},aQ ρ cs b→(Vh a cs ps=RZ∧Vh a b d=RZ)∨∃ x f,Vh a cs ps=RX x∧Vh a b d=RX f∧aQ ρ x f:=by
 induction g using gd.ind with
 |nil=>exact fun c=>.inr ⟨_,_,rfl,rfl,c⟩
 |cons i h _ j=>
  intro cs b c;have e:=h.cells;simp only[Vh];cases a i with
  |none=>exact .inl ⟨rfl,rfl⟩
  |some l=>
   obtain⟨k,m⟩:=l;simp only[e.1,c.1]
   split
   ·exact .inl ⟨rfl,rfl⟩
   ·refine j ?_;rw[← Array.foldl_toList,← Array.foldl_toList,Array.toList_zipIdx,Array.toList_zipIdx];exact N9 k (e.toList.zip 0) c
theorem LA{α c:Type}(g:α→Ul c):∀ (l:List α) {ρ:aI G},(∀ σ,ρ.le σ→∀ x∈l,ak P P' (ir (α:=c)) σ (g x) (g x))→ak P P' (ir (α:=List c)) ρ (l.mapM g) (l.mapM g)
 | [],ρ,a=>by rw[List.mapM_nil];exact .au rfl
 |x :: l,ρ,a=>by
  rw[List.mapM_cons];refine(a ρ (aI.le.refl _) x (by simp)).bindM (fun σ e f h b=>?_);cases b;refine(LA g l (fun d i k j=>a d (h.trans i) k (by simp[j]))).bindM (fun d e f _ b=>?_);cases b;exact .au rfl
def PG{α a:Type}(g:α→Ul a)(l:Array α)(h:∀ σ,ρ.le σ→∀ x∈l.toList,ak P P' (ir (α:=a)) σ (g x) (g x)):ak P P' (ir (α:=Array a)) ρ (l.mapM g) (l.mapM g):=by
 rw[Array.mapM_eq_mapM_toList];exact ak.bind (A:=ir (α:=List a)) (LA g l.toList h) (fun σ c d _ b=>by cases b;exact .pure rfl)
theorem NK(L:Alike G P P')(t:Sg){ps n:Array (Nat×R2)}(h:gd ρ ps.toList n.toList):ak P P' ap ρ (Instr.build t ps) (Instr.build t n):=by
 unfold Instr.build;refine(iS L.S t).bindM (fun y C D r i=>?_);refine(aK L.S t).bindM (fun p w B l u=>?_);obtain⟨rfl,-⟩:=u;have m:=h.mono (r.trans l);have i:=i.cells.mono l;cases w with
 |struct k=>
  have s:ak P P' (ir (α:=Array (Nat×Nat))) p (k.mapM fun f=>do pure (f.offset,← V3 f.type)) (k.mapM fun f=>do pure (f.offset,← V3 f.type)):=
   PG _ _ (fun y _ o _=>(cC L.S _).bindM (fun p c j _ e=>by cases e;exact .au rfl))
  refine s.bindM (fun z c j g e=>?_);cases e;rcases BU (c[·]?) (m.mono g) (i.mono g) with⟨a,b⟩|⟨o,x,a,b,d⟩
  ·rw[a,b];exact ak.stuck
  ·rw[a,b];exact .au (.agg d.1 d.2)
 |array A q=>
  refine(cC L.S q).bindM (fun z c j g e=>?_);cases e;rcases BU (fun v=>RX (v*c,c)) (m.mono g) (i.mono g) with⟨a,b⟩|⟨o,x,a,b,d⟩
  ·rw[a,b];exact ak.stuck
  ·rw[a,b];exact .au (.agg d.1 d.2)
 |_=>exact ak.stuck
theorem Bl(L:Alike G P P')(t:Sg)(n:Nat){ps m:Array (Nat×R2)}(h:gd ρ ps.toList m.toList):ak P P' ap ρ (UK t n ps) (UK t n m):=by
 unfold UK;refine(aK L.S t).bindM (fun q y A u x=>?_);obtain⟨rfl,-⟩:=x;cases y with
 |slice b=>
  refine(cC L.S b).bindM (fun z a o v s=>?_);cases s;have w:=h.mono (u.trans v);dsimp only;have p:∀ {f:aI G} {d e:Array R2},z.le f→aQ f d e→ak P P' ap f (match Vh (fun c=>RX (c*a,a)) ((VA (n*a)).map (d[· % d.size]!)) ps.toList with|some g=>do pure (.slice (RX (← newRow b g)) n n)|_=>stuck "buildSlice: a part of the wrong size") (match Vh (fun c=>RX (c*a,a)) ((VA (n*a)).map (e[· % e.size]!)) m.toList with|some g=>do pure (.slice (RX (← newRow b g)) n n)|_=>stuck "buildSlice: a part of the wrong size"):=by
   intro f d e k l;rcases BU (fun c=>RX (c*a,a)) (w.mono k) (k8 l (n*a)) with⟨i,j⟩|⟨B,C,i,j,r⟩
   ·rw[i,j];exact ak.stuck
   ·rw[i,j];exact(o7 b r).bindM (fun q a o _ h=>.au (.sl h _ _))
  split
  ·exact ak.cO
  ·split
   ·exact p (aI.le.refl _) (aQ.nil _)
   ·exact(iS L.S b).bindM (fun q a o k l=>p k l.cells)
 |_=>exact ak.stuck
def vj(L:Alike G P P')(t:Sg){v a:R2}(h:ap ρ v a):ak P P' ap ρ (Instr.makeInterface t v) (Instr.makeInterface t a):=by
 unfold Instr.makeInterface;refine(aK L.S t).bindM (fun f d e b c=>?_);obtain⟨rfl,-⟩:=c
 split
 ·exact ak.stuck
 ·exact .au (.iface t (h.mono b))
theorem IX(L:Alike G P P')(t:Sg){o o':Option R2}(h:dN ρ o o'):ak P P' ap ρ (Instr.makeMap t o) (Instr.makeMap t o'):=by
 unfold Instr.makeMap;have a:∀ {g:aI G},ak P P' ap g (do pure (.map (RX (← newObj (.map #[] 0))))) (do pure (.map (RX (← newObj (.map #[] 0))))):=.new (.map rfl (fun n b=>by simp at b) 0) (fun q r d=>.pure (.map (aI.vF _ _ _ d)));cases h using dN.ind with
 |none=>exact a
 |some h=>
  refine(aK L.S t).bindM (fun i f s c e=>?_);obtain⟨rfl,-⟩:=e;cases f with
  |map p l=>exact(nN (h.mono c)).bindM (fun i j k _ m=>a)
  |_=>exact ak.stuck
theorem NL(L:Alike G P P')(t:Sg){v a:R2}(h:ap ρ v a)(i:Nat):ak P P' ap ρ (Instr.field t v i) (Instr.field t a i):=by
 unfold Instr.field;refine(aK L.S t).bindM (fun l j k c d=>?_);obtain⟨rfl,-⟩:=d;cases j with
 |struct b=>
  dsimp only;cases b[i]? with
  |none=>exact ak.stuck
  |some f=>
   have h:=h.mono c;cases h using ap.ind with
   |agg e g=>exact kR L.S _ ⟨e,g⟩ _
   |_=>exact ak.stuck
 |_=>exact ak.stuck
theorem NO(L:Alike G P P')(t:Sg){v d i c:R2}(h:ap ρ v d)(g:ap ρ i c):ak P P' ap ρ (Instr.index t v i) (Instr.index t d c):=by
 unfold Instr.index;refine(pX g).bindM (fun x b e j a=>?_);cases a;obtain⟨q,u⟩:=b;refine(aK L.S t).bindM (fun y p w k m=>?_);obtain⟨rfl,-⟩:=m;have h:=h.mono (j.trans k);cases p with
 |array r f=>
  cases h using ap.ind with
  |agg n o=>
   dsimp only
   split
   ·exact(cC L.S f).bindM (fun z b e l a=>by cases a;exact kR L.S _ (aQ.mono l ⟨n,o⟩) _)
   ·exact nl L.S _ _ _ _
  |_=>exact ak.stuck
 |string=>
  cases h using ap.ind with
  |string s=>
   dsimp only
   split
   ·exact .au (.int _ _)
   ·exact nl L.S _ _ _ _
  |_=>exact ak.stuck
 |_=>cases h using ap.ind<;>exact ak.stuck
def IT{v c:R2}(h:ap ρ v c)(i:Nat):ak P P' ap ρ (Instr.extract v i) (Instr.extract c i):=by
 cases h using ap.ind with
 |tuple e f=>
  simp only[Instr.extract];rcases aQ.get ⟨e,f⟩ i with⟨a,b⟩|⟨v,c,a,b,d⟩
  ·rw[a,b];exact ak.stuck
  ·rw[a,b];exact .au d
 |_=>exact ak.stuck
def NR(a:UnOp){v b:R2}(h:ap ρ v b):ak P P' ap ρ (Op.unary a v) (Op.unary a b):=by
 cases h using ap.ind<;>cases a<;>simp only[Op.unary,Op.intArith,Op.intBits]<;>first|exact ak.stuck|exact ak.cO|exact .au (.int _ _)|exact .au (.bool _)
end
end
section
variable {G:lC}
section
variable {P P':Sd}{ρ:aI G}
def qX{a a' b b':SL}(e:cm ρ a a')(f:cm ρ b b'):(a.block == b.block)=(a'.block == b'.block):=by
 rw[Bool.eq_iff_iff];simp only[beq_iff_eq];constructor
 ·intro c;have d:=e.1;rw[c,f.1] at d;exact(VT d).symm
 ·intro c;exact ρ.inj _ _ _ e.1 (by rw[c];exact f.1)
def addr_eq{a a' b b':SL}(f:cm ρ a a')(g:cm ρ b b'):(a == b)=(a' == b'):=by
 have c:=qX f g;have d:=f.2;have e:=g.2;obtain⟨h,i,j⟩:=a;obtain⟨k,l,m⟩:=a';obtain⟨n,o,p⟩:=b;obtain⟨u1,u2,u3⟩:=b';simp only at c d e;obtain⟨rfl,rfl⟩:=d;obtain⟨rfl,rfl⟩:=e;rw[Bool.eq_iff_iff] at c ⊢;simp only[beq_iff_eq] at c;simp only[beq_iff_eq,U6,c]
def o6{a a':SL}(h:cm ρ a a'):ak P P' (ir (α:=Bool)) ρ (frozen a) (frozen a'):=.frozen h (fun b=>.pure rfl)
def nP{r r':Nat}(h:ρ.f r=RX r'):ak P P' (ir (α:=Option (Sg×Nat))) ρ (shape r) (shape r'):=.shape h (fun a=>.pure rfl)
def uH{a a':SL}(h:cm ρ a a'):ak P P' (ir (α:=Bool)) ρ (stringish a) (stringish a'):=by
 unfold stringish;refine(o6 h).bindM (fun i d f c b=>?_);cases b
 split
 ·exact .au rfl
 ·refine(nP (c _ _ h.1)).bindM (fun j d f e b=>?_);cases b;cases d with
  |none=>exact .au rfl
  |some g=>exact o6 ⟨e _ _ (c _ _ h.1),rfl,rfl⟩
theorem E9{a a' b b':SL}(h:cm ρ a a')(g:cm ρ b b'):ak P P' (ir (α:=Bool)) ρ (mayBeOne a b) (mayBeOne a' b'):=by
 unfold mayBeOne;have k:∀ {f:aI G} {d l:SL},cm f d l→ak P P' (ir (α:=Bool)) f (do pure ((← shape d.block) matches RX (_,0))) (do pure ((← shape l.block) matches RX (_,0))):=fun n=>(nP n.1).bindM (fun q d m _ c=>by cases c;exact .au rfl);refine(uH h).bindM (fun f d m e c=>?_);cases c;refine(uH (g.mono e)).bindM (fun q m s i c=>?_);cases c;refine(k (h.mono (e.trans i))).bindM (fun r o p j c=>?_);cases c;refine(k (g.mono (e.trans (i.trans j)))).bindM (fun r o p j c=>?_);cases c;exact .au rfl
theorem xK{a a' b b':SL}(h:cm ρ a a')(d:cm ρ b b'):ak P P' (ir (α:=Bool)) ρ (sameAddr a b) (sameAddr a' b'):=by
 unfold sameAddr;rw[qX h d,addr_eq h d]
 split
 ·exact .au rfl
 ·refine(o6 h).bindM (fun r p m e c=>?_);cases c;refine(o6 (d.mono e)).bindM (fun s m q f c=>?_);cases c
  split
  ·exact ak.cO
  ·refine(xI (h.mono (e.trans f))).bindM (fun t j k g c=>?_);refine(xI (d.mono (e.trans (f.trans g)))).bindM (fun u j k l c=>?_);have i:=e.trans (f.trans (g.trans l));refine(E9 (h.mono i) (d.mono i)).bindM (fun v j k n c=>?_);cases c
   split
   ·exact o4 _ (fun o=>.au rfl)
   ·exact .au rfl
theorem sb{α a:Type}{f f':α→a→Ul (ForInStep a)}:∀ (l:List α) {ρ:aI G} (b:a),(∀ σ,ρ.le σ→∀ x∈l,∀ b,ak P P' (ir (α:=ForInStep a)) σ (f x b) (f' x b))→ak P P' (ir (α:=a)) ρ (forIn l b f) (forIn l b f')
 | [],ρ,b,c=>by simp only[List.forIn_nil];exact .au rfl
 |x :: l,ρ,b,c=>by
  simp only[List.forIn_cons];refine(c ρ (aI.le.refl _) x (by simp) b).bindM (fun σ d m h g=>?_);cases g;cases d with
  |done b=>exact .au rfl
  |yield b=>exact sb l b (fun k i d j e=>c k (h.trans i) d (by simp[j]) e)
def E7{α a:Type}{f f':α→a→Ul (ForInStep a)}(l:Array α)(b:a)(h:∀ σ,ρ.le σ→∀ x∈l.toList,∀ b,ak P P' (ir (α:=ForInStep a)) σ (f x b) (f' x b)):ak P P' (ir (α:=a)) ρ (forIn l b f) (forIn l b f'):=by
 rw[← Array.forIn_toList,← Array.forIn_toList];exact sb _ _ h
def eL{α c γ a:Type}{B:aI G→γ→a→Prop}{u:Unsupported}{f:α→Ul γ}{f':c→Ul a}(b:oP (.unsupported u)=R7:=by rfl):ak P P' B ρ (unsupported u >>= f) (unsupported u >>= f'):=.halt (.same _ b)
def I0(L:Alike G P P')(t:Sg):ak P P' (ir (α:=String)) ρ (typeStr t) (typeStr t):=by
 unfold typeStr;refine(eV L.S t).bindM (fun d b c _ a=>?_);obtain⟨rfl,-⟩:=a;dsimp only
 split
 ·exact ak.cO
 ·exact .au rfl
theorem xJ{r r':Nat}(h:ρ.f r=RX r'):ak P P' (fun σ (x y:Option (SL×Bool))=>(x=RZ∧y=RZ)∨∃ a a' l,x=RX (a,l)∧y=RX (a',l)∧cm σ a a') ρ (numberAt r) (numberAt r'):=by
 unfold numberAt;refine(nP h).bindM (fun σ a i e d=>?_);cases d
 split
 ·exact .au (.inl ⟨rfl,rfl⟩)
 ·refine ak.bindM (A:=cZ) (.getObj (e _ _ h) (fun f g b=>.pure b)) (fun k f g j b=>?_);cases b using cZ.ind with
  |number c l=>exact .au (.inr ⟨_,_,_,rfl,rfl,c⟩)
  |_=>exact .au (.inl ⟨rfl,rfl⟩)
def jh{a a':SL}(h:cm ρ a a'):ak P P' (fun σ (x y:SL×Bool)=>cm σ x.1 y.1∧x.2=y.2) ρ (Us a) (Us a'):=by
 unfold Us;refine(xJ h.1).bindM (fun σ x y d b=>?_);rcases b with⟨rfl,rfl⟩|⟨e,f,g,rfl,rfl,c⟩
 ·exact .au ⟨h.mono d,rfl⟩
 ·exact .au ⟨c,rfl⟩
theorem pY(L:Alike G P P'):∀ (d:Nat) {ρ:aI G} (t:Sg) {x u y w:R2},ap ρ x u→ap ρ y w→ak P P' (ir (α:=Bool)) ρ (Op.equalIn d t x y) (Op.equalIn d t u w)
 |0,ρ,t,x,u,y,w,c,a=>by unfold Op.equalIn;exact ak.cO
 |d+1,ρ,t,x,u,y,w,c,a=>by
  unfold Op.equalIn;refine(aK L.S t).bindM (fun X T ar H I=>?_);obtain⟨rfl,I⟩:=I;have c:=c.mono H;have a:=a.mono H;cases T with
  |struct M=>
   cases c using ap.ind with
   |agg k o=>
    cases a using ap.ind with
    |agg B C=>
     dsimp only;refine .asks ?_;rw[L.GP]
     split
     ·exact eL
     ·refine ak.bindM (A:=ir) (E7 M _ (fun p e f _ h=>?_)) (fun p g h e b=>?_)
      ·split
       ·refine(kR L.S f.type (aQ.mono e ⟨k,o⟩) _).bindM (fun z v U q s=>?_);refine(kR L.S f.type (aQ.mono (e.trans q) ⟨B,C⟩) _).bindM (fun A V W i D=>?_);refine(pY L d f.type (s.mono i) D).bindM (fun Y g h _ b=>?_);cases b
        split<;>exact .au rfl
       ·exact .au rfl
      ·cases b
       split<;>exact .au rfl
    |_=>exact ak.stuck
   |_=>cases a using ap.ind<;>exact ak.stuck
  |array al j=>
   cases c using ap.ind with
   |agg k o=>
    cases a using ap.ind with
    |agg B C=>
     dsimp only;refine(cC L.S j).bindM (fun p r S e b=>?_);cases b;rw[Tz,Tz];refine ak.bindM (A:=ir) (sb _ _ (fun z q ad _ h=>?_)) (fun p g h e b=>?_)
     ·refine(kR L.S j (aQ.mono (e.trans q) ⟨k,o⟩) _).bindM (fun z v U i s=>?_);refine(kR L.S j (aQ.mono (e.trans (q.trans i)) ⟨B,C⟩) _).bindM (fun A V W i D=>?_);refine(pY L d j (s.mono i) D).bindM (fun Y g h _ b=>?_);cases b
      split<;>exact .au rfl
     ·cases b
      split<;>exact .au rfl
    |_=>exact ak.stuck
   |_=>cases a using ap.ind<;>exact ak.stuck
  |interface am=>
   cases c using ap.ind with
   |nilIface=>cases a using ap.ind<;>first|exact ak.stuck|exact .au rfl
   |iface F s=>
    cases a using ap.ind with
    |nilIface=>exact .au rfl
    |iface ao Q=>
     dsimp only
     split
     ·exact .au rfl
     ·refine(eV L.S F).bindM (fun p g h e b=>?_);obtain⟨rfl,-⟩:=b
      split
      ·refine .asks ?_;refine .asks ?_;rw[L.Ln,L.depth]
       split
       ·exact eL
       ·exact(I0 L F).bindM (fun p g h _ b=>by cases b;exact dX L.S _ (by simp) (by simp) (by simp))
      ·exact pY L d F (s.mono e) (Q.mono e)
    |_=>exact ak.stuck
   |_=>cases a using ap.ind<;>exact ak.stuck
  |pointer j=>
   cases c using ap.ind with
   |cD=>cases a using ap.ind<;>first|exact ak.stuck|exact .au rfl
   |ptr l=>
    cases a using ap.ind with
    |cD=>exact .au rfl
    |ptr n=>
     dsimp only;refine(cC L.S j).bindM (fun p r S e b=>?_);cases b;rw[addr_eq l n]
     split
     ·exact xK (l.mono e) (n.mono e)
     ·split
      ·exact .au rfl
      ·exact o4 _ (fun r=>.au rfl)
    |_=>exact ak.stuck
   |_=>cases a using ap.ind<;>exact ak.stuck
  |unsafePointer=>
   cases c using ap.ind with
   |cD=>cases a using ap.ind<;>first|exact ak.stuck|exact .au rfl
   |ptr l=>
    cases a using ap.ind with
    |cD=>exact .au rfl
    |ptr n=>exact xK l n
    |_=>exact ak.stuck
   |_=>cases a using ap.ind<;>exact ak.stuck
  |chan Z j=>
   cases c using ap.ind with
   |gP=>cases a using ap.ind<;>first|exact ak.stuck|exact .au rfl
   |chan l=>
    cases a using ap.ind with
    |gP=>exact .au rfl
    |chan n=>
     refine .au ?_;have:=qX (ρ:=X) (a:=⟨_,0,RZ⟩) (a':=⟨_,0,RZ⟩) (b:=⟨_,0,RZ⟩) (b':=⟨_,0,RZ⟩) ⟨l,rfl,rfl⟩ ⟨n,rfl,rfl⟩;simpa [ir] using this
    |_=>exact ak.stuck
   |_=>cases a using ap.ind<;>exact ak.stuck
  |int E=>
   cases c using ap.ind with
   |int R g=>
    rcases g with(_|r)|r
    all_goals
     cases a using ap.ind with
     |int ae h=>
      rcases h with(_|m)|m
      all_goals
       dsimp only
       split
       ·exact .au rfl
       ·exact ak.stuck
     |ptr ab=>first|exact .au rfl|exact ak.cO
     |cD=>exact ak.cO
     |_=>exact ak.stuck
   |cD=>cases a using ap.ind<;>exact ak.cO
   |ptr l=>
    cases a using ap.ind with
    |ptr n=>
     dsimp only;refine(jh l).bindM (fun p g h e b=>?_);refine(jh (n.mono e)).bindM (fun z J K q N=>?_);have k:=b.1.mono q;have o:=N.1;refine .asks ?_;rw[qX k o,L.wT,L.KR];have O:decide (g.1.block<G.g)=decide (h.1.block<G.g):=by
      rw[decide_eq_decide];exact z.Nd _ _ k.1
     rw[O]
     split
     ·refine(lZ L k).bindM (fun A x y i b=>?_);cases b;refine(lZ L (o.mono i)).bindM (fun A x y i b=>?_);cases b;exact .au rfl
     ·refine(eV L.S t).bindM (fun A x y i b=>?_);obtain⟨rfl,-⟩:=b;rw[addr_eq k o]
      (repeat' split)<;>first|exact ak.cO|exact .au rfl
    |int R g=>
     rcases g with(_|r)|r
     ·exact .au rfl
     ·exact ak.cO
     ·exact ak.cO
    |_=>exact ak.cO
   |_=>cases a using ap.ind<;>first|exact ak.stuck|exact ak.cO
  |slice j=>cases c using ap.ind<;>first|exact ak.stuck|(cases a using ap.ind<;>first|exact ak.stuck|exact .au rfl)
  |map E K=>cases c using ap.ind<;>first|exact ak.stuck|(cases a using ap.ind<;>first|exact ak.stuck|exact .au rfl)
  |func g h J=>cases c using ap.ind<;>first|exact ak.stuck|(cases a using ap.ind<;>first|exact ak.stuck|exact .au rfl)
  |bool=>cases c using ap.ind<;>first|exact ak.stuck|(cases a using ap.ind<;>first|exact ak.stuck|exact .au rfl)
  |string=>cases c using ap.ind<;>first|exact ak.stuck|(cases a using ap.ind<;>first|exact ak.stuck|exact .au rfl)
  |float E=>cases c using ap.ind<;>first|exact ak.stuck|(cases a<;>first|exact ak.stuck|(dsimp only;split<;>first|exact .au rfl|exact ak.stuck))
  |complex E=>cases c using ap.ind<;>first|exact ak.stuck|(cases a<;>first|exact ak.stuck|(dsimp only;split<;>first|exact .au rfl|exact ak.stuck))
  |_=>cases c using ap.ind<;>first|exact ak.stuck|(cases a<;>exact ak.stuck)
end
end
section
variable {G:lC}
section
variable {P P':Sd}{ρ:aI G}
def Bm(L:Alike G P P')(t:Sg){x a y b:R2}(c:ap ρ x a)(d:ap ρ y b):ak P P' (ir (α:=Bool)) ρ (Op.equal t x y) (Op.equal t a b):=pY L _ t c d
theorem o5(L:Alike G P P'):∀ (d:Nat) {ρ:aI G} (t:Sg) {x k y l:R2},ap ρ x k→ap ρ y l→ak P P' (ir (α:=Bool)) ρ (Op.eqGuardIn d t x y) (Op.eqGuardIn d t k l)
 |0,ρ,t,x,k,y,l,e,b=>by unfold Op.eqGuardIn;exact ak.cO
 |d+1,ρ,t,x,k,y,l,e,b=>by
  unfold Op.eqGuardIn;refine(aK L.S t).bindM (fun R C Q w z=>?_);obtain⟨rfl,z⟩:=z;have e:=e.mono w;have b:=b.mono w;cases C with
  |struct B=>
   cases e using ap.ind with
   |agg n o=>
    cases b using ap.ind with
    |agg p q=>
     dsimp only;refine ak.bindM (A:=ir) (E7 B _ (fun u c f _ g=>?_)) (fun u m g c a=>?_)
     ·split
      ·refine(kR L.S f.type (aQ.mono c ⟨n,o⟩) _).bindM (fun A v D j r=>?_);refine(kR L.S f.type (aQ.mono (c.trans j) ⟨p,q⟩) _).bindM (fun H E F h s=>?_);refine(o5 L d f.type (r.mono h) s).bindM (fun I m g _ a=>?_);cases a
       split<;>exact .au rfl
      ·exact .au rfl
     ·cases a
      split<;>exact .au rfl
    |_=>exact .au rfl
   |_=>cases b using ap.ind<;>exact .au rfl
  |array K i=>
   cases e using ap.ind with
   |agg n o=>
    cases b using ap.ind with
    |agg p q=>
     dsimp only;refine(cC L.S i).bindM (fun u N O c a=>?_);cases a;rw[Tz,Tz];refine ak.bindM (A:=ir) (sb _ _ (fun A j J _ g=>?_)) (fun u m g c a=>?_)
     ·refine(kR L.S i (aQ.mono (c.trans j) ⟨n,o⟩) _).bindM (fun A v D h r=>?_);refine(kR L.S i (aQ.mono (c.trans (j.trans h)) ⟨p,q⟩) _).bindM (fun H E F h s=>?_);refine(o5 L d i (r.mono h) s).bindM (fun I m g _ a=>?_);cases a
      split<;>exact .au rfl
     ·cases a
      split<;>exact .au rfl
    |_=>exact .au rfl
   |_=>cases b using ap.ind<;>exact .au rfl
  |interface M=>cases e using ap.ind<;>first|exact .au rfl|(cases b using ap.ind<;>exact .au rfl)
  |_=>cases e using ap.ind<;>first|exact .au rfl|(cases b<;>exact .au rfl)
theorem IS(L:Alike G P P')(f:V5)(t:Sg)(x y:S3){a a' b b':R2}(e:ap ρ a a')(c:ap ρ b b'):ak P P' (ir (α:=Unit)) ρ (eqGuard f t x y a b) (eqGuard f t x y a' b'):=by
 have h:∀ {d:aI G} {s:String} {a a' b b':R2},ap d a a'→ap d b b'→ak P P' (ir (α:=Unit)) d (do if ← Op.eqGuardIn Op.maxDepth t a b then unsupported (.noEntry s)) (do if ← Op.eqGuardIn Op.maxDepth t a' b' then unsupported (.noEntry s)):=fun e c=>
  (o5 L _ t e c).bindM (fun d a b _ n=>by
    cases n
    split
    ·exact ak.cO
    ·exact .au rfl)
 have i:ak P P' (ir (α:=Unit)) ρ (eqGuard .eql t x y a b) (eqGuard .eql t x y a' b'):=by
  unfold eqGuard;cases e using ap.ind with
  |nilIface=>
   cases c using ap.ind with
   |nilIface=>cases x<;>cases y<;>first|exact ak.au (A:=ir (α:=Unit)) rfl|exact h .nilIface .nilIface
   |_=>exact ak.au (A:=ir (α:=Unit)) rfl
  |agg j k=>
   cases c using ap.ind with
   |agg l m=>
    refine ak.asks (k:=fun g=>_) (k':=fun g=>_) ?_;refine ak.asks (k:=fun g=>_) (k':=fun g=>_) ?_;rw[L.QY,L.depth]
    split
    ·exact .au rfl
    ·exact h (.agg j k) (.agg l m)
   |_=>exact ak.au (A:=ir (α:=Unit)) rfl
  |_=>cases c using ap.ind<;>exact ak.au (A:=ir (α:=Unit)) rfl
 cases f<;>first|exact ak.au (A:=ir (α:=Unit)) rfl|exact i
theorem mL(L:Alike G P P')(e:Array Sg)(t:Sg){x f:R2}(k:Uo)(n:Int)(i:ap ρ x f):ak P P' ap ρ (U0 e t #[x,.int k n]) (U0 e t #[f,.int k n]):=by
 unfold U0;cases i using ap.ind with
 |cD=>
  dsimp only;refine(nN (.int k n)).bindM (fun l g h c a=>?_);cases a
  split
  ·exact ak.cO
  ·split<;>exact ak.cO
 |ptr b=>
  dsimp only;refine(nN (.int k n)).bindM (fun l g h c a=>?_);cases a
  split
  ·refine(Dj (c _ _ b.1)).bindM (fun m x j d a=>?_);obtain⟨rfl,rfl⟩:=a;exact .au (.ptr (b.mono (c.trans d)))
  ·split
   ·exact ak.cO
   ·refine(nP (c _ _ b.1)).bindM (fun m x j d a=>?_);cases a;cases x with
    |none=>exact ak.cO
    |some o=>
     dsimp only;refine .asks ?_;rw[L.cells,L.cellAt,L.depth,← b.2.1]
     split
     ·exact .au (.ptr ⟨(c.trans d) _ _ b.1,rfl,b.2.2⟩)
     ·exact ak.cO
 |_=>exact ak.stuck
theorem iC(L:Alike G P P')(t:Sg){o o':Option SL}(k:Uo)(n:Int)(e:ap ρ (.pointer o) (.pointer o')):ak P P' ap ρ (movedNumber t (.pointer o) (.int k n)) (movedNumber t (.pointer o') (.int k n)):=by
 unfold movedNumber;refine(aK L.S t).bindM (fun j i y q d=>?_);obtain⟨rfl,d⟩:=d;have e:=e.mono q;clear d;cases e using ap.ind with
 |ptr m=>
  rename_i g l;have f:ak P P' ap j (Us g >>= fun a=>U0 #[] t #[.pointer (RX a.1),.int k n] >>= fun c=>match c with| .pointer (RX b)=>asNumber b a.2|v=>pure v) (Us l >>= fun a=>U0 #[] t #[.pointer (RX a.1),.int k n] >>= fun c=>match c with| .pointer (RX b)=>asNumber b a.2|v=>pure v):=by
   refine(jh m).bindM (fun A g b u h=>?_);refine(mL L _ _ k n (.ptr h.1)).bindM (fun B v z w s=>?_);rw[h.2];cases s using ap.ind with
   |ptr p=>exact .new (.number p _) (fun c x r=>.pure (.ptr ⟨aI.vF _ _ _ r,rfl,rfl⟩))
   |_=>exact .au (by first|exact .bool _|exact .int _ _|exact .string _|exact .cD|exact .ptr ‹_› |exact .jd _ _|exact .sl ‹_› _ _|exact .jH|exact .map ‹_› |exact .gP|exact .chan ‹_› |exact .nilFunc|exact .nilIface|exact .iface _ ‹_› |exact .agg ‹_› ‹_› |exact .tuple ‹_› ‹_› |exact .func ‹_› ‹_› ‹_› ‹_› ‹_›)
  cases i<;>first|exact eL|exact f
 |cD=>
  have f:=mL L (ρ:=j) #[] t k n .cD;cases i<;>first|exact eL|exact f
theorem xH(L:Alike G P P')(t:Sg){o o':Option SL}(k:Uo)(n:Int)(d:ap ρ (.pointer o) (.pointer o')):ak P P' ap ρ (movedPointer t (.pointer o) (.int k n)) (movedPointer t (.pointer o') (.int k n)):=by
 unfold movedPointer;cases d using ap.ind with
 |cD=>exact mL L _ _ k n .cD
 |ptr a=>
  refine(xJ a.1).bindM (fun l i j c b=>?_);rcases b with⟨rfl,rfl⟩|⟨e,f,h,rfl,rfl,g⟩
  ·exact mL L #[] t k n (.ptr (a.mono c))
  ·exact eL
theorem uI(L:Alike G P P'){a a' b b':SL}(c:cm ρ a a')(e:cm ρ b b'):ak P P' (ir (α:=Nat×Nat)) ρ (Op.twoPlaces a b) (Op.twoPlaces a' b'):=by
 unfold Op.twoPlaces;refine .asks ?_;have g:decide (a.block≥G.g)=decide (a'.block≥G.g):=by
  rw[decide_eq_decide];have:=ρ.Nd _ _ c.1;omega
 have h:(a.block != b.block)=(a'.block != b'.block):=by
  have:=qX c e;simp only[bne,this]
 rw[L.wT,L.KR,h,g]
 split
 ·exact eL
 ·refine(lZ L c).bindM (fun k i j f d=>?_);cases d;refine(lZ L (e.mono f)).bindM (fun k i j f d=>?_);cases d;exact .au rfl
theorem z5(L:Alike G P P')(k:Uo){a a':SL}(n:Int)(d:cm ρ a a'):ak P P' ap ρ (Op.addrMod k a n) (Op.addrMod k a' n):=by
 unfold Op.addrMod;refine(nP d.1).bindM (fun h c f e b=>?_);cases b;cases c with
 |none=>exact ak.cO
 |some i=>
  refine(eV L.S _).bindM (fun j c f g b=>?_);obtain⟨rfl,-⟩:=b;dsimp only
  split
  ·exact eL
  ·refine(lZ L (d.mono (e.trans g))).bindM (fun h c f e b=>?_);cases b;exact .au (.int _ _)
def E8(c:V5)(k:Uo)(a b:Int):ak P P' (ap (ρ:=·)) ρ (Op.intArith c k a b) (Op.intArith c k a b):=by
 cases c<;>first|exact .au (.int _ _)|exact ak.stuck
def IW(c:V5)(k:Uo)(a b:Int):ak P P' (ap (ρ:=·)) ρ (Op.intBits c k a b) (Op.intBits c k a b):=by
 cases c<;>first|exact .au (.int _ _)|exact ak.stuck
def Lv(c:V5)(a b:Int):ak P P' (ap (ρ:=·)) ρ (Op.intCmp c a b) (Op.intCmp c a b):=by
 cases c<;>first|exact .au (.bool _)|exact ak.stuck
def Lx(L:Alike G P P')(c:V5)(k:Uo)(a b:Int):ak P P' (ap (ρ:=·)) ρ (Op.intDiv c k a b) (Op.intDiv c k a b):=by
 unfold Op.intDiv
 split
 ·exact dX L.S _ (by simp) (by simp) (by simp)
 ·cases c<;>first|exact .au (.int _ _)|exact ak.stuck
def NP(L:Alike G P P')(c:V5)(k:Uo)(a:Int)(d:Uo)(b:Int):ak P P' (ap (ρ:=·)) ρ (Op.shift c k a d b) (Op.shift c k a d b):=by
 unfold Op.shift
 split
 ·exact dX L.S _ (by simp) (by simp) (by simp)
 ·cases c<;>first|exact .au (.int _ _)|exact ak.stuck
def Fc(c:V5)(a b:ByteArray):ak P P' (ap (ρ:=·)) ρ (Op.stringOp c a b) (Op.stringOp c a b):=by
 cases c
 all_goals
  unfold Op.stringOp;dsimp only
  first
  |exact .au (.bool _)
  |exact ak.stuck
  |(split
    ·exact ak.cO
    ·exact .au (.string _))
def PF(L:Alike G P P')(c:V5)(t:Sg)(k:Uo)(a:Int)(d:Uo)(b:Int):ak P P' (ap (ρ:=·)) ρ (binOp c t (.int k a) (.int d b)) (binOp c t (.int k a) (.int d b)):=by
 cases c
 all_goals
  unfold binOp;dsimp only
  first
  |exact NP L _ _ _ _ _
  |(split
    ·exact ak.stuck
    ·first|exact E8 _ _ _ _|exact Lx L _ _ _ _|exact IW _ _ _ _|exact Lv _ _ _)
theorem NJ(L:Alike G P P')(c:V5)(t:Sg){x l y m:R2}(p:ap ρ x l)(k:ap ρ y m):ak P P' ap ρ (binOp c t x y) (binOp c t l m):=by
 have f:∀ {x l y m:R2},ap ρ x l→ap ρ y m→ak P P' ap ρ (do pure (.bool (← Op.equal t x y))) (do pure (.bool (← Op.equal t l m))):=fun p k=>(Bm L t p k).bindM (fun q h i _ j=>by cases j;exact .au (.bool _));have g:∀ {x l y m:R2},ap ρ x l→ap ρ y m→ak P P' ap ρ (do pure (.bool (!(← Op.equal t x y)))) (do pure (.bool (!(← Op.equal t l m)))):=fun p k=>(Bm L t p k).bindM (fun q h i _ j=>by cases j;exact .au (.bool _));have a:=p;have b:=k;have B:∀ {w z:Option SL} (d:Uo) (o:Int),ap ρ (.pointer w) (.pointer z)→ak P P' ap ρ (do if (← U3 t) matches .unsafePointer then movedPointer t (.pointer w) (.int d o) else movedNumber t (.pointer w) (.int d o)) (do if (← U3 t) matches .unsafePointer then movedPointer t (.pointer z) (.int d o) else movedNumber t (.pointer z) (.int d o)):=fun d o e=>by
  refine(aK L.S t).bindM (fun q K O n H=>?_);obtain⟨rfl,-⟩:=H;have e:=e.mono n;cases K<;>first|exact xH L t d o e|exact iC L t d o e
 cases p using ap.ind with
 |int d h=>
  cases k using ap.ind with
  |int I i=>exact PF L c t d h I i
  |ptr e=>
   cases c<;>first
    |exact f (.int d h) (.ptr e)
    |exact g (.int d h) (.ptr e)
    |exact iC L t d h (.ptr e)
    |exact(jh e).bindM (fun q h i n j=>z5 L _ _ j.1)
    |exact ak.cO
  |cD=>
   cases c<;>first
    |exact f (.int d h) .cD
    |exact g (.int d h) .cD
    |exact iC L t d h .cD
    |exact ak.cO
  |_=>cases c<;>first|exact f a b|exact g a b|exact ak.stuck
 |string s=>
  cases k using ap.ind with
  |string J=>cases c<;>(unfold binOp;exact Fc _ s J)
  |ptr e=>cases c<;>first|exact f a b|exact g a b|exact ak.cO
  |cD=>cases c<;>first|exact f a b|exact g a b|exact ak.cO
  |_=>cases c<;>first|exact f a b|exact g a b|exact ak.stuck
 |ptr e=>
  cases k using ap.ind with
  |int d i=>
   cases c<;>first
    |exact f a b
    |exact g a b
    |exact B d i a
    |exact iC L t d (-i) a
    |exact(jh e).bindM (fun q h i n j=>z5 L _ _ j.1)
    |exact ak.cO
  |ptr A=>
   have F:ak P P' ap ρ (do Op.addrSub .u64 (← Us _).1 (← Us _).1) (do Op.addrSub .u64 (← Us _).1 (← Us _).1):=
    (jh e).bindM (fun q h i n j=>(jh (A.mono n)).bindM (fun M C D u r=>(uI L (j.1.mono u) r.1).bindM (fun N x y _ v=>by cases v;exact .au (.int _ _))))
   have E:∀ c,ak P P' ap ρ (do Op.addrCmp c (← Us _).1 (← Us _).1) (do Op.addrCmp c (← Us _).1 (← Us _).1):=fun c=>
    (jh e).bindM (fun q h i n j=>(jh (A.mono n)).bindM (fun M C D u r=>(uI L (j.1.mono u) r.1).bindM (fun N x y _ v=>by cases v;cases c<;>first|exact .au (.bool _)|exact ak.cO)))
   cases c<;>first
    |exact f a b
    |exact g a b
    |exact F
    |exact E _
    |exact ak.cO
  |_=>cases c<;>first|exact f a b|exact g a b|exact ak.cO
 |cD=>
  cases k using ap.ind with
  |int d i=>
   cases c<;>first
    |exact f a b
    |exact g a b
    |exact B d i a
    |exact iC L t d (-i) a
    |exact ak.cO
  |_=>cases c<;>first|exact f a b|exact g a b|exact ak.cO
 |_=>
  cases k using ap.ind with
  |ptr e=>cases c<;>first|exact f a b|exact g a b|exact ak.cO
  |cD=>cases c<;>first|exact f a b|exact g a b|exact ak.cO
  |_=>cases c<;>first|exact f a b|exact g a b|exact ak.stuck
end
end
section
variable {G:lC}
def eH (ρ:aI G)(f:List TM)(g:List TM):Prop:=∀ a:List TM→List TM→Prop,(a [] [])→(∀ {b c:TM} {d e:List TM} (h:rD ρ b c) (i:a d e),a (b :: d) (c :: e))→a f g
def eH.nil{ρ:aI G}:eH ρ [] []:=fun b a c=>a
def eH.cons{ρ:aI G}{e e':TM}{l b:List TM}(h:rD ρ e e')(f:eH ρ l b):eH ρ (e :: l) (e' :: b):=fun c d a=>a h (f c d a)
def eH.ind{ρ:aI G}{d:∀ (a:List TM) (b:List TM),eH ρ a b→Prop}(nil:d _ _ (eH.nil))(cons:∀ {e e':TM} {l f:List TM} (h:rD ρ e e') (c:eH ρ l f),(d _ _ c)→d _ _ (eH.cons h c)){a:List TM}{b:List TM}(h:eH ρ a b):d a b h:=(h (fun a b=>eH ρ a b∧∀ h,d a b h) (⟨eH.nil,fun _=>nil⟩) (fun h c=>⟨eH.cons h c.1,fun _=>cons h c.1 (c.2 _)⟩)).2 h
def eH.mono{ρ σ:aI G}(b:ρ.le σ){l a:List TM}(h:eH ρ l a):eH σ l a:=by
 induction h using eH.ind with
 |nil=>exact .nil
 |cons h _ c=>exact .cons (h.mono b) c
theorem CD{ρ:aI G}:∀ (l a:List TM),l.length=a.length→(∀ i (h:i<l.length) (e:i<a.length),rD ρ l[i] a[i])→eH ρ l a
 | [],[],_,_=>.nil
 | [],_ :: _,h,_=>by simp at h
 |_ :: _,[],h,_=>by simp at h
 |v :: l,f :: a,h,b=>.cons (b 0 (by simp) (by simp)) (CD l a (by simpa using h) (fun i c d=>b (i+1) (by simpa using c) (by simpa using d)))
def mX (ρ:aI G)(es b:Array TM):Prop:=es.size=b.size∧∀ a (c:a<es.size) (d:a<b.size),rD ρ es[a] b[a]
def mX.mono{ρ σ:aI G}(d:ρ.le σ){l a:Array TM}(h:mX ρ l a):mX σ l a:=⟨h.1,fun e b c=>(h.2 e b c).mono d⟩
def mX.toList{ρ:aI G}{es a:Array TM}(h:mX ρ es a):eH ρ es.toList a.toList:=
 CD _ _ (by simpa using h.1) (fun d b c=>by simpa using h.2 d (by simpa using b) (by simpa using c))
def plainKey(P:Sd):Nat→Sg→Bool
 |0,_=>R7
 |d+1,c=>match P.underlying c with
  |some (.interface _)=>R6
  |some (.array _ a)=>plainKey P d a
  |some (.struct b)=>b.toList.all fun f=>plainKey P d f.type
  |_=>R7
section
variable {P P':Sd}{ρ:aI G}
theorem nO(L:Alike G P P')(j k:Bool):∀ (d:Nat) {ρ:aI G} (t:Sg) {v c:R2},plainKey P d t=R7→ap ρ v c→ak P P' (ir (α:=Unit)) ρ (Vt j d t v) (Vt k d t c)
 |0,ρ,t,v,c,a,b=>by unfold Vt;exact ak.cO
 |d+1,ρ,t,v,c,a,b=>by
  unfold Vt;refine(aK L.S t).bindM (fun J z I y o=>?_);obtain⟨rfl,o⟩:=o;have b:=b.mono y;unfold plainKey at a;rw[o] at a;cases z with
  |interface E=>simp at a
  |struct u=>
   cases b using ap.ind with
   |agg l m=>
    dsimp only;refine ak.bindM (A:=ir) (E7 u _ (fun q g f w e=>?_)) (fun q h e g n=>.au rfl);have x:plainKey P d f.type=R7:=by
     simp only at a;exact SC.1 a f w
    split
    ·refine(kR L.S f.type (aQ.mono g ⟨l,m⟩) _).bindM (fun A v c r p=>?_);exact(nO L j k d f.type x p).bindM (fun s h e _ _=>.au rfl)
    ·exact .au rfl
   |_=>exact ak.stuck
  |array D i=>
   cases b using ap.ind with
   |agg l m=>
    dsimp only;rw[Tz,Tz];refine ak.bindM (A:=ir) (sb _ _ (fun q g C _ e=>?_)) (fun q h e g n=>.au rfl);refine(cC L.S i).bindM (fun A F H r n=>?_);cases n;refine(kR L.S i (aQ.mono (g.trans r) ⟨l,m⟩) _).bindM (fun s v c B p=>?_);exact(nO L j k d i (by simpa using a) p).bindM (fun s h e _ _=>.au rfl)
   |_=>exact ak.stuck
  |_=>cases b using ap.ind<;>exact .au rfl
def jX (ρ:aI G)(d:Option (Nat×R2))(e:Option (Nat×R2)):Prop:=∀ a:Option (Nat×R2)→Option (Nat×R2)→Prop,(a RZ RZ)→(∀ (b:Nat) {v c:R2} (f:ap ρ v c),a (RX (b,v)) (RX (b,c)))→a d e
def jX.none{ρ:aI G}:jX ρ RZ RZ:=fun b a c=>a
def jX.some{ρ:aI G}(i:Nat){v a:R2}(h:ap ρ v a):jX ρ (RX (i,v)) (RX (i,a)):=fun c d b=>b i h
def jX.ind{ρ:aI G}{c:∀ (a:Option (Nat×R2)) (b:Option (Nat×R2)),jX ρ a b→Prop}(none:c _ _ (jX.none))(some:∀ (i:Nat) {v d:R2} (h:ap ρ v d),c _ _ (jX.some i h)){a:Option (Nat×R2)}{b:Option (Nat×R2)}(h:jX ρ a b):c a b h:=(h (fun a b=>jX ρ a b∧∀ h,c a b h) (⟨jX.none,fun _=>none⟩) (fun i {v} {d} h=>⟨jX.some i h,fun _=>some i h⟩)).2 h
theorem r9(L:Alike G P P')(t:Sg):∀ (es c:List TM) {ρ:aI G} {k k':R2} (i:Nat),ap ρ k k'→eH ρ es c→ak P P' jX ρ (Instr.findAsking t k es i) (Instr.findAsking t k' c i)
 | [],[],ρ,k,k',i,b,a=>.au .none
 | [],_ :: _,ρ,k,k',i,b,a=>by cases a using eH.ind
 |_ :: _,[],ρ,k,k',i,b,a=>by cases a using eH.ind
 |e :: es,m :: c,ρ,k,k',i,b,a=>by
  cases a using eH.ind with
  |cons f h=>
   unfold Instr.findAsking;refine(Bm L t b f.key).bindM (fun n j l d g=>?_);cases g
   split
   ·exact .au (.some _ (f.val.mono d))
   ·exact r9 L t es c _ (b.mono d) (h.mono d)
def LL(d:TypeDesc){x a y b:R2}(c:ap ρ x a)(e:ap ρ y b):Instr.sameNow d x y=Instr.sameNow d a b:=by
 cases c using ap.ind<;>cases e using ap.ind<;>first|rfl|(cases d<;>rfl)
theorem CG(d:TypeDesc){k k':R2}(f:ap ρ k k'):∀ (es b:List TM) (i:Nat),eH ρ es b→(Instr.findNow d k es i=RZ∧Instr.findNow d k' b i=RZ)∨∃ x g,Instr.findNow d k es i=RX x∧Instr.findNow d k' b i=RX g∧jX ρ x g
 | [],[],i,a=>.inr ⟨_,_,rfl,rfl,.none⟩
 | [],_ :: _,i,a=>by cases a using eH.ind
 |_ :: _,[],i,a=>by cases a using eH.ind
 |e :: es,j :: b,i,a=>by
  cases a using eH.ind with
  |cons c h=>
   unfold Instr.findNow;rw[LL d f c.key]
   split
   ·exact .inr ⟨_,_,rfl,rfl,.some _ c.val⟩
   ·exact CG d f es b (i+1) h
   ·exact .inl ⟨rfl,rfl⟩
def z7(L:Alike G P P')(t:Sg){k k':R2}{es a:List TM}(e:ap ρ k k')(h:eH ρ es a):ak P P' jX ρ (VV t k es) (VV t k' a):=by
 unfold VV;refine(aK L.S t).bindM (fun n i j b g=>?_);obtain⟨rfl,-⟩:=g;rcases CG i (e.mono b) es a 0 (h.mono b) with⟨c,d⟩|⟨l,m,c,d,f⟩
 ·rw[c,d];exact r9 L t es a 0 (e.mono b) (h.mono b)
 ·rw[c,d];exact .au f
theorem Lz(L:Alike G P P')(t:Sg){x z k k':R2}(ok:Bool)(C:∀ a b,P.underlying t=RX (.map a b)→plainKey P 10000 a=R7)(s:ap ρ x z)(h:ap ρ k k'):ak P P' ap ρ (Instr.lookup t x k ok) (Instr.lookup t z k' ok):=by
 unfold Instr.lookup;refine(aK L.S t).bindM (fun Q J O p r=>?_);obtain⟨rfl,r⟩:=r;cases J with
 |map e n=>
  have u:∀ {d:aI G} {f g:Array TM},ρ.le d→mX d f g→ak P P' ap d (do
   Vt f.isEmpty 10000 e k
   let (v,c) ← match ← VV e k f.toList with
    |some (_,v)=>pure (v,R7)
    |none=>pure (← T9 n,R6)
   pure (if ok then .tuple #[v,.bool c] else v)) (do
   Vt g.isEmpty 10000 e k'
   let (v,c) ← match ← VV e k' g.toList with
    |some (_,v)=>pure (v,R7)
    |none=>pure (← T9 n,R6)
   pure (if ok then .tuple #[v,.bool c] else v)):=by
   intro d f g y B;have w:∀ {d:aI G} {v m:R2} (c:Bool),ap d v m→ap d (if ok then .tuple #[v,.bool c] else v) (if ok then .tuple #[m,.bool c] else m):=by
    intro d v m c j;cases ok
    ·exact j
    ·exact .tuple rfl (fun l o M=>by
      have:l=0∨l=1:=by simp at o;omega
      rcases this with rfl|rfl
      ·exact j
      ·exact .bool _)
   refine(nO L _ _ _ e (C _ _ r) (h.mono y)).bindM (fun R a b i _=>?_);refine(z7 L e (h.mono (y.trans i)) (B.mono i).toList).bindM (fun S a b N A=>?_);cases A using jX.ind with
   |none=>exact(iS L.S n).bindM (fun T a b _ H=>.au (w _ H))
   |some l j=>exact .au (w _ j)
  have s:=s.mono p;cases s using ap.ind with
  |jH=>exact u p ⟨rfl,fun l o=>by simp at o⟩
  |map E=>
   refine ak.bindM (A:=cZ) (.getObj E (fun c I q=>.pure q)) (fun d c I i q=>?_);cases q using cZ.ind with
   |map F D K=>exact u (p.trans i) ⟨F,D⟩
   |_=>exact ak.stuck
  |_=>exact ak.stuck
 |_=>exact ak.stuck
theorem Om(f:R2→R2→Bool){l c:List R2}(h:iw ρ l c):∀ {m m':List R2},iw ρ m m'→(∀ x d y e,ap ρ x d→ap ρ y e→f x y=f d e)→((l.zip m).all fun(x,y)=>f x y)=((c.zip m').all fun(x,y)=>f x y):=by
 induction h using iw.ind with
 |nil=>intro m m' _ _;simp
 |cons g _ j=>
  intro m m' a b;cases a using iw.ind with
  |nil=>simp
  |cons i a=>
   simp only[List.zip_cons_cons,List.all_cons];rw[b _ _ _ _ g i,j a b]
def Lk{a a' b b':Nat}(c:ρ.f a=RX a')(d:ρ.f b=RX b'):(a == b)=(a' == b'):=by
 have:=qX (ρ:=ρ) (a:=⟨a,0,RZ⟩) (a':=⟨a',0,RZ⟩) (b:=⟨b,0,RZ⟩) (b':=⟨b',0,RZ⟩) ⟨c,rfl,rfl⟩ ⟨d,rfl,rfl⟩;simpa using this
theorem tT:∀ (n:Nat) {x c y d:R2},ap ρ x c→ap ρ y d→Vb n x y=Vb n c d
 |0,x,c,y,d,e,f=>by
  cases e using ap.ind<;>cases f using ap.ind<;>first
   |rfl
   |(rename_i a _ _ b;simp only[Vb];have:=addr_eq a b;simpa using this)
   |(rename_i a _ _ b;simp only[Vb];have:=Lk a b;simpa using this)
 |n+1,x,c,y,d,e,f=>by
  cases e using ap.ind<;>cases f using ap.ind<;>first
   |rfl
   |(rename_i a _ _ b;simp only[Vb];have:=addr_eq a b;simpa using this)
   |(rename_i a _ _ b;simp only[Vb];have:=Lk a b;simpa using this)
   |(rename_i a _ _ _ b _ _;simp only[Vb];rw[tT n a b])
   |(rename_i a b _ _ g h _ _;simp only[Vb,a,g];rw[Om (Vb n) (aQ.toList ⟨a,b⟩) (aQ.toList ⟨g,h⟩) (fun _ _ _ _ i j=>tT n i j)])
end
end
section
variable {G:lC}
section
variable {P P':Sd}{ρ:aI G}
def mX.push{es a:Array TM}(h:mX ρ es a){e e':TM}(b:rD ρ e e'):mX ρ (es.push e) (a.push e'):=by
 refine⟨by simp[h.1],fun c d f=>?_⟩;simp only[Array.getElem_push];have:=h.1
 split
 ·rw[dif_pos (by omega)];exact h.2 c _ _
 ·rw[dif_neg (by omega)];exact b
def mX.modify{es a:Array TM}(h:mX ρ es a)(i:Nat){f f':TM→TM}(c:∀ e e',rD ρ e e'→rD ρ (f e) (f' e')):mX ρ (es.modify i f) (a.modify i f'):=by
 refine⟨by simp[h.1],fun b d g=>?_⟩;simp only[Array.getElem_modify]
 split
 ·exact c _ _ (h.2 b _ _)
 ·exact h.2 b _ _
def xG{a a' b b':R2}(d:ap ρ a a')(c:ap ρ b b'):ak P P' ap ρ (Instr.keyThatStays a b) (Instr.keyThatStays a' b'):=by
 unfold Instr.keyThatStays;rw[tT _ d c]
 split
 ·exact .au c
 ·refine o4 _ (fun e=>.au ?_)
  split
  ·exact c
  ·exact d
theorem uF(L:Alike G P P')(t:Sg){m m' k k' v j:R2}(K:∀ a b,P.underlying t=RX (.map a b)→plainKey P 10000 a=R7)(q:ap ρ m m')(d:ap ρ k k')(C:ap ρ v j):ak P P' (ir (α:=Unit)) ρ (Instr.mapUpdate t m k v) (Instr.mapUpdate t m' k' j):=by
 unfold Instr.mapUpdate;refine(aK L.S t).bindM (fun Y Q X y s=>?_);obtain⟨rfl,s⟩:=s;cases Q with
 |map E W=>
  have q:=q.mono y;cases q using ap.ind with
  |jH=>exact dX L.S _ (by simp) (by simp) (by simp)
  |map A=>
   refine ak.bindM (A:=cZ) (.getObj A (fun N O r=>.pure r)) (fun T N O z r=>?_);cases r using cZ.ind with
   |map M I u=>
    rename_i l w;have x:mX T l w:=⟨M,I⟩;have p:=y.trans z;refine(nO L _ _ _ E (K _ _ s) (d.mono p)).bindM (fun Z _ _ e _=>?_);refine(z7 L E (d.mono (p.trans e)) (x.mono e).toList).bindM (fun U a b n H=>?_);have c:=x.mono (e.trans n);have f:=p.trans (e.trans n);have B:=(z.trans (e.trans n)) _ _ A;cases H using jX.ind with
    |none=>
     have:=c.push (e:=⟨k,v,u⟩) (e':=⟨k',j,u⟩) ⟨d.mono f,C.mono f,rfl⟩;exact .setObj B (.map this.1 this.2 _) (.pure rfl)
    |some g D=>
     have J:ap U ((l[g]?.map (·.key)).getD k) ((w[g]?.map (·.key)).getD k'):=by
      by_cases i:g<l.size
      ·rw[SU i,SU (by rw[← c.1];exact i)];exact(c.2 g i (by rw[← c.1];exact i)).key
      ·rw[Tg (by omega),Tg (by have:=c.1;omega)];exact d.mono f
     refine(xG J (d.mono f)).bindM (fun ab R S o D=>?_);have:=(c.mono o).modify g (f:=fun h=>{h with key:=R,val:=v}) (f':=fun h=>{h with key:=S,val:=j}) (fun h V F=>⟨D,C.mono (f.trans o),F.born⟩);exact .setObj (o _ _ B) (.map this.1 this.2 _) (.pure rfl)
   |_=>exact ak.stuck
  |_=>exact ak.stuck
 |_=>exact ak.stuck
def Bo{v a:R2}(h:ap ρ v a):ak P P' (ir (α:=Nat)) ρ (VU v) (VU a):=by
 cases h using ap.ind<;>first|exact .au rfl|exact ak.stuck
def Mv(s:ByteArray):aQ ρ (s.data.map fun b=>.int .u8 b.toNat) (s.data.map fun b=>.int .u8 b.toNat):=
 ⟨rfl,fun d a c=>by simp only[Array.getElem_map];exact .int _ _⟩
def ji(a n:Nat){v b:R2}(h:ap ρ v b):ak P P' aQ ρ (UY a n v) (UY a n b):=by
 cases h using ap.ind with
 |sl d m c=>exact uE _ d
 |jd m c=>exact .au (aQ.nil _)
 |string s=>exact .au (Mv _)
 |_=>exact ak.stuck
theorem QI(L:Alike G P P')(j:Array Sg)(t:Sg){vs m:Array R2}(h:aQ ρ vs m):ak P P' ap ρ (Builtin.len_ j t vs) (Builtin.len_ j t m):=by
 unfold Builtin.len_;cases j[0]? with
 |none=>rcases h.get 0 with⟨b,c⟩|⟨v,A,b,c,d⟩<;>(rw[b,c];exact ak.stuck)
 |some y=>
  rcases h.get 0 with⟨b,c⟩|⟨v,A,b,c,d⟩
  ·rw[b,c];exact ak.stuck
  ·rw[b,c];dsimp only;refine(aK L.S y).bindM (fun B k z l e=>?_);obtain⟨rfl,e⟩:=e;have d:=d.mono l;cases k with
   |pointer o=>
    refine(aK L.S o).bindM (fun B k z l e=>?_);obtain⟨rfl,e⟩:=e;cases k<;>first|exact .au (.int _ _)|exact ak.stuck
   |array x D=>exact .au (.int _ _)
   |map n p=>
    cases d using ap.ind with
    |map f=>
     refine ak.bindM (A:=cZ) (.getObj f (fun g i a=>.pure a)) (fun C g i u a=>?_);cases a using cZ.ind with
     |map w E q=>dsimp only;rw[w];exact .au (.int _ _)
     |_=>exact ak.stuck
    |jH=>exact .au (.int _ _)
    |_=>exact ak.stuck
   |chan n p=>
    cases d using ap.ind with
    |chan f=>
     refine ak.bindM (A:=cZ) (.getObj f (fun g i a=>.pure a)) (fun C g i u a=>?_);cases a using cZ.ind with
     |chan x r q s F H=>dsimp only;rw[r.1];exact .au (.int _ _)
     |_=>exact ak.stuck
    |gP=>exact .au (.int _ _)
    |_=>exact ak.stuck
   |_=>cases d using ap.ind<;>first|exact .au (.int _ _)|exact ak.stuck
theorem PD(L:Alike G P P')(n:Array Sg)(t:Sg){vs q:Array R2}(h:aQ ρ vs q):ak P P' ap ρ (Builtin.copy_ n t vs) (Builtin.copy_ n t q):=by
 unfold Builtin.copy_;cases n[0]? with
 |none=>exact ak.stuck
 |some x=>
  rcases h.get 0 with⟨k,l⟩|⟨v,D,k,l,m⟩
  ·rw[k,l];exact ak.stuck
  ·rw[k,l];rcases h.get 1 with⟨i,j⟩|⟨E,F,i,j,e⟩
   ·rw[i,j];exact ak.stuck
   ·rw[i,j];dsimp only;refine(aK L.S x).bindM (fun H y C d p=>?_);obtain⟨rfl,p⟩:=p;cases y with
    |slice o=>
     have m:=m.mono d;cases m using ap.ind with
     |jd w r=>
      refine(Bo (e.mono d)).bindM (fun z b c f a=>?_);cases a;refine(cC L.S o).bindM (fun A b c g a=>?_);cases a;exact(ji _ _ (e.mono (d.trans (f.trans g)))).bindM (fun B b c _ _=>.au (.int _ _))
     |sl s w r=>
      refine(Bo (e.mono d)).bindM (fun z b c f a=>?_);cases a;refine(cC L.S o).bindM (fun A b c g a=>?_);cases a;refine(ji _ _ (e.mono (d.trans (f.trans g)))).bindM (fun B b c u a=>?_);exact(jj _ _ 0 (s.mono (f.trans (g.trans u))) a.toList).bindM (fun I b c _ _=>.au (.int _ _))
     |_=>exact ak.stuck
    |_=>exact ak.stuck
def sg{a a':SL}(n:Nat)(h:cm ρ a a'):ak P P' (ir (α:=Bool)) ρ (UZ a n) (UZ a' n):=by
 unfold UZ;refine(nP h.1).bindM (fun f d e c b=>?_);cases b;rw[h.2.1,h.2.2]
 split<;>exact .au rfl
def eX (ρ:aI G)(d:Option SL)(e:Option SL):Prop:=∀ a:Option SL→Option SL→Prop,(a RZ RZ)→(∀ {b c:SL} (f:cm ρ b c),a (RX b) (RX c))→a d e
def eX.none{ρ:aI G}:eX ρ RZ RZ:=fun b a c=>a
def eX.some{ρ:aI G}{a a':SL}(h:cm ρ a a'):eX ρ (RX a) (RX a'):=fun c d b=>b h
def eX.ind{ρ:aI G}{d:∀ (b:Option SL) (c:Option SL),eX ρ b c→Prop}(none:d _ _ (eX.none))(some:∀ {a a':SL} (h:cm ρ a a'),d _ _ (eX.some h)){b:Option SL}{c:Option SL}(h:eX ρ b c):d b c h:=(h (fun b c=>eX ρ b c∧∀ h,d b c h) (⟨eX.none,fun _=>none⟩) (fun h=>⟨eX.some h,fun _=>some h⟩)).2 h
theorem uG(k:Nat){o o':Option SL}(g:eX ρ o o'):∀ {σ:aI G} {x a:R2},ρ.le σ→ap σ x a→ak P P' (ir (α:=Bool)) σ (match x with| .slice (RX b) _ _=>do pure (!(← UZ b k) || o.any (·.block == b.block))|_=>pure R6) (match a with| .slice (RX b) _ _=>do pure (!(← UZ b k) || o'.any (·.block == b.block))|_=>pure R6):=by
 intro σ x a f h;cases h using ap.ind with
 |sl c m i=>
  refine(sg _ c).bindM (fun n x l j e=>?_);cases e;cases g using eX.ind with
  |none=>exact .au rfl
  |some d=>
   refine .au ?_;simp only[Option.any_some,qX (d.mono f) c];rfl
 |_=>exact .au rfl
theorem Fa(h sl n:Nat){o o':Option SL}{x i:R2}(e:eX ρ o o')(g:ap ρ x i):ak P P' (ir (α:=Bool)) ρ (VJ h sl n o x) (VJ h sl n o' i):=by
 unfold VJ;have f:=e;cases e using eX.ind with
 |none=>exact uG _ f (aI.le.refl _) g
 |some c=>
  refine(sg _ c).bindM (fun p j l b a=>?_);cases a;refine(o6 ((c.mono b).add _)).bindM (fun q k m d a=>?_);cases a;cases j<;>cases k<;>first|exact ak.au (A:=ir (α:=Bool)) rfl|exact uG _ f (b.trans d) (g.mono (b.trans d))
def Mw{z a:Array R2}(h:aQ ρ z a)(n:Nat):aQ ρ (Builtin.zeroCells z n) (Builtin.zeroCells a n):=by
 unfold Builtin.zeroCells;rw[← h.1];have:=k8 h (n*z.size);rw[← h.1] at this;exact this
end
end
section
variable {G:lC}
section
variable {P P':Sd}{ρ:aI G}
def wV (a:Sg)(d m n c:Nat)(o:Option SL)(x:R2):Ul R2:=do
 let b ← choose (Question.appendCap (m+n) c a);let f ← UX a
 askRoom (b*f.bytes)
 let h ← UY d m (Te o m c);let g ← UY d n x;let i ← T9 a;let e ← newRow a (h ++ g ++ Builtin.zeroCells i.cells (b - (m+n)))
 pure (Te (RX e) (m+n) b)
def wU (a:Sg)(b m n c:Nat)(o:Option SL)(x:R2):Ul R2:=do
 let e ← UX a
 if Builtin.nextslicecap (m+n) c*e.bytes > 2 ^ 48 then
  (do
    let d ← VJ b m n o x
    if (!d)=R7 then do
     mark Mark.noRoom
     unsupported (Wm "append: a slice or a string whose bytes no memory bears")
    else unsupported (Wm "append: a slice or a string whose bytes no memory bears"):Ul PUnit) >>= fun _=>wV a b m n c o x
 else wV a b m n c o x
def mA (b:Sg)(a m n c:Nat)(o:Option SL)(x:R2):Ul R2:=
 if m+n≤c then do
  let f ← UY a n x
  match o with
   |some d=>do
    storeCells (d.add (m*a)) f.toList
    pure (Te o (m+n) c)
   |_=>pure (Te o (m+n) c)
 else do
  let e ← UX b
  if ((m+n:Nat):Int) > Wb.max∧(False∨e.bytes=0) then do
   runtimePanic (WI "growslice: len out of range")
   wU b a m n c o x
  else wU b a m n c o x
def eX.mono{σ:aI G}(a:ρ.le σ){o o':Option SL}(h:eX ρ o o'):eX σ o o':=by
 cases h using eX.ind with
 |none=>exact .none
 |some h=>exact .some (h.mono a)
def eX.slice{o o':Option SL}(h:eX ρ o o')(m c:Nat):ap ρ (.slice o m c) (.slice o' m c):=by
 cases h using eX.ind with
 |none=>exact .jd _ _
 |some h=>exact .sl h _ _
theorem NN(L:Alike G P P')(a:Sg)(b m n c:Nat){o o':Option SL}{x f:R2}(t:eX ρ o o')(u:ap ρ x f):ak P P' ap ρ (wV a b m n c o x) (wV a b m n c o' f):=by
 unfold wV;refine o4 _ (fun B=>?_);refine(eV L.S a).bindM (fun E z A p l=>?_);obtain⟨rfl,-⟩:=l;refine(z6 _).bindM (fun F _ _ q _=>?_);have e:=p.trans q;refine(ji b m ((t.mono e).slice m c)).bindM (fun H g w r j=>?_);refine(ji b n (u.mono (e.trans r))).bindM (fun I h y s k=>?_);refine(iS L.S a).bindM (fun J C D d v=>?_);exact(o7 a (((j.mono (s.trans d)).append (k.mono d)).append (Mw v.cells _))).bindM (fun K g h _ i=>.au (.sl i _ _))
theorem NM(L:Alike G P P')(a:Sg)(d m n c:Nat){o o':Option SL}{x g:R2}(e:eX ρ o o')(f:ap ρ x g):ak P P' ap ρ (wU a d m n c o x) (wU a d m n c o' g):=by
 unfold wU;refine(eV L.S a).bindM (fun s q r b k=>?_);obtain⟨rfl,-⟩:=k
 split
 ·refine ak.bindM (A:=fun _ (_ _:PUnit)=>False) ?_ (fun _ _ _ _ i=>i.elim);refine(Fa _ _ _ (e.mono b) (f.mono b)).bindM (fun t h l p j=>?_);cases j;cases h
  ·exact ak.room (.halt (.same _ rfl))
  ·exact ak.cO
 ·exact NN L a d m n c (e.mono b) (f.mono b)
theorem IP(L:Alike G P P')(b:Sg)(d m n c:Nat){o o':Option SL}{x h:R2}(f:eX ρ o o')(g:ap ρ x h):ak P P' ap ρ (mA b d m n c o x) (mA b d m n c o' h):=by
 unfold mA
 split
 ·refine(ji d n g).bindM (fun l p q a i=>?_);cases f using eX.ind with
  |none=>exact .au (.jd _ _)
  |some e=>exact(jj _ _ 0 ((e.mono a).add _) i.toList).bindM (fun t _ _ k _=>.au (.sl (e.mono (a.trans k)) _ _))
 ·refine(eV L.S b).bindM (fun l r s a j=>?_);obtain⟨rfl,-⟩:=j
  split
  ·exact tL L _ (by simp) (by simp) (by simp)
  ·exact NM L b d m n c (f.mono a) (g.mono a)
theorem Ls(L:Alike G P P')(e:Array Sg)(t:Sg){vs D:Array R2}(O:∀ f,e[1]? =RX f→∀ k,P.underlying f≠RX (.int k))(h:aQ ρ vs D):ak P P' ap ρ (Vw e t vs) (Vw e t D):=by
 unfold Vw;cases e[0]? with
 |none=>exact ak.stuck
 |some Q=>
  rcases h.get 0 with⟨p,q⟩|⟨v,C,p,q,j⟩
  ·rw[p,q];exact ak.stuck
  ·rw[p,q];rcases h.get 1 with⟨n,o⟩|⟨E,F,n,o,i⟩
   ·rw[n,o];exact ak.stuck
   ·rw[n,o];dsimp only;refine(aK L.S Q).bindM (fun H R V x A=>?_);obtain⟨rfl,A⟩:=A;cases R with
    |slice g=>
     have j:=j.mono x;have i:=i.mono x;obtain⟨b,l,m,a,rfl,rfl,M⟩|K:(∃ b l m a,v= .slice b m a∧C= .slice l m a∧eX H b l)∨((∀ b m a,v≠.slice b m a)∧∀ b m a,C≠.slice b m a):=by
      cases j using ap.ind with
      |jd m a=>exact .inl ⟨_,_,_,_,rfl,rfl,.none⟩
      |sl J m a=>exact .inl ⟨_,_,_,_,rfl,rfl,.some J⟩
      |_=>exact .inr ⟨by simp,by simp⟩
     ·dsimp only;refine(cC L.S g).bindM (fun W u S y r=>?_);cases r;have B:∀ {w:aI G},H.le w→ak P P' ap w (VU E >>= fun d=>mA g u m d a b E) (VU F >>= fun d=>mA g u m d a l F):=fun c=>
       (Bo (i.mono c)).bindM (fun X d U z r=>by
         cases r;exact IP L g u m d a (M.mono (c.trans z)) (i.mono (c.trans z)))
      cases N:e[1]? with
      |none=>
       simp only[pure_bind,SD,if_false,Bool.not_false,if_true];exact B y
      |some f=>
       refine(aK L.S f).bindM (fun w I T c s=>?_);obtain⟨rfl,s⟩:=s;cases I with
       |int k=>exact absurd s (O f N k)
       |_=>
        simp only[pure_bind,SD,if_false,Bool.not_false,if_true];exact B (y.trans c)
     ·cases j using ap.ind<;>first|exact ak.stuck|exact absurd rfl (K.1 _ _ _)
    |_=>exact ak.stuck
end
end
end Rl
namespace Cc
open Go
section
variable {P P':Sd}{O:U9→Prop}{α β:Type}
def zq(s:FloatKind)(b:Nat)(d:Uo):St P P' O (Conv.floatToInt s b d):=by
 unfold Conv.floatToInt
 (try dsimp only)
 repeat' first|exact aq _|exact cz _|refine af ?_ (fun _=>?_)|split|dsimp only|exact trivial
def yl(n:Int):St P P' O (Conv.intToString n):=by
 unfold Conv.intToString;exact trivial
def uc(b:Twin P P')(a:Plain O)(e:Sg)(s:ByteArray):St P P' O (Conv.stringToBytes e s):=by unfold Conv.stringToBytes;((try dsimp only);repeat' first|exact cz _|exact iU a _ _|exact ny b a _|assumption|(refine af ?_ (fun _=>?_))|intro _|split|(dsimp only)|exact trivial)
def ud(b:Twin P P')(a:Plain O)(e:Sg)(s:ByteArray):St P P' O (Conv.stringToRunes e s):=by unfold Conv.stringToRunes;((try dsimp only);repeat' first|exact cz _|exact iU a _ _|assumption|(refine af ?_ (fun _=>?_))|intro _|split|(dsimp only)|exact trivial)
theorem FF(a:Twin P P')(b:Plain O)(s d:Sg)(x:R2)(h:EF P s d=R7):St P P' O (convert s d x):=by
 unfold convert;refine gR (vO a s) fun m i=>?_;refine gR (vO a d) fun f k=>?_;unfold EF at h;rw[i,k] at h;cases m<;>first|(simp at h;done)|skip
 ·rename_i p;cases f<;>first|(simp at h;done)|skip
  cases x<;>first|exact trivial|exact aO _ rfl|(rename_i c;cases c<;>exact aO _ rfl)|skip
  exact zq _ _ _
 ·rename_i g;cases f<;>first|(simp at h;done)|skip
  ·cases x<;>first|exact trivial|skip
   all_goals first
    |exact yl _
    |(refine gR (vO a g) fun e j=>?_;dsimp only at h;rw[j] at h;cases e<;>first|(simp at h;done)|skip
      rename_i l;cases l<;>first|(simp at h;done)|exact tV a b _)
  ·cases x with
   |string s=>
    refine af (aB a _) fun e=>?_
    split
    ·exact uc a b _ _
    ·exact ud a b _ _
    ·exact aq _
   |slice c q o=>
    cases c with
    |none=>exact aO _ rfl
    |some n=>
     refine af (aB a _) fun e=>?_
     split
     ·exact af (ny a b _) fun _=>trivial
     ·exact aO _ rfl
   |_=>exact aO _ rfl
def DM(a:Twin P P')(b:Plain O)(e:Sg)(s m n c:Nat)(o:Option SL)(x:R2):St P P' O (Rl.wV e s m n c o x):=by
 unfold Rl.wV;exact af (cz _) fun _=>af (bq a _) fun _=>af (ye _) fun _=>af (jT _ _ _) fun _=>af (jT _ _ _) fun _=>af (eM a _) fun _=>af (iU b _ _) fun _=>trivial
def DL(a:Twin P P')(b:Plain O)(e:Sg)(s m n c:Nat)(o:Option SL)(x:R2):St P P' O (Rl.wU e s m n c o x):=by
 unfold Rl.wU;refine af (bq a _) fun f=>?_
 split
 ·refine af (af (DR a b _ _ _ _ _) fun d=>?_) fun _=>DM a b _ _ _ _ _ _ _
  split
  ·exact af Ap fun _=>aO _ rfl
  ·exact aO _ rfl
 ·exact DM a b _ _ _ _ _ _ _
def FC(a:Twin P P')(b:Plain O)(e:Sg)(s m n c:Nat)(o:Option SL)(x:R2):St P P' O (Rl.mA e s m n c o x):=by
 unfold Rl.mA
 split
 ·refine af (jT _ _ _) fun d=>?_
  split
  ·exact af (iF _ _ _) fun _=>trivial
  ·exact trivial
 ·refine af (bq a _) fun f=>?_
  split
  ·exact af (bz a b _) fun _=>DL a b _ _ _ _ _ _ _
  ·exact DL a b _ _ _ _ _ _ _
def J4 (P:Sd)(a:Array Sg):Bool:=match a[1]? with
 |some b=>match P.underlying b with|some (.int _)=>R6|_=>R7
 |none=>R7
theorem Jm(a:Twin P P')(k:Plain O)(b:Array Sg)(t:Sg)(f:Array R2)(h:J4 P b=R7):St P P' O (Vw b t f):=by
 unfold Vw
 split
 ·refine af (aB a _) fun s=>?_
  split
  ·split
   ·rename_i e _ j _ o m g _;refine af (bD a _) fun p=>?_;have d:St P P' O (VU e >>= fun c=>Rl.mA j p m c g o e):=af (DO _) fun c=>FC a k _ _ _ _ _ _ _;unfold J4 at h;cases n:b[1]? with
    |none=>
     simp only[pure_bind,SD,if_false,Bool.not_false,if_true];exact d
    |some q=>
     rw[n] at h;refine gR (vO a q) fun i l=>?_;dsimp only at h;rw[l] at h;cases i with
     |int r=>simp at h
     |_=>
      simp only[pure_bind,SD,if_false,Bool.not_false,if_true];exact d
   ·exact aq _
  ·exact aq _
 ·exact aq _
end
def Cl (P:Sd)(b:Builtin)(a:Array Sg):Bool:=match b with
 | .len| .copy| .min| .unsafeString=>R7
 | .append=>J4 P a
 |_=>R6
def lO (P:Sd)(b:Bool):Op→Bool
 | .move _| .assign _| .pick _ _ _| .alloc _| .box _ _| .build _ _| .buildSlice _ _ _| .load _ _| .store _ _ _| .nilCheck _| .binOp _ _ _ _ _| .unOp _ _ _| .makeInterface _ _| .makeFunc _ _ _| .makeMap _ _| .makeSlice _ _ _| .slice _ _ _ _ _| .fieldAddr _ _ _| .field _ _ _| .indexAddr _ _ _| .index _ _ _| .lookup _ _ _ _| .mapUpdate _ _ _ _| .extract _ _| .panic _=>R7
 | .convert s d _=>EF P s d
 | .call a=>match a.callee with
  | .builtin .recover=> !b
  | .builtin c=>Cl P c a.argTypes
  |_=>R7
 | .defer a=> !b && (match a.callee with| .builtin _=>R6|_=>R7)
 |_=>R6
def aT (P:Sd)(b:Bool):U7→Bool
 | .region _ e _=>e.toList.all fun d=>lO P b d.op
 | .seq a c=>aT P b a && aT P b c
 | .cond _ a c=>aT P b a && aT P b c
 | .block _ a| .loop a=>aT P b a
 | .rangeFunc _ _ a c=>aT P R7 a && aT P R7 c
 | .skip| .exit _| .ret| .refuse _=>R7
 | .goto _| .label _| .scope _=>R6
def kT:Target→Bool
 | .nil| .fn _ _| .collected _=>R7
 |_=>R6
def aR (P:Sd):U9→Prop
 | .loop a=>aT P R7 a.assign=R7∧aT P R7 a.body=R7∧∀ b,a.pending=RX b→aT P R7 b=R7
 | .deferred (RX d)=>∀ c∈d,kT c.target=R7
 | .pending _ _=>False
 | .coro _=>False
 |_=>True
def dR(P:Sd):Plain (aR P):=⟨fun _ _ _=>trivial,fun _ _ a=>a,fun a=>a,⟨{state:=.ready,pending:=RZ,fn:=0,tmps:= #[],params:= #[],assign:=.skip,body:=.skip,defers:=0},rfl,rfl,fun b a=>by cases a⟩⟩
def oD (P:Sd)(d:Bool):Next→Prop
 | .value _| .skip| .enter _ _=>True
 | .recover=>d=R6
 | .defer c=>kT c.target=R7
 | .round _ _ _ a b=>aT P R7 a=R7∧aT P R7 b=R7
 |_=>False
structure Ext(P P':Sd):Prop where
 named:∀ (f:Nat) (fn:UB),P.funcs[f]? =RX fn→(fn.name == "runtime.NumGoroutine")=R6
 next:∀ (f:Nat) (fn:UB),P.funcs[f]? =RX fn→fn.body.isNone=R7→Extern.findNext fn=RZ
 find:∀ (f:Nat) (fn:UB) (e:Array R2→Ul R2),P.funcs[f]? =RX fn→fn.body.isNone=R7→V9 fn=RX e→∀ args,St P P' (aR P) (e args)
section
variable {P P':Sd}{O:U9→Prop}{α β:Type}
def py(a:Twin P P')(t:Sg)(x:Place):St P P' O (x.get t):=by
 cases x with
 |val v=>exact trivial
 |var b=>exact nZ a _ _
theorem tX(a:Twin P P')(b:Plain O):∀ (l:List FieldStep) (t:Sg) (x:Place),St P P' O (follow l t x)
 | [],t,x=>trivial
 |s :: d,t,x=>by
  have c:=tX a b d;unfold follow
  ((try dsimp only);repeat' first|exact aB a _|exact aq _|exact nt a b _|exact fY a _ _ _|exact c _ _|exact py a _ _|exact qK a b _ _|assumption|(refine af ?_ (fun _=>?_))|(refine bF ?_ ?_)|intro _|split|(dsimp only)|exact trivial)
theorem FT(c:Twin P P')(d:Plain O)(g:Array Sg)(t:Sg)(x:R2)(a b:ByteArray):St P P' O (Builtin.ssaWrapNilChk_ g t #[x,.string a,.string b]):=by
 have e:∀ s:String,St P P' O (stuck s:Ul R2):=fun s=>aq s;unfold Builtin.ssaWrapNilChk_;cases x with
 |pointer f=>
  cases f with
  |some a=>exact trivial
  |none=>
   refine af (cz _) fun h=>?_
   ((try dsimp only);repeat' first|exact bq c _|exact aB c _|exact aq _|exact bz c d _|exact cz _|(refine aO _ ?_;rfl)|assumption|(refine af ?_ (fun _=>?_))|(refine bF ?_ ?_)|intro _|split|(dsimp only)|exact trivial)
 |_=>exact e _
def qN(a:Twin P P')(b:Plain O)(t:Sg)(x:Place)(p:Bool)(w:Option String):St P P' O (receiverAt t x p w):=by
 unfold receiverAt
 ((try dsimp only);repeat' first|exact aB a _|exact aq _|exact nt a b _|exact nZ a _ _|exact py a _ _|exact FT a b _ _ _ _ _|assumption|(refine af ?_ (fun _=>?_))|intro _|split|(dsimp only)|exact trivial)
def ym(c:Twin P P')(a:Plain O)(t:Sg)(v:R2)(p:Array FieldStep)(b:Bool):St P P' O (receiverVia t v p b):=by
 unfold receiverVia
 ((try dsimp only);repeat' first|exact tX c a _ _ _|exact qN c a _ _ _ _|assumption|(refine af ?_ (fun _=>?_))|intro _|split|(dsimp only)|exact trivial)
theorem An(a:Twin P P')(b:Plain O):∀ (n:Nat) (t:Sg) (v:R2) (s:String),St P P' O (Go.method n t v s)
 |0,t,v,s=>aO _ rfl
 |n+1,t,v,s=>by
  have c:=An a b n;unfold Go.method
  ((try dsimp only);repeat' first|exact bq a _|exact aq _|exact bz a b _|(refine aO _ ?_;rfl)|exact c _ _ _|exact tX a b _ _ _|exact qN a b _ _ _ _|exact py a _ _|assumption|(refine af ?_ (fun _=>?_))|intro _|split|(dsimp only)|exact trivial)
theorem pu(a:Twin P P')(b:Plain O):∀ (l:List FieldStep) (t:Sg) (x:Option R2),St P P' O (followBlind l t x)
 | [],t,x=>trivial
 |s :: d,t,x=>by
  have c:=pu a b d;unfold followBlind
  ((try dsimp only);repeat' first|exact aB a _|exact aq _|exact fY a _ _ _|exact c _ _|assumption|(refine af ?_ (fun _=>?_))|intro _|split|(dsimp only)|exact trivial)
theorem uO(a:Twin P P')(b:Plain O):∀ (n:Nat) (t:Sg) (v:R2) (s:String),St P P' O (nilAhead n t v s)
 |0,t,v,s=>trivial
 |n+1,t,v,s=>by
  have c:=uO a b n;unfold nilAhead
  ((try dsimp only);repeat' first|exact bq a _|exact aB a _|exact aq _|exact c _ _ _|exact pu a b _ _ _|assumption|(refine af ?_ (fun _=>?_))|intro _|split|(dsimp only)|exact trivial)
theorem pp(l:Twin P P')(c:Ext P P')(n:Bool)(f:T1)(args:Array R2):Still P P' (aR P) (oD P n) (callFunc f args):=by
 unfold callFunc;refine bU ?_ ?_
 ·rcases l.O6 f with b|⟨a,o,g,h,i,j,k⟩
  ·rw[b]
  ·rw[g,h];simp only[i,j,k,SD,if_false]
 ·cases d:P.funcs[f]? with
  |none=>exact aq _
  |some a=>
   dsimp only;rw[if_neg (by rw[c.named f a d];simp)]
   split
   ·rename_i e;refine af ⟨.inr ⟨_,rfl⟩,trivial⟩ fun _=>?_;rw[c.next f a d e];dsimp only;cases m:V9 a with
    |some b=>exact af (c.find f a b d e m args) fun _=>trivial
    |none=>exact bF trivial (aO _ rfl)
   ·exact trivial
def qJ(a:Twin P P')(d:Ext P P')(c:Bool)(v:R2)(s:String)(args:Array R2):Still P P' (aR P) (oD P c) (callMethod v s args):=by
 have b:=dR P;unfold callMethod
 split
 ·refine bU (by rw[a.RE]) ?_;exact af (An a b _ _ _ _) fun _=>pp a d c _ _
 ·exact bz a b _
 ·exact aq _
def mb(l:Nat):Still P P' (aR P) (fun r=>aR P (.loop r)) (Instr.getLoop l):=by
 unfold Instr.getLoop;refine iN l (fun b a=>?_) (oT rfl)
 split
 ·exact a
 ·exact aq _
def L9(b:Bool)(l:Nat)(args:Array R2):Still P P' (aR P) (oD P b) (Instr.yield l args):=by
 unfold Instr.yield;refine gR (mb l) fun c a=>?_;dsimp only
 split
 ·exact af (aq _) fun _=>⟨a.1,a.2.1⟩
 ·exact⟨a.1,a.2.1⟩
theorem FE(c:Twin P P')(b:Builtin)(d:Array Sg)(t:Sg)(cs:Array Bool)(args:Array R2)(h:Cl P b d=R7)(e:Bool):Still P P' (aR P) (oD P e) (builtin b d t cs args):=by
 have a:=dR P;unfold builtin;cases b<;>first|(simp[Cl] at h;done)|skip
 ·exact af (Jm c a _ _ _ h) fun _=>trivial
 ·exact af (NW c a _ _ _) fun _=>trivial
 ·exact af (PM c a _ _ _) fun _=>trivial
 ·exact af (PN _ _ _) fun _=>trivial
 ·exact af (vz c a _ _ _) fun _=>trivial
def wZ (P:Sd)(b:Bool):Target→Bool
 | .builtin .recover _ _ _=> !b
 | .builtin a c _ _=>Cl P a c
 | .coroexit _=>R6
 |_=>R7
theorem tZ(a:Twin P P')(c:Ext P P')(b:Bool)(t:Target)(args:Array R2)(h:wZ P b t=R7):Still P P' (aR P) (oD P b) (invoke t args):=by
 have e:=dR P;unfold invoke
 split
 ·exact bz a e _
 ·rename_i d i t g;by_cases f:d= .recover
  ·subst f;simp only[wZ,Ve] at h;exact h
  ·exact FE a d i t g args (by cases d<;>first|exact absurd rfl f|exact h) b
 ·exact pp a c b _ _
 ·split
  ·exact qJ a c b _ _ _
  ·exact aq _
 ·split
  ·refine af (aB a _) fun j=>?_;exact qJ a c b _ _ _
  ·exact aq _
 ·split
  ·exact af (ym a e _ _ _ _) fun _=>pp a c b _ _
  ·exact aq _
 ·exact L9 b _ _
 ·exact aq _
 ·simp[wZ] at h
theorem yo(P P':Sd)(a:Bool)(ρ:S3→R2)(c:Call)(t:Sg)(h:(match c.callee with| .builtin .recover=> !a| .builtin b=>Cl P b c.argTypes|_=>R7)=R7):Still P P' (aR P) (fun d=>wZ P a d.target=R7) (VE ρ c t):=by
 unfold VE;dsimp only
 split
 ·rename_i b e;rw[e] at h;show wZ P a (.builtin b c.argTypes t _)=R7;unfold wZ;cases b<;>first|exact h|rfl
 ·exact rfl
 ·unfold Vo
  split
  ·exact rfl
  ·exact rfl
  ·exact aq _
def DT(P P':Sd)(ρ:S3→R2)(c:Call)(t:Sg)(h:(match c.callee with| .builtin _=>R6|_=>R7)=R7):Still P P' (aR P) (fun d=>kT d.target=R7) (VE ρ c t):=by
 unfold VE;dsimp only
 split
 ·rename_i b a;rw[a] at h;cases h
 ·exact rfl
 ·unfold Vo
  split
  ·exact rfl
  ·exact rfl
  ·exact aq _
theorem NX(a:Twin P P')(l:Ext P P')(d:Bool)(ρ:S3→R2)(o:Tx)(h:lO P d o.op=R7):Still P P' (aR P) (oD P d) (SE ρ o):=by
 have b:=dR P;have m:∀ g i,aR P (.number g i):=fun _ _=>trivial;have f:∀ k c,aR P (.map k c):=fun _ _=>trivial;unfold SE;cases n:o.op<;>rw[n] at h<;>first|(simp[lO] at h;done)|skip
 all_goals dsimp only
 case move=>exact trivial
 case assign=>exact trivial
 case pick=>exact af (tU _) fun _=>trivial
 case alloc=>exact af (LW a b _ _ _) fun _=>trivial
 case box=>exact af (PL a b _ _) fun _=>trivial
 case build=>exact af (LY a b _ _) fun _=>trivial
 case buildSlice=>exact af (zo a b _ _ _) fun _=>trivial
 case load=>exact af (Jp a b _ _) fun _=>trivial
 case store=>exact af (FP a b _ _ _) fun _=>trivial
 case nilCheck=>
  split
  all_goals first
   |exact bz a b _
   |exact trivial
   |skip
  split
  ·exact bz a b _
  ·refine bU (by rw[a.RE]) ?_;refine af (uO a b _ _ _ _) fun p=>?_
   split
   ·exact af (aO _ rfl) fun _=>trivial
   ·exact trivial
  ·exact trivial
 case binOp=>exact af (af (FH a b _ _ _ _ _ _) fun _=>LX a b m _ _ _ _) fun _=>trivial
 case unOp=>exact af (L8 _ _) fun _=>trivial
 case convert=>exact af (FF a b _ _ _ h) fun _=>trivial
 case makeInterface=>exact af (ua a b _ _) fun _=>trivial
 case makeFunc=>exact trivial
 case makeMap=>exact af (FN a b f _ _) fun _=>trivial
 case makeSlice=>exact af (BG a b _ _ _) fun _=>trivial
 case slice=>exact af (FO a b _ _ _ _ _) fun _=>trivial
 case fieldAddr=>exact af (FJ a b _ _ _) fun _=>trivial
 case field=>exact af (L1 a b _ _ _) fun _=>trivial
 case indexAddr=>exact af (FK a b _ _ _) fun _=>trivial
 case index=>exact af (L2 a b _ _ _) fun _=>trivial
 case lookup=>exact af (Jq a b _ _ _ _) fun _=>trivial
 case mapUpdate=>exact af (BH a b f _ _ _ _) fun _=>trivial
 case extract=>exact af (FI _ _) fun _=>trivial
 case panic=>exact af (L3 a b _) fun _=>trivial
 case call c=>exact gR (yo P P' d ρ c o.type h) fun j e=>tZ a l d _ _ e
 case defer c=>
  simp only[lO,Sz] at h;exact gR (DT P P' ρ c o.type h.2) fun j e=>e
end
structure oe(P P':Sd):Prop where
 T:Twin P P'
 E:Ext P P'
 quiet:∀ f:Nat,(P'.funcs[f]?).any (·.norace)=(P.funcs[f]?).any (·.norace)
 mixed:P'.follows .mixedOrders=P.follows .mixedOrders
 bad:∀ f:Nat,P'.funcs[f]? =P.funcs[f]? ∨∃ fn s,P.funcs[f]? =RX fn∧fn.body=RX (.refuse s)
 Es:∀ (f:Nat) (fn:UB) (c:U7),P.funcs[f]? =RX fn→fn.body=RX c→aT P R6 c=R7
 view:Views P P'
def bI (P:Sd)(a:Bool):UC→Prop
 | .code b| .inLoop b=>aT P a b=R7
 | .inBlock _| .inRangeFunc _| .endRangeFunc _=>True
 | .beginRound=>a=R7
 | .inRegion d _=>(d.toList.all fun c=>lO P a c.op)=R7
 |_=>False
structure mq(P:Sd)(fr:Sn):Prop where
 todo:∀ i∈fr.todo,bI P fr.roundOf.isSome i
 defers:∀ d∈fr.defers,kT d.target=R7
 kind:fr.kind= .normal∨fr.kind= .deferred
def cA:Sn→List Sn→Prop
 |fr,[]=>fr.kind= .normal
 |_,f :: a=>cA f a
structure ed(P:Sd)(fr:Sn)(av:List Sn):Prop where
 top:mq P fr
 rest:∀ f∈av,mq P f
 bot:cA fr av
def G4 (fr:Sn):Prop:=fr.mode= .run∧∃ s,fr.todo=[.code (.refuse s)]
def B0 (n:Nat)(e:Ti):Prop:=match e.loc with
 | .obj b=>b<n
 | .cell a=>a.block<n
 | .mark m=>Conc.Neutral m
 |_=>True
def B0.mono{n m:Nat}(h:n≤m){e:Ti}(a:B0 n e):B0 m e:=by
 unfold B0 at*
 split<;>simp_all<;>omega
theorem Bz(h:T1→Bool):∀ (l:List Ti) (q:Bool) (kept:Array Ti),(∀ e∈kept,∀ f,e.loc≠.mark (.extern f))→∀ e∈(l.foldl (Conc.seenStep h) (q,kept)).2,∀ f,e.loc≠.mark (.extern f):=by
 intro l
 induction l with
 |nil=>exact fun _ _ a=>a
 |cons i l c=>
  intro q kept a;simp only[List.foldl_cons,Conc.seenStep]
  split
  ·exact c _ _ a
  ·rename_i g;refine c _ _ ?_
   split
   ·exact a
   ·intro e b;rcases Array.mem_push.1 b with b|rfl
    ·exact a e b
    ·exact fun f d=>g f d
theorem Dy{P:Sd}{fn:T1}{es:Array Ti}{n:Nat}(h:∀ e∈es,yN n e):∀ e∈seen P fn es,B0 n e:=by
 intro e c;have a:=h e (Conc.mem_seen c);have d:∀ f,e.loc≠.mark (.extern f):=by
  rw[Conc.seen_def] at c;exact Bz _ _ _ _ (fun e h=>by simp at h) e c
 unfold yN at a;unfold B0;cases b:e.loc with
 |mark m=>
  rw[b] at a;rcases a with a|⟨f,rfl⟩
  ·exact a
  ·exact absurd b (d f)
 |cell g=>rw[b] at a;exact a
 |obj i=>rw[b] at a;exact a
 |_=>trivial
structure B7(P P':Sd)(w:R3)(F:Sd→Bool→List Sn→R3→V0)(fr':Sn)(tops':List Sn)(w':R3)(es:Array Ti):Prop where
 eq:∀ m cs,F P m cs w= .go (Se fr' (tops' ++ cs)) w' es
 ok:ed P fr' tops'
 hp:Hp (aR P) w'
 tape:w'.tape=w.tape
 drawn:w.drawn≤w'.drawn
 size:w.heap.size≤w'.heap.size
 os:w'.os=w.os
 output:w'.output=w.output
 evs:∀ e∈es,B0 w'.heap.size e
 twin:(P≠P'∧G4 fr')∨∀ τ d u,Un w u→Al w.tape w.drawn τ d (w'.drawn - w.drawn)→∃ u',qU w u w' u'∧∀ m cs,F P' m cs (sh τ d u)= .go (Se fr' (tops' ++ cs)) (sh τ (d+(w'.drawn - w.drawn)) u') es
def AI (P P':Sd)(w:R3)(F:Sd→Bool→List Sn→R3→V0):Prop:=
 (∀ m c,∃ e b a,F P m c w= .ended e b a)∨∃ d f b a,B7 P P' w F d f b a
section
variable {P P':Sd}{w:R3}
def gE(b:Hp (aR P) w)(fr':Sn)(tops':List Sn)(ok:ed P fr' tops'):AI P P' w (fun R m cs w=>.go (Se fr' (tops' ++ cs)) w):=
 .inr ⟨fr',tops',w,#[],fun _ _=>rfl,ok,b,rfl,R8 _,R8 _,rfl,rfl,fun f a=>by simp at a,.inr fun g e d c _=>⟨d,c.two,fun m cs=>by simp⟩⟩
theorem Ac(v:Hp (aR P) w)(h:oe P P')(f:T1)(args:Array R2)(kind:CallKind)(u:kind= .normal∨kind= .deferred)(tops':List Sn)(x:∀ f∈tops',mq P f)(p:cA (SW P f args kind) tops'):
 AI P P' w (fun R m cs w=>.go (Se (SW R f args kind) (tops' ++ cs)) w):=by
 have t:mq P (SW P f args kind):=by
  refine⟨fun z i=>?_,fun e q=>by simp[SW] at q,u⟩;simp only[SW,List.mem_singleton] at i;subst i;show aT P R6 _=R7;cases r:P.funcs[f]? with
  |none=>rfl
  |some a=>
   cases b:a.body with
   |none=>simp[b,aT]
   |some k=>simpa [b] using h.Es f a k r b
 refine .inr ⟨SW P f args kind,tops',w,#[],fun _ _=>rfl,⟨t,x,p⟩,v,rfl,R8 _,R8 _,rfl,rfl,fun g l=>by simp at l,?_⟩;rcases h.bad f with g|⟨a,s,n,o⟩
 ·refine .inr fun y e d c _=>⟨d,c.two,fun m cs=>?_⟩;have:SW P' f args kind=SW P f args kind:=by unfold SW;rw[g]
  simp[this]
 ·by_cases j:P=P'
  ·subst j;exact .inr fun y e d c _=>⟨d,c.two,fun m cs=>by simp⟩
  ·refine .inl ⟨j,rfl,s,?_⟩;simp[SW,n,o]
def Jg(a:oe P P')(f:T1)(es:Array Ti):seen P' f es=seen P f es:=by
 unfold seen;simp only[a.quiet]
theorem nR{α:Type}(r:oe P P')(D:Hp (aR P) w)(f:T1){s:Ul α}{Q:α→Prop}(E:Still P P' (aR P) Q s){F:Sd→Bool→List Sn→R3→V0}(j:Sd→Bool→List Sn→Vv α→V0)
 (hF:∀ R,R=P∨R=P'→∀ m cs w,(∀ h w',(s.runT R w #[]).1= .halt h w'→oz h=R7)→(∀ a w',(s.runT R w #[]).1= .ok a w'→Q a)→F R m cs w=UE (seen R f (s.runT R w #[]).2) (j R m cs (s.runT R w #[]).1))
 (C:∀ a w',Q a→Hp (aR P) w'→AI P P' w' (fun R m cs w=>j R m cs (.ok a w)))
 (B:∀ h w',oz h=R7→Hp (aR P) w'→AI P P' w' (fun R m cs w=>j R m cs (.halt h w)))
 (H:∀ y w' m cs,∃ o p es,j P m cs (.halt (.stuck y) w')= .ended o p es):AI P P' w F:=by
 have b:=LJ (dR P) r.view s w #[] E D;rcases b.shift with⟨y,w',K⟩|G
 ·refine .inl fun m cs=>?_;obtain⟨o,p,es,h⟩:=H y w' m cs;refine⟨o,p,seen P f (s.runT P w #[]).2 ++ es,?_⟩;rw[hF P (.inl rfl) _ _ _ b.halt b.ok,K,h];rfl
 have d:AI P P' (rW (s.runT P w #[]).1) (fun R m cs n=>j R m cs (MK n (s.runT P w #[]).1)):=by
  cases h:(s.runT P w #[]).1 with
  |ok a e=>exact C a e (b.ok a e h) (by have:=b.hp;rw[h] at this;exact this)
  |halt i e=>exact B i e (b.halt i e h) (by have:=b.hp;rw[h] at this;exact this)
 have u:MK (rW (s.runT P w #[]).1) (s.runT P w #[]).1=(s.runT P w #[]).1:=by cases(s.runT P w #[]).1<;>rfl
 rcases d with d|⟨z,N,w',es,d⟩
 ·refine .inl fun m cs=>?_;obtain⟨o,w',es,h⟩:=d m cs;dsimp only at h;rw[u] at h;refine⟨o,w',seen P f (s.runT P w #[]).2 ++ es,?_⟩;rw[hF P (.inl rfl) _ _ _ b.halt b.ok,h];rfl
 ·refine .inr ⟨z,N,w',seen P f (s.runT P w #[]).2 ++ es,fun m cs=>?_,d.ok,d.hp,d.tape.trans b.tape,Ss b.drawn d.drawn,Ss b.size d.size,d.os.trans b.os,d.output.trans b.output,fun c A=>?_,?_⟩
  ·have:=d.eq m cs
   try dsimp only at this
   rw[u] at this;rw[hF P (.inl rfl) _ _ _ b.halt b.ok,this];rfl
  ·rcases Array.mem_append.1 A with h|h
   ·refine B0.mono d.size (Dy (fun i g=>?_) c h);rcases b.evs i g with h|h
    ·simp at h
    ·exact h
   ·exact d.evs c h
  ·rcases d.twin with h|h
   ·exact .inl h
   ·refine .inr fun x q n J t=>?_;have O:=b.drawn;have S:=d.drawn;obtain⟨u1,v,l⟩:=G x q n J (t.sub (by omega));obtain⟨u2,I,k⟩:=h x (q+((rW (s.runT P w #[]).1).drawn - w.drawn)) u1 v.un (by
     intro L M T;have:=t ((rW (s.runT P w #[]).1).drawn - w.drawn+L) M (by omega);rw[Td,b.tape,this];congr 1;omega)
    refine⟨u2,v.trans I,fun m cs=>?_⟩;replace k:=k m cs;rw[hF P' (.inr rfl) _ _ _ (fun h w' c=>by
     rw[l] at c;cases g:(s.runT P w #[]).1 with
     |ok a e=>rw[g] at c;simp[MK] at c
     |halt i e=>
      rw[g] at c;simp only[MK,WL] at c;rw[← c.1];exact b.halt i e g) (fun a w' c=>by
     rw[l] at c;cases g:(s.runT P w #[]).1 with
     |halt a e=>rw[g] at c;simp[MK] at c
     |ok i e=>
      rw[g] at c;simp only[MK,Result.ok.injEq] at c;rw[← c.1];exact b.ok i e g),l]
    dsimp only at k ⊢;rw[k,Jg r];show GStep.go _ _ _=GStep.go _ _ _;congr 2;omega
end
def di (fr:Sn)(av:List Sn)(R:Sd)(m:Bool)(cs:List Sn)(w:R3):V0:=SO R m (Se fr (av ++ cs)) w
section
variable {P P':Sd}{w:R3}
theorem fM{F F':Sd→Bool→List Sn→R3→V0}(h:∀ R,R=P∨R=P'→∀ m cs w,F R m cs w=F' R m cs w)(a:AI P P' w F'):AI P P' w F:=by
 rcases a with a|⟨e,k,o,d,a⟩
 ·exact .inl fun m cs=>by rw[h P (.inl rfl)];exact a m cs
 ·exact .inr ⟨e,k,o,d,fun m cs=>by rw[h P (.inl rfl)];exact a.eq m cs,a.ok,a.hp,a.tape,a.drawn,a.size,a.os,a.output,a.evs,a.twin.imp id fun f p b l j g=>by
  obtain⟨n,i,c⟩:=f p b l j g;exact⟨n,i,fun m cs=>by rw[h P' (.inr rfl)];exact c m cs⟩⟩
def tD{fr:Sn}(h:mq P fr){k:List UC}(a:∀ i∈k,bI P fr.roundOf.isSome i):mq P {fr with todo:=k}:=⟨a,h.defers,h.kind⟩
theorem wu{fr b:Sn}(h:b.kind=fr.kind):∀ {l:List Sn},cA fr l→cA b l
 | [],a=>h.trans a
 |_ :: _,a=>a
def gS{fr a:Sn}{av:List Sn}(h:ed P fr av)(b:mq P a)(c:a.kind=fr.kind):ed P a av:=⟨b,h.rest,wu c h.bot⟩
theorem Hr{c:U7}(h:aT P R7 c=R7):aT P R6 c=R7:=by
 have k:∀ a,lO P R7 a=R7→lO P R6 a=R7:=by
  intro a b;cases a<;>first|exact b|skip
  ·rename_i c;obtain⟨j,_,_⟩:=c;cases j with
   |builtin e=>cases e<;>first|rfl|exact b
   |_=>rfl
  ·simp[lO] at b
 induction c with
 |region _ l _=>
  simp only[aT,SC] at h ⊢;exact fun a b=>k _ (h a b)
 |seq d e g i=>simp only[aT,Sz] at h ⊢;exact⟨g h.1,i h.2⟩
 |cond _ d e g i=>simp only[aT,Sz] at h ⊢;exact⟨g h.1,i h.2⟩
 |block _ d f=>exact f h
 |loop d f=>exact f h
 |rangeFunc _ _ d e _ _=>exact h
 |_=>first|rfl|(simp[aT] at h)
def MV{a:Bool}{c:U7}(h:aT P R7 c=R7):aT P a c=R7:=by
 cases a
 ·exact Hr h
 ·exact h
theorem q7{c:Bool}{id:Nat}:∀ {l k:List UC},(∀ i∈l,bI P c i)→VQ id l=RX k→∀ i∈k,bI P c i
 | [],k,_,a=>by simp[VQ] at a
 |i :: l,k,d,a=>by
  have b:∀ i∈l,bI P c i:=fun f e=>d f (by simp[e]);cases i<;>simp only[VQ] at a
  case inBlock g=>
   split at a
   ·cases a;exact b
   ·exact q7 b a
  all_goals exact q7 b a
theorem eF{fr:Sn}(h:mq P fr)(v:R2):mq P (fr.finish v)∧(fr.finish v).kind=fr.kind:=by
 unfold TX;have a:=h.todo
 split
 ·rename_i g f i e b;rw[b] at a;exact⟨⟨fun d c=>by
   rcases TE.1 c with rfl|c
   ·exact a (.inRegion g (f :: i)) (by simp)
   ·exact a d (by simp[c]),h.defers,h.kind⟩,rfl⟩
 ·rename_i j e b;rw[b] at a;exact⟨⟨fun d c=>by
   rcases TE.1 c with rfl|c
   ·exact trivial
   ·exact a d (by simp[c]),h.defers,h.kind⟩,rfl⟩
 ·rename_i e b;rw[b] at a;exact⟨⟨fun d c=>a d (by simp[c]),h.defers,h.kind⟩,rfl⟩
 ·rename_i b;rw[b] at a;exact(a _ (U4 ..)).elim
 ·rename_i b;rw[b] at a;exact(a _ (U4 ..)).elim
 ·exact⟨h,rfl⟩
def kr{fr:Sn}(h:mq P fr)(c:List Tv):mq P (fr.raise c)∧(fr.raise c).kind=fr.kind:=by
 unfold Frame.raise
 split<;>exact⟨⟨h.todo,h.defers,h.kind⟩,rfl⟩
def Dp(l:Nat)(f:T1)(tmps:Array R2)(a b:U7)(k:CallKind)(h:k= .normal∨k= .deferred)(d:aT P R7 a=R7)(e:aT P R7 b=R7):mq P (UJ l f tmps a b k):=by
 refine⟨fun j c=>?_,fun i g=>by simp[UJ] at g,h⟩;simp only[UJ,TE,Vr,or_false] at c;rcases c with rfl|rfl|rfl
 ·exact d
 ·rfl
 ·exact e
theorem Ff{fr:Sn}{av:List Sn}(h:ed P fr av):
 (∀ cs,U2 fr (av ++ cs)=RZ)∨∃ v tops',(∀ cs,U2 fr (av ++ cs)=RX (v,tops' ++ cs))∧(∀ f∈tops',mq P f)∧cA fr tops':=by
 obtain⟨l,j,e⟩:=h;rcases l.kind with a|a
 ·exact .inl fun cs=>by unfold U2;rw[a]
 ·cases av with
  |nil=>exact absurd (e.symm.trans a) (by simp)
  |cons d i=>
   by_cases c:∃ v b,d.mode= .panicking ({v,recovered:=R6,goexit:=R6} :: b)
   ·obtain⟨v,b,c⟩:=c;refine .inr ⟨v,{d with mode:=.panicking ({v,recovered:=R7} :: b)} :: i,fun cs=>?_,fun f g=>?_,?_⟩
    ·unfold U2;simp[a,c]
    ·rcases TE.1 g with rfl|g
     ·have:=j d (by simp);exact⟨this.todo,this.defers,this.kind⟩
     ·exact j f (by simp[g])
    ·cases i with
     |nil=>exact e
     |cons m i=>exact e
   ·refine .inl fun cs=>?_;unfold U2;simp only[a,Uk]
    split
    ·rename_i v b k;exact absurd ⟨v,b,k⟩ c
    ·rfl
def eS(a:V0):UE #[] a=a:=by cases a<;>simp[UE]
def seen_none(R:Sd)(f:T1):seen R f #[]=#[]:=by simp[seen]
theorem tN(z:oe P P')(I:Hp (aR P) w){fr:Sn}{av:List Sn}(h:ed P fr av){s:Ul Next}(J:Still P P' (aR P) (oD P fr.roundOf.isSome) s)(H:∀ d wr K L k,fr.todo≠.call d wr K L :: k):
 AI P P' w (fun R m cs w=>TL R R7 fr (av ++ cs) RZ s w):=by
 have e:(fr.kind == .early)=R6:=by rcases h.top.kind with n|n<;>rw[n]<;>rfl
 have G:(match fr.todo with| .call _ R7 _ _ :: _=>CallKind.wrapped|_=>.normal)= .normal:=by
  split
  ·rename_i n;exact absurd n (H _ _ _ _ _)
  ·rfl
 refine nR z I fr.fn J (fun R m cs u=>match u with
  | .ok c w=>TL R R7 fr (av ++ cs) RZ (.pure c) w
  | .halt a w=>TL R R7 fr (av ++ cs) RZ (.halt a) w) (fun R O m cs w o _=>?_) (fun c y i g=>?_) (fun a y b g=>?_) (fun Q y m cs=>⟨_,_,_,by simp only[TL,S1,seen_none,e,eS,if_true,SD,if_false];rfl⟩)
 ·unfold TL;simp only[if_true,e,SD,if_false];generalize E:s.runT R w #[]=D;obtain⟨u,N⟩:=D;rw[E] at o;cases u with
  |ok c C=>simp[S1,eS,seen_none]
  |halt a C=>
   have:=o a C rfl;cases a<;>first|(simp[oz] at this;done)|(simp[S1,eS,seen_none];done)|skip
   rename_i x;cases x<;>first|(simp[oz] at this;done)|(simp[S1,eS,seen_none];done)
 ·have r:∀ v:R2,AI P P' y (fun R m cs w=>.go (Se (fr.finish v) (av ++ cs)) w):=fun v=>gE g _ _ (gS h (eF h.top v).1 (eF h.top v).2);have j:∀ (R:Sd) (cs:List Sn) (w:R3),TL R R7 fr (av ++ cs) RZ (.pure c) w=(match c with
   | .value v=>GStep.go (Se (fr.finish v) (av ++ cs)) w
   | .skip=>.go (Se (fr.finish Tq) (av ++ cs)) w
   | .enter f args=>.go (Se (SW R f args .normal) (fr :: (av ++ cs))) w
   | .round p f q a l=>.go (Se (UJ p f q a l .normal) (fr :: (av ++ cs))) w
   | .defer d=>.go (Se ({fr with defers:=d :: fr.defers}.finish Tq) (av ++ cs)) w
   |_=>TL R R7 fr (av ++ cs) RZ (.pure c) w):=by
   intro R cs w;cases c<;>first|rfl|skip
   all_goals simp[TL,S1,seen_none,e,eS,Se]
   exact congrArg (SW R _ _) G
  cases c with
  |value v=>exact fM (fun R _ m cs w=>j R cs w) (r v)
  |skip=>exact fM (fun R _ m cs w=>j R cs w) (r Tq)
  |enter f args=>exact fM (fun R _ m cs w=>j R cs w) (Ac g z f args .normal (.inl rfl) (fr :: av) (fun a b=>by
   rcases TE.1 b with rfl|b
   ·exact h.top
   ·exact h.rest a b) h.bot)
  |round p f q a l=>exact fM (fun R _ m cs w=>j R cs w) (gE g (UJ p f q a l .normal) (fr :: av) ⟨Dp p f q a l .normal (.inl rfl) i.1 i.2,fun a b=>by
   rcases TE.1 b with rfl|b
   ·exact h.top
   ·exact h.rest a b,h.bot⟩)
  |defer d=>
   have A:mq P {fr with defers:=d :: fr.defers}:=⟨h.top.todo,fun a b=>by
    rcases TE.1 b with rfl|b
    ·exact i
    ·exact h.top.defers a b,h.top.kind⟩
   exact fM (fun R _ m cs w=>j R cs w) (gE g _ _ (gS h (eF A Tq).1 (eF A Tq).2))
  |recover=>
   have B:fr.roundOf=RZ:=by
    have:fr.roundOf.isSome=R6:=i;simpa using this
   rcases Ff h with t|⟨v,M,t,o,F⟩
   ·exact fM (fun R _ m cs w=>by simp[TL,S1,seen_none,e,eS,Se,B,t]) (r .nilIface)
   ·exact fM (fun R _ m cs w=>by simp[TL,S1,seen_none,e,eS,Se,B,t]) (gE g (fr.finish v) M ⟨(eF h.top v).1,o,wu (eF h.top v).2 F⟩)
  |_=>exact i.elim
 ·cases a with
  |panic v=>
   refine fM (F':=fun R m cs w=>.go (Se (fr.raise [{v,recovered:=R6}]) (av ++ cs)) w) (fun R _ m cs w=>?_) (gE g _ _ (gS h (kr h.top _).1 (kr h.top _).2));simp[TL,S1,seen_none,e,eS,Se]
  |stuck s=>exact .inl fun m cs=>⟨_,_,_,by simp only[TL,S1,seen_none,e,eS,if_true,SD,if_false];rfl⟩
  |unsupported x=>
   refine .inl fun m cs=>?_;cases x<;>first|(simp[oz] at b;done)|exact⟨_,_,_,by simp only[TL,S1,seen_none,e,eS,if_true,SD,if_false];rfl⟩
  |_=>simp[oz] at b
def od (fr:Sn)(av:List Sn):Prop:=av=[]→(fr.mode≠.run→fr.defers≠[])∧(fr.mode= .run→fr.roundOf=RZ∨(fr.todo≠[]∧(∀ a,fr.todo≠.code .ret :: a)∧∀ id a,fr.todo= .code (.exit id) :: a→VQ id a≠RZ))
theorem rm(A:oe P P')(k:Hp (aR P) w){fr c:Sn}{av:List Sn}(h:ed P fr (c :: av))(v:R2):AI P P' w (fun R m cs w=>UM R m fr (c :: av ++ cs) RZ v w):=by
 have a:mq P c:=h.rest c (by simp);have l:∀ f∈av,mq P f:=fun f p=>h.rest f (by simp[p]);have i:cA c av:=h.bot;rcases h.top.kind with b|b
 ·refine fM (F':=fun R m cs w=>.go (Se (c.finish v) (av ++ cs)) w) (fun R _ m cs w=>?_) (gE k _ _ ⟨(eF a v).1,l,wu (eF a v).2 i⟩);simp[UM,b,Se]
 ·obtain⟨e,n,q,o⟩:∃ e:Sn,mq P e∧e.kind=c.kind∧∀ (R:Sd) (m:Bool) (cs:List Sn) (w:R3),UM R m fr (c :: av ++ cs) RZ v w= .go (Se e (av ++ cs)) w:=by
   cases d:c.mode with
   |run=>exact⟨c,a,rfl,fun R m cs w=>by simp[UM,b,d,Se]⟩
   |returning=>exact⟨c,a,rfl,fun R m cs w=>by simp[UM,b,d,Se]⟩
   |panicking r=>
    cases r with
    |nil=>exact⟨c,a,rfl,fun R m cs w=>by simp[UM,b,d,Se]⟩
    |cons g s=>
     obtain⟨y,u,z⟩:=g;cases u with
     |false=>exact⟨c,a,rfl,fun R m cs w=>by simp[UM,b,d,Se]⟩
     |true=>
      cases j:s.dropWhile (fun g:Tv=> !g.goexit) with
      |nil=>exact⟨{c with mode:=.returning},⟨a.todo,a.defers,a.kind⟩,rfl,fun R m cs w=>by simp[UM,b,d,Se,j]⟩
      |cons x t=>exact⟨{c with mode:=.panicking (x :: t)},⟨a.todo,a.defers,a.kind⟩,rfl,fun R m cs w=>by simp[UM,b,d,Se,j]⟩
  exact fM (fun R _ m cs w=>o R m cs w) (gE k _ _ ⟨n,l,wu q i⟩)
end
section
variable {P P':Sd}{w:R3}
def DH(l:Nat)(j:Option U7)(b:∀ c,j=RX c→aT P R7 c=R7):St P P' (aR P) (VL l j):=by
 unfold VL;exact gR (mb l) fun d a=>af (lz _ ⟨a.1,a.2.1,b⟩) fun _=>trivial
def zn(b:Twin P P')(l:Nat):St P P' (aR P) (Instr.beginRound l):=by
 unfold Instr.beginRound;refine gR (mb l) fun c a=>af (lz _ ⟨a.1,a.2.1,a.2.2⟩) fun _=>?_
 split
 ·exact trivial
 all_goals exact bz b (dR P) _
def FG(b:Twin P P')(l:Nat):Still P P' (aR P) (fun j=>∀ c,j=RX c→aT P R7 c=R7) (Instr.endLoop l):=by
 unfold Instr.endLoop;refine gR (mb l) fun d a=>?_;dsimp only
 split
 ·exact af (bz b (dR P) _) fun _=>af (lz _ ⟨a.1,a.2.1,a.2.2⟩) fun _=>a.2.2
 ·exact af (lz _ ⟨a.1,a.2.1,a.2.2⟩) fun _=>a.2.2
theorem BD(f:T1)(tmps:Array R2)(ps:Array Tmp)(a b:U7)(h:Option Nat)(k:aT P R7 a=R7)(l:aT P R7 b=R7):Still P P' (aR P) (fun p=>∀ d∈p.2,kT d.target=R7) (Instr.enterLoop f tmps ps a b h):=by
 unfold Instr.enterLoop;have i:∀ (e:Nat),aR P (.loop {state:=.ready,pending:=RZ,fn:=f,tmps,params:=ps,assign:=a,body:=b,defers:=e}):=fun e=>⟨k,l,fun r j=>by cases j⟩;cases h with
 |some m=>
  refine af (Rs (mb m)) fun q=>gR (Q:=fun p:Nat×List Uc=>∀ d∈p.2,kT d.target=R7) (fun d c=>by simp at c) fun p g=>?_;obtain⟨e,n⟩:=p;exact af (lu (i _)) fun o=>g
 |none=>
  refine af (lu (fun d c=>by simp at c)) fun q=>gR (Q:=fun p:Nat×List Uc=>∀ d∈p.2,kT d.target=R7) (fun d c=>by
   simp only[List.mem_singleton] at c;subst c;rfl) fun p g=>?_
  obtain⟨e,n⟩:=p;exact af (lu (i _)) fun o=>g
def vw(b:Nat):Still P P' (aR P) (fun ds=>∀ d∈ds,kT d.target=R7) (Instr.takeDeferred b):=by
 unfold Instr.takeDeferred;refine iN b (fun c a=>?_) (oT rfl)
 split
 ·exact af (lz _ trivial) fun _=>a
 ·exact aq _
theorem tO(e:oe P P')(f:Hp (aR P) w){fr:Sn}{av:List Sn}(h:ed P fr av)(p:av=[]→fr.roundOf=RZ)(j:Option U7)(n:∀ c,j=RX c→aT P R7 c=R7)
 {F:Sd→Bool→List Sn→R3→V0} (i:fr.roundOf=RZ→(∀ m cs,∃ o w' es,F P m cs w= .ended o w' es)∨∀ R,R=P∨R=P'→∀ m cs w,F R m cs w= .go (Se {fr with mode:=.returning} (av ++ cs)) w)
 (k:∀ l,fr.roundOf=RX l→∀ R m cs w,F R m cs w=UE (seen R fr.fn ((VL l j).runT R w #[]).2) (match ((VL l j).runT R w #[]).1 with
   | .ok v w=>UM R m fr (av ++ cs) RZ v w
   | .halt _ w=>.ended (.stuck "range over a function: no such loop" (fr.pos R)) w)):AI P P' w F:=by
 cases b:fr.roundOf with
 |none=>
  rcases i b with d|d
  ·exact .inl d
  ·exact fM d (gE f _ _ (gS h ⟨h.top.todo,h.top.defers,h.top.kind⟩ rfl))
 |some l=>
  cases av with
  |nil=>rw[p rfl] at b;cases b
  |cons c av=>
   refine nR e f fr.fn (DH l j n) (fun R m cs q=>match q with
    | .ok v w=>UM R m fr (c :: av ++ cs) RZ v w
    | .halt _ w=>.ended (.stuck "range over a function: no such loop" (fr.pos R)) w) (fun R r m cs w _ _=>k l b R m cs w) (fun a w' _ g=>?_) (fun t w' s g=>?_) (fun u w' m cs=>⟨_,_,_,rfl⟩)
   ·exact rm e g h a
   ·exact .inl fun m cs=>⟨_,_,_,rfl⟩
theorem LD(k:oe P P')(u:Hp (aR P) w){fr:Sn}{av:List Sn}(h:ed P fr av)(T:od fr av)(d:fr.mode= .run):AI P P' w (di fr av):=by
 have V:=h.top.todo;have U:av=[]→fr.roundOf=RZ∨(fr.todo≠[]∧(∀ e,fr.todo≠.code .ret :: e)∧∀ id e,fr.todo= .code (.exit id) :: e→VQ id e≠RZ):=fun j=>(T j).2 d;cases b:fr.todo with
 |nil=>
  refine tO k u h (fun j=>(U j).elim id fun n=>absurd b n.1) RZ (fun q j=>by cases j) (fun I=>.inr fun c _ m a w=>?_) (fun i x c m a w=>?_)
  ·simp[di,Se,SO,SJ,d,b,I]
  ·simp only[di,Se,SO,SJ,d,b,x];rfl
 |cons W e=>
  rw[b] at V;have D:=V W (by simp);have o:∀ l∈e,bI P fr.roundOf.isSome l:=fun l t=>V l (by simp[t]);have move:∀ (K:List UC),(∀ l∈K,bI P fr.roundOf.isSome l)→(∀ c m a w,di fr av c m a w= .go (Se {fr with todo:=K} (av ++ a)) w)→AI P P' w (di fr av):=fun K k j=>fM (fun c _ m a w=>j c m a w) (gE u _ _ (gS h (tD h.top k) rfl));have r:∀ {l:UC} {i:List UC},bI P fr.roundOf.isSome l→(∀ l∈i,bI P fr.roundOf.isSome l)→∀ n∈l :: i,bI P fr.roundOf.isSome n:=fun t x n y=>by
   rcases TE.1 y with rfl|y
   ·exact t
   ·exact x n y
  have R:(∀ m a,∃ L E Y,di fr av P m a w= .ended L E Y)→AI P P' w (di fr av):=fun j=>.inl j;cases W with
  |inBlock l=>exact move e o fun c m a w=>by simp[di,Se,SO,SJ,d,b]
  |inLoop q=>exact move (.code q :: .inLoop q :: e) (r D (r D o)) fun c m a w=>by simp[di,Se,SO,SJ,d,b]
  |inScope q=>exact D.elim
  |call _ _ _ _=>exact D.elim
  |extern _ _=>exact D.elim
  |inRangeFunc i=>exact R fun m a=>by simp[di,Se,SO,SJ,d,b]
  |beginRound=>
   have T:Still P P' (aR P) (oD P fr.roundOf.isSome) (do fr.roundOf.elim (stuck "beginRound: no round") Instr.beginRound;pure .skip):=by
    refine af ?_ fun _=>trivial;cases fr.roundOf with
    |none=>exact aq _
    |some i=>exact zn k.T i
   refine fM (fun c _ m a w=>?_) (tN k u h T (by simp[b]));simp only[di,Se,SO,SJ,d,b]
  |endRangeFunc i=>
   refine nR k u fr.fn (FG k.T i) (fun c m a O=>match O with
    | .ok ae w=>.go (Se {fr with todo:=(ae.map Item.code).toList ++ e} (av ++ a)) w
    | .halt (.panic v) w=>.go (Se (fr.raise [{v,recovered:=R6}]) (av ++ a)) w
    | .halt _ w=>.ended (.stuck "range over a function: no such loop" (fr.pos c)) w) (fun c Z m a w _ _=>?_) (fun p E H G=>?_) (fun n E y G=>?_) (fun Q E m a=>⟨_,_,_,rfl⟩)
   ·simp only[di,Se,SO,SJ,d,b];rfl
   ·refine gE G _ _ (gS h (tD h.top fun l t=>?_) rfl);rcases S7.1 t with t|t
    ·cases p with
     |none=>simp at t
     |some q=>
      simp at t;subst t;exact MV (H q rfl)
    ·exact o l t
   ·cases n with
    |panic v=>exact gE G _ _ (gS h (kr h.top _).1 (kr h.top _).2)
    |_=>exact .inl fun m a=>⟨_,_,_,rfl⟩
  |inRegion z ao=>
   cases ao with
   |nil=>exact move e o fun c m a w=>by simp[di,Se,SO,SJ,d,b]
   |cons l O=>
    by_cases J:((z[l]?).map (SI · (Tc z fr.tmps))).getD R6=R7
    ·cases M:z[l]? with
     |none=>rw[M] at J;simp at J
     |some L=>
      have S:lO P fr.roundOf.isSome L.op=R7:=by
       have:=SC.1 D L (by
        have:=R9.1 M;obtain⟨t,rfl⟩:=this;simp)
       exact this
      refine fM (fun c _ m a w=>?_) (tN k u h (NX k.T k.E fr.roundOf.isSome fr.eval L S) (by simp[b]));rw[M] at J;simp only[di,Se,SO,SJ,d,b,M,J,if_true,stepG.oper,Frame.oper?]
      split
      ·rename_i i q x g;rw[x,g] at S;simp[lO] at S
      ·rfl
    ·refine fM (F':=fun c m a w=>.go (Se (fr.finish Tq) (av ++ a)) w) (fun c _ m a w=>?_) (gE u _ _ (gS h (eF h.top Tq).1 (eF h.top Tq).2));simp only[di,Se,SO,SJ,d,b,J,if_false];rfl
  |code q=>
   have g:aT P fr.roundOf.isSome q=R7:=D;cases q with
   |skip=>exact move e o fun c m a w=>by simp[di,Se,SO,SJ,d,b]
   |label i=>simp[aT] at g
   |scope i=>simp[aT] at g
   |goto i=>simp[aT] at g
   |refuse s=>exact R fun m a=>by simp[di,Se,SO,SJ,d,b]
   |seq p F=>
    simp only[aT,Sz] at g;exact move (.code p :: .code F :: e) (r g.1 (r g.2 o)) fun c m a w=>by simp[di,Se,SO,SJ,d,b]
   |block id p=>exact move (.code p :: .inBlock id :: e) (r g (r trivial o)) fun c m a w=>by simp[di,Se,SO,SJ,d,b]
   |loop p=>exact move (.code p :: .inLoop p :: e) (r g (r g o)) fun c m a w=>by simp[di,Se,SO,SJ,d,b]
   |cond n p F=>
    simp only[aT,Sz] at g;cases y:fr.eval n with
    |bool Q=>
     refine move (.code (if Q then p else F) :: e) (r ?_ o) fun c m a w=>by simp[di,Se,SO,SJ,d,b,y]
     cases Q
     ·exact g.2
     ·exact g.1
    |_=>exact R fun m a=>by simp[di,Se,SO,SJ,d,b,y]
   |ret=>
    refine tO k u h (fun j=>(U j).elim id fun n=>absurd b (n.2.1 e)) (RX .ret) (fun q j=>by cases j;rfl) (fun I=>.inr fun c _ m a w=>?_) (fun i x c m a w=>?_)
    ·simp[di,Se,SO,SJ,d,b,I]
    ·simp only[di,Se,SO,SJ,d,b,x];rfl
   |exit id=>
    cases C:VQ id e with
    |some K=>exact move K (q7 o C) fun c m a w=>by simp[di,Se,SO,SJ,d,b,C]
    |none=>
     refine tO k u h (fun j=>(U j).elim (fun n=>n) fun n=>absurd C (n.2.2 id e b)) (RX (.exit id)) (fun q j=>by cases j;rfl) (fun I=>.inl fun m a=>?_) (fun i x c m a w=>?_)
     ·simp[di,Se,SO,SJ,d,b,C,I]
     ·simp only[di,Se,SO,SJ,d,b,C,x];rfl
   |region id z X=>
    cases X with
    |false=>exact move (.inRegion z (SS z.size) :: e) (r g o) fun c m a w=>by simp[di,Se,SO,SJ,d,b]
    |true=>
     refine .inr ⟨{fr with todo:=.inRegion z (Vy (P.follows .mixedOrders) z (w.tape w.drawn (.order fr.fn id))) :: e},av,{w with drawn:=w.drawn+1},#[],fun m a=>?_,gS h (tD h.top (r g o)) rfl,u,rfl,Nat.le_succ _,R8 _,rfl,rfl,fun j C=>by simp at C,.inr fun aw A ar N H=>⟨ar,⟨⟨N.size,N.at_,N.os,N.output⟩,fun F ab=>⟨ab,rfl⟩⟩,fun m a=>?_⟩⟩
     ·simp[di,Se,SO,SJ,d,b,choose,Uj,Question.forced,Question.cut]
     ·have:=H 0 (.order fr.fn id) (by simp);simp only[Nat.add_zero] at this;simp[di,Se,SO,SJ,d,b,choose,Uj,Question.forced,Question.cut,k.mixed,sh,this]
   |rangeFunc f am p F=>
    simp only[aT,Sz] at g;refine nR k u fr.fn (BD fr.fn fr.tmps am p F fr.roundOf g.1 g.2) (fun c m a O=>match O with
     | .ok (i,mark) w=>TL c R7 {fr with todo:=.inRangeFunc i :: e,defers:=mark ++ fr.defers} (av ++ a) RZ (do let A ← VE fr.eval {callee:=.value f,args:= #[.const (.func (.yield i) #[] #[])],argTypes:= #[]} 0;invoke A.target A.args) w
     | .halt _ w=>.ended (.stuck "range over a function: no such loop" (fr.pos c)) w) (fun c Z m a w _ _=>?_) (fun al E H G=>?_) (fun n E y G=>?_) (fun Q E m a=>⟨_,_,_,rfl⟩)
    ·simp only[di,Se,SO,SJ,d,b];rfl
    ·obtain⟨i,mark⟩:=al;have ad:mq P {fr with todo:=.inRangeFunc i :: e,defers:=mark ++ fr.defers}:=⟨r trivial o,fun A B=>by
      rcases S7.1 B with B|B
      ·exact H A B
      ·exact h.top.defers A B,h.top.kind⟩
     exact tN k G (gS h ad rfl) (gR (yo P P' fr.roundOf.isSome _ _ _ rfl) fun A B=>tZ k.T k.E _ _ _ B) (by simp)
    ·exact .inl fun m a=>⟨_,_,_,rfl⟩
def KV{a:Bool}{t:Target}(h:kT t=R7):wZ P a t=R7:=by
 cases t<;>first|rfl|(simp[kT] at h)
theorem Bs(j:oe P P')(F:Hp (aR P) w){fr:Sn}{av:List Sn}(h:ed P fr av)(d:Uc)(E:kT d.target=R7)(J:fr.mode≠.run):AI P P' w (fun R m cs w=>callDeferred R fr (av ++ cs) RZ d w):=by
 obtain⟨o,u⟩:=d;by_cases y:o= .nil∧∃ x,fr.mode= .panicking x
 ·obtain⟨rfl,x,D⟩:=y;refine .inl fun m cs=>?_;dsimp only;unfold callDeferred;rw[if_pos ?hP]
  case hP=>simp[D]
  exact⟨_,_,_,rfl⟩
 ·have r:∀ e,Hp (aR P) e→AI P P' e (fun R m cs w=>.go (Se fr (av ++ cs)) w):=fun e b=>gE b _ _ h;refine nR j F fr.fn (tZ j.T j.E R7 o u (KV E)) (fun R m cs q=>match q with
   | .ok (.enter f args) w=>.go (Se (SW R f args .deferred) (fr :: av ++ cs)) w
   | .ok (.round n f p g i) w=>.go (Se (UJ n f p g i .deferred) (fr :: av ++ cs)) w
   | .ok _ w=>.go (Se fr (av ++ cs)) w
   | .halt (.panic v) w=>.go (Se (fr.raise [{v,recovered:=R6}]) (av ++ cs)) w
   | .halt a w=>.ended (match a with| .unsupported A=>.unsupported A (fr.pos R)| .stuck s=>.stuck s (fr.pos R)|_=>.stuck "" "") w) (fun R H m cs w z l=>?_) (fun g e k b=>?_) (fun a e c b=>?_) (fun K e m cs=>⟨_,_,_,rfl⟩)
  ·unfold callDeferred;rw[if_neg ?hL]
   case hL=>
    intro C;apply y;cases o<;>cases l:fr.mode<;>simp[l] at C ⊢
   generalize I:(invoke o u).runT R w #[]=B at z l;obtain⟨q,G⟩:=B;dsimp only;cases q with
   |ok g t=>
    have:=l g t rfl;cases g<;>first|exact absurd this (fun h=>h)|(cases this;done)|rfl
   |halt a t=>
    have:=z a t rfl;cases a<;>first|(simp[oz] at this;done)|rfl
  ·cases g with
   |value v=>exact r e b
   |skip=>exact r e b
   |enter f args=>exact Ac b j f args .deferred (.inr rfl) (fr :: av) (fun a c=>by
    rcases TE.1 c with rfl|c
    ·exact h.top
    ·exact h.rest a c) h.bot
   |round n f p a i=>exact gE b (UJ n f p a i .deferred) (fr :: av) ⟨Dp n f p a i .deferred (.inr rfl) k.1 k.2,fun a c=>by
    rcases TE.1 c with rfl|c
    ·exact h.top
    ·exact h.rest a c,h.bot⟩
   |defer d=>exact r e b
   |recover=>cases k
   |_=>exact k.elim
  ·cases a with
   |panic v=>exact gE b _ _ (gS h (kr h.top _).1 (kr h.top _).2)
   |stuck s=>exact .inl fun m cs=>⟨_,_,_,rfl⟩
   |unsupported A=>exact .inl fun m cs=>⟨_,_,_,rfl⟩
   |_=>simp[oz] at c
def yp(a:Twin P P')(fn:UB)(tmps:Array R2):St P P' (aR P) (SX fn tmps):=by
 unfold SX;refine af (GM _ _ fun b=>?_) fun e=>trivial;cases b with
 |tmp c=>exact trivial
 |cell d c=>exact af (nt a (dR P) _) fun _=>nZ a _ _
theorem Fg(i:oe P P')(j:∀ f:Nat,(P'.funcs[f]? =RZ↔P.funcs[f]? =RZ)∧∀ fn c:UB,P.funcs[f]? =RX fn→P'.funcs[f]? =RX c→c.results=fn.results)(l:Hp (aR P) w){fr:Sn}{av:List Sn}(h:ed P fr av)(O:od fr av)(u:fr.mode≠.run):AI P P' w (di fr av):=by
 have I:∀ a m b w,di fr av a m b w=VR a m fr (av ++ b) RZ w:=fun a m b w=>by
  unfold di;cases o:fr.mode<;>first|exact absurd o u|simp[Se,SO,o]
 refine fM (fun a _ m b w=>I a m b w) ?_;cases e:fr.defers with
 |cons r A=>
  have N:kT r.target=R7:=h.top.defers r (by simp[e]);have D:mq P {fr with defers:=A}:=⟨h.top.todo,fun g d=>h.top.defers g (by simp[e,d]),h.top.kind⟩;have R:=Bs i l (gS h D rfl) r N u;obtain⟨S,U⟩:=r;cases S with
  |collected E=>
   refine nR i l fr.fn (vw E) (fun a m b y=>match y with
    | .ok F w=>.go (Se {fr with defers:=F ++ A} (av ++ b)) w
    | .halt _ w=>.ended (.stuck "the deferred calls of a range-over-func loop have been taken" (fr.pos a)) w) (fun a t m b w _ _=>?_) (fun z p B n=>?_) (fun g p d n=>?_) (fun T p m b=>⟨_,_,_,rfl⟩)
   ·unfold VR;rw[e];rfl
   ·exact gE n _ _ (gS h ⟨h.top.todo,fun g d=>by
     rcases S7.1 d with d|d
     ·exact B g d
     ·exact D.defers g d,h.top.kind⟩ rfl)
   ·exact .inl fun m b=>⟨_,_,_,rfl⟩
  |_=>
   refine fM (fun a _ m b w=>?_) R;unfold VR;rw[e]
 |nil=>
  cases av with
  |nil=>exact absurd e ((O rfl).1 u)
  |cons q av=>
   have C:mq P q:=h.rest q (by simp);have Q:∀ f∈av,mq P f:=fun f j=>h.rest f (by simp[j]);cases x:fr.mode with
   |run=>exact absurd x u
   |panicking G=>
    have M:∀ a,fr.catches a=R6:=fun a=>by
     unfold Frame.catches
     split
     ·rename_i H;exact VP (h.top.todo (Item.call _ _ _ _) (by rw[H];exact U4 ..))
     ·rfl
    refine fM (F':=fun a m b w=>.go (Se (q.raise G) (av ++ b)) w) (fun a _ m b w=>?_) (gE l _ _ ⟨(kr C _).1,Q,wu (kr C _).2 h.bot⟩);unfold VR;rw[e];simp[x,M,Se]
   |returning=>
    cases k:P.funcs[fr.fn]? with
    |none=>
     have V:=(j fr.fn).1.2 k;refine fM (fun a t m b w=>?_) (rm i l h (fr.tmps.getD 0 Tq));have:a.funcs[fr.fn]? =RZ:=by rcases t with rfl|rfl<;>assumption
     unfold VR;rw[e];simp[x,this]
    |some fn=>
     refine nR i l fr.fn (yp i.T fn fr.tmps) (fun a m b y=>match y with
      | .ok v w=>UM a m fr (q :: av ++ b) RZ v w
      | .halt (.stuck s) w=>.ended (.stuck s (fr.pos a)) w
      | .halt _ w=>.ended (.stuck "return: the result variables cannot be read" (fr.pos a)) w) (fun a t m b w _ _=>?_) (fun z p B n=>?_) (fun g p d n=>?_) (fun T p m b=>⟨_,_,_,rfl⟩)
     ·have:∃ c,a.funcs[fr.fn]? =RX c∧c.results=fn.results:=by
       rcases t with rfl|rfl
       ·exact⟨fn,k,rfl⟩
       ·cases o:a.funcs[fr.fn]? with
        |none=>rw[(j fr.fn).1.1 o] at k;cases k
        |some c=>exact⟨c,rfl,(j fr.fn).2 fn c k o⟩
      obtain⟨c,J,K⟩:=this;have L:SX c fr.tmps=SX fn fr.tmps:=by unfold SX;rw[K]
      unfold VR;rw[e];simp only[x,J,L];rfl
     ·exact rm i n h z
     ·cases g<;>exact .inl fun m b=>⟨_,_,_,rfl⟩
def xU(b:oe P P')(g:∀ f:Nat,(P'.funcs[f]? =RZ↔P.funcs[f]? =RZ)∧∀ fn a:UB,P.funcs[f]? =RX fn→P'.funcs[f]? =RX a→a.results=fn.results)(d:Hp (aR P) w){fr:Sn}{av:List Sn}(h:ed P fr av)(e:od fr av):AI P P' w (di fr av):=by
 by_cases c:fr.mode= .run
 ·exact LD b d h e c
 ·exact Fg b g d h e c
end
structure Twins(P P':Sd):Prop where
 A:oe P P'
 R:∀ f:Nat,(P'.funcs[f]? =RZ↔P.funcs[f]? =RZ)∧∀ fn fn':UB,P.funcs[f]? =RX fn→P'.funcs[f]? =RX fn'→fn'.results=fn.results
theorem Still.self{P P':Sd}{h:U9→Prop}{α:Type}{Q:α→Prop}:∀ {s:Ul α},Still P P' h Q s→Still P P h Q s:=by
 intro s
 induction s with
 |pure e=>intro a;exact a
 |load m e c b=>intro a v;exact b v (a v)
 |store m e v c b=>intro a;exact b a
 |new f c b=>intro a;exact⟨a.1,fun d=>b d (a.2 d)⟩
 |shape d c b=>intro a s;exact b s (a s)
 |freeze e g c b=>intro a;exact b a
 |frozen e c b=>intro a i;exact b i (a i)
 |getObj d c b=>intro a;exact⟨fun f j=>b f (a.1 f j),a.2⟩
 |setObj d f c b=>intro a;exact⟨a.1,b a.2⟩
 |choose l c b=>intro a g;exact b g (a g)
 |sys k c b=>intro a;exact⟨a.1,fun d=>b d (a.2 d)⟩
 |program c b=>intro a;exact⟨rfl,b P a.2⟩
 |mark m c b=>intro a;exact⟨a.1,b a.2⟩
 |halt a=>intro a;exact a
theorem Views.self{P P':Sd}(h:Views P P'):Views P P:=by
 have i:∀ (a:R3) c d b m,a.viewLoad P' c d b m=a.viewLoad P c d b m:=fun a c d b m=>h.load a a c d b m fun _ _ _=>Iff.rfl;have s:∀ (a:R3) c d b v m,a.viewStore P' c d b v m=a.viewStore P c d b v m:=fun a c d b v m=>by
  rcases h.store a a c d b v m fun _ _ _=>Iff.rfl with⟨o,j,k⟩|⟨l,i,f,n,j,k,-⟩<;>rw[j,k]
 refine⟨fun a e c d b m g=>(i e c d b m).symm.trans (h.load a e c d b m g),h.touch,fun a e c d b v m g=>?_⟩;rw[← s e];exact h.store a e c d b v m g
def Twins.self{P P':Sd}(h:Twins P P'):Twins P P:=
 ⟨⟨⟨fun _=>rfl,fun _=>rfl,rfl,fun _=>rfl,fun _=>rfl,rfl,fun _ _ _ _ _ _=>rfl,fun _ _ _ _ _=>rfl,fun _ _ _=>rfl,fun _ _=>rfl,fun _=>rfl,fun _ _=>rfl,rfl,rfl,rfl,fun _=>.inl rfl⟩,
  ⟨h.A.E.named,h.A.E.next,fun f c d b a e args=>(h.A.E.find f c d b a e args).self⟩,fun _=>rfl,rfl,fun _=>.inl rfl,h.A.Es,h.A.view.self⟩,fun f=>⟨Iff.rfl,fun c g b a=>by rw[b] at a;cases a;rfl⟩⟩
structure AG(P:Sd)(w w':R3)(es:Array Ti):Prop where
 hp:Hp (aR P) w'
 tape:w'.tape=w.tape
 drawn:w.drawn≤w'.drawn
 size:w.heap.size≤w'.heap.size
 os:w'.os=w.os
 output:w'.output=w.output
 evs:∀ e∈es,B0 w'.heap.size e
def Fin (P P':Sd)(Stop:Sn→List Sn→R3→Prop)(fr:Sn)(av:List Sn)(w u:R3):Prop:=
 ∀ d:Sn→List Sn→R3→R3→Prop,(∀ fr av w u,Stop fr av w→d fr av w u)→
  (∀ fr av w u (c:Tp→Nat→Sn×List Sn×R3×R3×Array Ti),(∀ b a m e,SO P' m (Se fr (av ++ e)) (sh b a u)= .go (Se (c b a).1 ((c b a).2.1 ++ e)) (c b a).2.2.2.1 (c b a).2.2.2.2)→
    (∀ b a,AG P (sh b a w) (c b a).2.2.1 (c b a).2.2.2.2)→(∀ b a,qU (sh b a w) (sh b a u) (c b a).2.2.1 (c b a).2.2.2.1∧(c b a).2.2.2.1.tape=(c b a).2.2.1.tape)→(∀ b a,ed P (c b a).1 (c b a).2.1)→od fr av→
    (∀ b a,d (c b a).1 (c b a).2.1 (c b a).2.2.1 (c b a).2.2.2.1)→d fr av w u)→d fr av w u
def Fin.stop{P P':Sd}{Stop:Sn→List Sn→R3→Prop}{fr:Sn}{av:List Sn}{w u:R3}(h:Stop fr av w):Fin P P' Stop fr av w u:=fun b a _=>a _ _ _ _ h
def Fin.step{P P':Sd}{Stop:Sn→List Sn→R3→Prop}{fr:Sn}{av:List Sn}{w u:R3}(b:Tp→Nat→Sn×List Sn×R3×R3×Array Ti)(go:∀ a d m cs,SO P' m (Se fr (av ++ cs)) (sh a d u)= .go (Se (b a d).1 ((b a d).2.1 ++ cs)) (b a d).2.2.2.1 (b a d).2.2.2.2)
 (g:∀ a d,AG P (sh a d w) (b a d).2.2.1 (b a d).2.2.2.2) (j:∀ a d,qU (sh a d w) (sh a d u) (b a d).2.2.1 (b a d).2.2.2.1∧(b a d).2.2.2.1.tape=(b a d).2.2.1.tape) (ok:∀ a d,ed P (b a d).1 (b a d).2.1) (i:od fr av) (h:∀ a d,Fin P P' Stop (b a d).1 (b a d).2.1 (b a d).2.2.1 (b a d).2.2.2.1):Fin P P' Stop fr av w u:=
 fun e f c=>c _ _ _ _ b go g j ok i fun a d=>h a d e f c
def aZ:Sn:={(default:Sn) with todo:=[.code (.refuse "")],defers:=[{target:=.nil,args:= #[]}],mode:=.run,kind:=.normal}
section
variable {P P':Sd}
def BL(c:Option (List Tv))(w:R3):∃ o w' es,SO P R7 (Se ((c.map aZ.raise).getD aZ) []) w= .ended o w' es:=by
 cases c with
 |none=>simp[Se,SO,SJ,aZ]
 |some a=>simp[Se,SO,aZ,Frame.raise,VR,callDeferred]
theorem Rq(K:Twins P P'){fr:Sn}{w:R3}(M:Hp (aR P) w)(h:ed P fr [])(t:¬ od fr []):(∃ o w' es,SO P R7 (Se fr [aZ]) w= .ended o w' es)∨∃ c w' es,SO P R7 (Se fr [aZ]) w= .go (Se (((c:Option (List Tv)).map aZ.raise).getD aZ) []) w' es:=by
 have E:fr.kind= .normal:=h.bot;have q:∀ v w,UM P R7 fr [aZ] RZ v w= .go (Se aZ []) w:=fun v w=>by simp[UM,E,Se,TX,aZ]
 have r:∀ es g,((∃ o w' es,g=GStep.ended o w' es)∨∃ c w' es,g=GStep.go (Se (((c:Option (List Tv)).map aZ.raise).getD aZ) []) w' es)→(∃ o w' j,UE es g=GStep.ended o w' j)∨∃ c w' j,UE es g=GStep.go (Se (((c:Option (List Tv)).map aZ.raise).getD aZ) []) w' j:=by
  rintro es g (⟨o,w',j,rfl⟩|⟨c,w',j,rfl⟩)
  ·exact .inl ⟨_,_,_,rfl⟩
  ·exact .inr ⟨c,_,_,rfl⟩
 by_cases e:fr.mode= .run
 ·
  have J:∃ b p,fr.roundOf=RX b∧∀ w,SO P R7 (Se fr [aZ]) w=UE (seen P fr.fn ((VL b p).runT P w #[]).2) (match ((VL b p).runT P w #[]).1 with
   | .ok v w=>UM P R7 fr [aZ] RZ v w
   | .halt _ w=>.ended (.stuck "range over a function: no such loop" (fr.pos P)) w):=by
   have:¬ (fr.roundOf=RZ∨(fr.todo≠[]∧(∀ a,fr.todo≠.code .ret :: a)∧∀ id a,fr.todo= .code (.exit id) :: a→VQ id a≠RZ)):=fun D=>t fun _=>⟨fun h=>absurd e h,fun _=>D⟩;rw[not_or] at this;obtain⟨H,n⟩:=this;obtain⟨b,d⟩:∃ b,fr.roundOf=RX b:=by
    cases I:fr.roundOf with
    |none=>exact absurd I H
    |some b=>exact⟨b,rfl⟩
   by_cases s:fr.todo=[]
   ·exact⟨b,RZ,d,fun w=>by simp only[Se,SO,SJ,e,s,d];rfl⟩
   ·by_cases k:∃ a,fr.todo= .code .ret :: a
    ·obtain⟨a,k⟩:=k;exact⟨b,RX .ret,d,fun w=>by simp only[Se,SO,SJ,e,k,d];rfl⟩
    ·by_cases l:∃ id a,fr.todo= .code (.exit id) :: a∧VQ id a=RZ
     ·obtain⟨id,a,l,A⟩:=l;exact⟨b,RX (.exit id),d,fun w=>by simp only[Se,SO,SJ,e,l,A,d];rfl⟩
     ·exact absurd ⟨s,fun a i=>k ⟨a,i⟩,fun id a i G=>l ⟨id,a,i,G⟩⟩ n
  obtain⟨b,p,d,C⟩:=J;rw[C];refine r _ _ ?_;cases((VL b p).runT P w #[]).1 with
  |ok v f=>exact .inr ⟨RZ,f,_,q v f⟩
  |halt u f=>exact .inl ⟨_,_,_,rfl⟩
 ·have m:fr.defers=[]:=by
   by_cases m:fr.defers=[]
   ·exact m
   ·exact absurd (fun _=>⟨fun _=>m,fun h=>absurd h e⟩) t
  have y:∀ w,SO P R7 (Se fr [aZ]) w=VR P R7 fr [aZ] RZ w:=fun w=>by
   cases n:fr.mode<;>first|exact absurd n e|simp[Se,SO,n]
  rw[y];unfold VR;rw[m];cases F:fr.mode with
  |run=>exact absurd F e
  |panicking x=>
   have B:fr.catches P=R6:=by
    unfold Frame.catches
    split
    ·rename_i i;exact VP (h.top.todo (Item.call _ _ _ _) (by rw[i];exact U4 ..))
    ·rfl
   exact .inr ⟨RX x,w,#[],by simp[B,Se]⟩
  |returning=>
   dsimp only;cases L:P.funcs[fr.fn]? with
   |none=>exact .inr ⟨RZ,w,_,q _ w⟩
   |some z=>
    dsimp only;refine r _ _ ?_;cases((SX z fr.tmps).runT P w #[]).1 with
    |ok v f=>exact .inr ⟨RZ,f,_,q v f⟩
    |halt u f=>cases u<;>exact .inl ⟨_,_,_,rfl⟩
end
def Cd (Stop:Sn→List Sn→R3→Prop)(fr:Sn)(av:List Sn)(w:R3):Prop:=∃ b a,Stop fr av (sh b a w)
structure Node(P P':Sd)(Stop:Sn→List Sn→R3→Prop) where
 fr:Sn
 av:List Sn
 w:R3
 u:R3
 ok:ed P fr av
 hp:Hp (aR P) w
 un:Un w u
 no:¬ Fin P P' (Cd Stop) fr av w u
section
variable {P P':Sd}{Stop:Sn→List Sn→R3→Prop}
def Ou (x:Node P P' Stop)(b:Tp)(d:Nat)(y:Node P P' Stop):Prop:=∃ a,B7 P P (sh b d x.w) (di x.fr x.av) y.fr y.av y.w a
def JW (x:Node P P' Stop)(e:Tp)(d:Nat):Prop:=¬ od x.fr x.av∨(∀ m f,∃ g b a,di x.fr x.av P m f (sh e d x.w)= .ended g b a)∨∃ c h b a,B7 P P (sh e d x.w) (di x.fr x.av) c h b a∧G4 c
def GV{w w' c:R3}(h:qU w w w' c)(e:Tp)(d:Nat):sh e d c=sh e d w':=by
 have f:c.heap=w'.heap:=by
  apply Array.ext_getElem?;intro b;rcases h.un.cases b with a|⟨a,j,g,i⟩
  ·exact a
  ·rw[(h.keep b a).2,(h.keep b a).1,a]
 unfold sh;rw[f,h.un.os,h.un.output]
theorem BA{w w':R3}{F:Sd→Bool→List Sn→R3→V0}{fr':Sn}{tops':List Sn}{es:Array Ti}(g:∀ a d u,Un w u→Al w.tape w.drawn a d (w'.drawn - w.drawn)→∃ b,qU w u w' b∧∀ m cs,F P m cs (sh a d u)= .go (Se fr' (tops' ++ cs)) (sh a (d+(w'.drawn - w.drawn)) b) es)(a:Tp)(d:Nat)(e:Al w.tape w.drawn a d (w'.drawn - w.drawn)):F P R7 [aZ] (sh a d w)= .go (Se fr' (tops' ++ [aZ])) (sh a (d+(w'.drawn - w.drawn)) w') es:=by
 obtain⟨b,f,c⟩:=g a d w (Un.refl w) e;rw[c R7 [aZ],GV f]
theorem Ik{w:R3}{fr:Sn}{av:List Sn}(h:Twins P P')(e:Hp (aR P) w)(ok:ed P fr av)(f:od fr av){fr':Sn}{tops':List Sn}{w':R3}{es:Array Ti}(b:B7 P P' w (di fr av) fr' tops' w' es):B7 P P w (di fr av) fr' tops' w' es:=by
 rcases xU h.self.A h.self.R e ok f with d|⟨i,k,m,g,c⟩
 ·obtain⟨j,l,KF,a⟩:=d R7 [];rw[b.eq] at a;cases a
 ·have a:=(c.eq R7 []).symm.trans (b.eq R7 []);simp only[Se,Uy,GStep.go.injEq,Wl] at a;obtain⟨⟨rfl,rfl,-⟩,rfl,rfl⟩:=a;exact c
theorem IC(h:Twins P P')(x:Node P P' Stop):∃ a d y,JW x a d∨Ou x a d y:=by
 apply TY;intro s;have t:∀ a d,¬ JW x a d∧∀ y,¬ Ou x a d y:=fun a d=>⟨fun i=>s ⟨a,d,x,.inl i⟩,fun y C=>s ⟨a,d,y,.inr C⟩⟩;have j:∀ a d,∃ b:Sn×List Sn×R3×R3×Array Ti,(∀ m g,SO P' m (Se x.fr (x.av ++ g)) (sh a d x.u)= .go (Se b.1 (b.2.1 ++ g)) b.2.2.2.1 b.2.2.2.2)∧AG P (sh a d x.w) b.2.2.1 b.2.2.2.2∧(qU (sh a d x.w) (sh a d x.u) b.2.2.1 b.2.2.2.1∧b.2.2.2.1.tape=b.2.2.1.tape)∧ed P b.1 b.2.1∧Fin P P' (Cd Stop) b.1 b.2.1 b.2.2.1 b.2.2.2.1:=by
  intro a d;obtain⟨p,A⟩:=t a d;have f:od x.fr x.av:=TY fun f=>p (.inl f);rcases xU h.A h.R (x.hp.sh a d) x.ok f with z|⟨n,q,e,l,c⟩
  ·exact absurd (.inr (.inl z)) p
  ·have u:=Ik h (x.hp.sh a d) x.ok f c;rcases c.twin with o|i
   ·exact absurd (.inr (.inr ⟨n,q,e,l,u,o.2⟩)) p
   ·obtain⟨r,k,i⟩:=i a d x.u ⟨x.un.size,x.un.at_,x.un.os,x.un.output⟩ (Al.refl _ _ _);have o:=c.drawn;have w:(sh a d x.w).drawn=d:=rfl;rw[w] at o i;have v:qU (sh a d x.w) (sh a d x.u) e (sh a e.drawn r):=⟨⟨k.un.size,k.un.at_,k.un.os,k.un.output⟩,k.keep⟩;refine⟨(n,q,e,sh a e.drawn r,l),fun m g=>?_,⟨c.hp,c.tape,c.drawn,c.size,c.os,c.output,c.evs⟩,⟨v,c.tape.symm⟩,c.ok,?_⟩
    ·have:=i m g;rw[show d+(e.drawn - d)=e.drawn by omega] at this;exact this
    ·apply TY;intro B;exact A ⟨n,q,e,sh a e.drawn r,c.ok,c.hp,v.un,B⟩ ⟨l,u⟩
 have f:od x.fr x.av:=TY fun f=>(t (fun _ _=>0) 0).1 (.inl f);exact x.no (.step (fun a d=>Tt (j a d)) (fun a d m g=>(Sp (j a d)).1 m g) (fun a d=>(Sp (j a d)).2.1) (fun a d=>(Sp (j a d)).2.2.1) (fun a d=>(Sp (j a d)).2.2.2.1) f fun a d=>(Sp (j a d)).2.2.2.2)
def least{p:Nat→Prop}:∀ (n:Nat),p n→∃ m,m≤n∧p m∧∀ i<m,¬ p i:=by
 intro n
 induction n using Nat.strongRecOn with
 |_ n g=>
  intro f;by_cases c:∃ i,i<n∧p i
  ·obtain⟨i,a,b⟩:=c;obtain⟨m,h,d,e⟩:=g i a b;exact⟨m,by omega,d,e⟩
  ·exact⟨n,R8 _,f,fun i a b=>c ⟨i,a,b⟩⟩
def yc{fr fr':Sn}{l b:List Sn}{w w':R3}(h:Stepped.next (VS (Se fr l) w)= .next (VS (Se fr' b) w')):fr=fr'∧l=b∧w=w':=by
 simp only[WJ,VS,Se,WM,Wl,Array.mk.injEq,UW] at h;obtain⟨c,a,-⟩:=h;simp at a;exact⟨a.1,a.2,c⟩
def step_end{fr:Sn}{l:List Sn}{w w':R3}{o:Outcome}{es:Array Ti}(h:SO P R7 (Se fr l) w= .ended o w' es):step P (VS (Se fr l) w)= .ended o w':=
 step_lone_ended (by simp only[Se] at h;rw[h];rfl)
def H8{fr:Sn}(h:G4 fr)(l:List Sn)(w:R3):∃ o w',step P (VS (Se fr l) w)= .ended o w':=by
 obtain⟨c,s,d⟩:=h;have:∃ o w' a,SO P R7 (Se fr l) w= .ended o w' a:=by simp[Se,SO,SJ,c,d]
 obtain⟨o,w',a,b⟩:=this;exact⟨o,w',step_end b⟩
theorem uv(h:Twins P P')(a8:∀ fr av w,Stop fr av w→¬ G4 fr){fr:Sn}{av:List Sn}{w u:R3}(ok:ed P fr av)(be:Hp (aR P) w)(bm:Un w u)
 (bb:∀ bo,∃ N fr' tops' w',runN P N (VS (Se fr (av ++ [aZ])) (sh bo 0 w))= .next (VS (Se fr' (tops' ++ [aZ])) w')∧Stop fr' tops' w'):Fin P P' (Cd Stop) fr av w u:=by
 apply TY;intro bd;obtain⟨l,O⟩:=Classical.axiomOfChoice (IC (Stop:=Stop) h);obtain⟨k,a7⟩:=Classical.axiomOfChoice O;obtain⟨s,bi⟩:=Classical.axiomOfChoice a7;let b:Nat→Node P P' Stop:=fun a=>Nat.rec ⟨fr,av,w,u,ok,be,bm,bd⟩ (fun _ K=>s K) a;let U:Node P P' Stop→Nat:=fun K=>(s K).w.drawn - k K;let D:Nat→Nat:=fun a=>Nat.rec 0 (fun a a2=>a2+U (b a)) a;let q:Nat→Prop:=fun a=>JW (b a) (l (b a)) (k (b a));have X:∀ a,D (a+1)=D a+U (b a):=fun a=>rfl;have br:∀ a,b (a+1)=s (b a):=fun a=>rfl;have ad:∀ a c,c<a→D (c+1)≤D a:=by
  intro a
  induction a with
  |zero=>intro c n;omega
  |succ a T=>
   intro c n;rcases TF c a with h|h
   ·have:=T c h;rw[X a];omega
   ·have:c=a:=by omega
    subst this;exact R8 _
 let V:Nat→Nat→Prop:=fun i a=>D a≤i∧(q a∨i<D (a+1));have t:∃ d:Tp,∀ a,(∀ c<a,¬ q c)→∀ i g,V i a→d i g=l (b a) (k (b a)+(i - D a)) g:=by
  have ba:∀ (i:Nat),∃ f:Question→Nat,∀ a,(∀ c<a,¬ q c)→V i a→∀ g,f g=l (b a) (k (b a)+(i - D a)) g:=by
   intro i;by_cases E:∃ a,(∀ c<a,¬ q c)∧V i a
   ·obtain⟨a,o,F⟩:=E;refine⟨fun g=>l (b a) (k (b a)+(i - D a)) g,fun A bc ae g=>?_⟩;have:a=A:=by
     rcases Nat.lt_trichotomy a A with z|R|z
     ·have O:=ad A a z;rcases F.2 with p|p
      ·exact absurd p (bc a z)
      ·have:=ae.1;omega
     ·exact R
     ·have O:=ad a A z;rcases ae.2 with p|p
      ·exact absurd p (o A z)
      ·have:=F.1;omega
    subst this;rfl
   ·exact⟨fun _=>0,fun a o F=>absurd ⟨a,o,F⟩ E⟩
  obtain⟨d,t⟩:=Classical.axiomOfChoice ba;exact⟨fun i g=>d i g,fun a o i g E=>t i a o E g⟩
 obtain⟨d,t⟩:=t;have ao:∀ a,(∀ c<a,¬ q c)→runN P a (VS (Se fr (av ++ [aZ])) (sh d 0 w))= .next (VS (Se (b a).fr ((b a).av ++ [aZ])) (sh d (D a) (b a).w)):=by
  intro a
  induction a with
  |zero=>intro _;rfl
  |succ a T=>
   intro o;have M:=T fun c n=>o c (by omega);rcases bi (b a) with p|⟨B,y⟩
   ·exact absurd p (o a (by omega))
   ·rcases y.twin with j|j
    ·exact absurd rfl j.1
    ·have C:Al (sh (l (b a)) (k (b a)) (b a).w).tape (sh (l (b a)) (k (b a)) (b a).w).drawn d (D a) ((s (b a)).w.drawn - (sh (l (b a)) (k (b a)) (b a).w).drawn):=by
      intro c g n;have:=t a (fun c n=>o c (by omega)) (D a+c) g ⟨by omega,.inr (by rw[X];exact Nat.add_lt_add_left n _)⟩;rw[this,Nat.add_sub_cancel_left];rfl
     have S:=BA j d (D a) C;have G:step P (VS (Se (b a).fr ((b a).av ++ [aZ])) (sh d (D a) (b a).w))= .next (VS (Se (s (b a)).fr ((s (b a)).av ++ [aZ])) (sh d (D a+U (b a)) (s (b a)).w)):=Conc.step_solo_go rfl S;rw[runN_add,M];simp only[runN,G];rfl
 obtain⟨N,fr',tops',w',e,Q⟩:=bb d;by_cases Y:∀ c<N,¬ q c
 ·have:=(ao N Y).symm.trans e;obtain⟨L,x,a4⟩:=yc this;have a5:=List.append_cancel_right x;rw[← L,← a5,← a4] at Q;exact(b N).no (.stop ⟨d,D N,Q⟩)
 ·have:∃ c,c<N∧q c:=TY fun j=>Y fun c n p=>j ⟨c,n,p⟩;obtain⟨c,n,bl⟩:=this;obtain⟨a,bs,ar,Z⟩:=least (p:=q) c bl;have M:=ao a Z;obtain⟨v,rfl⟩:∃ v,N=a+(v+1):=⟨N - a - 1,by omega⟩;rw[runN_add,M] at e;simp only[runN] at e;have C:∀ aw,Al (l (b a)) (k (b a)) d (D a) aw:=fun aw c g n=>by
   rw[t a Z (D a+c) g ⟨by omega,.inl ar⟩,Nat.add_sub_cancel_left]
  have al:=(b a).hp.sh d (D a);have am:¬ od (b a).fr (b a).av→False:=by
   intro r;have bj:(b a).av=[]:=TY fun j=>r fun m=>absurd m j;have a0:=(b a).ok;rw[bj] at r a0 e;rcases Rq h al a0 r with⟨H,I,B,m⟩|⟨a3,I,B,m⟩
   ·rw[show([]:List Sn) ++ [aZ]=[aZ] from rfl,step_end m] at e;cases e
   ·rw[show([]:List Sn) ++ [aZ]=[aZ] from rfl,Conc.step_solo_go rfl m] at e;dsimp only at e;cases v with
    |zero=>
     obtain⟨-,x,-⟩:=yc e;simp at x
    |succ v=>
     obtain⟨H,J,W,x⟩:=BL (P:=P) a3 I;simp only[runN,step_end x] at e;cases e
  rcases ar with r|R|⟨a6,a1,J,W,y,ab⟩
  ·exact am r
  ·by_cases r:od (b a).fr (b a).av
   ·rcases xU h.self.A h.self.R al (b a).ok r with a9|⟨a6,a1,J,W,y⟩
    ·obtain⟨H,I,B,m⟩:=a9 R7 [aZ];rw[step_end m] at e;cases e
    ·rcases y.twin with j|j
     ·exact absurd rfl j.1
     ·obtain⟨H,I,B,m⟩:=R R7 [aZ];have:=BA j (l (b a)) (k (b a)) (fun c g n=>((C _) c g n).symm);rw[show sh (l (b a)) (k (b a)) (sh d (D a) (b a).w)=sh (l (b a)) (k (b a)) (b a).w from rfl,m] at this;cases this
   ·exact am r
  ·rcases y.twin with j|j
   ·exact absurd rfl j.1
   ·have S:=BA j d (D a) (C _);have G:=Conc.step_solo_go (P:=P) (a:=Se (b a).fr ((b a).av ++ [aZ])) rfl S;rw[show sh d (D a) (sh (l (b a)) (k (b a)) (b a).w)=sh d (D a) (b a).w from rfl] at G;rw[G] at e;dsimp only at e;cases v with
    |zero=>
     obtain⟨L,-,-⟩:=yc e;exact a8 _ _ _ Q (L▸ab)
    |succ v=>
     obtain⟨H,bt,m⟩:=H8 (P:=P) ab (a1 ++ [aZ]) (sh d (D a+(J.drawn - (sh (l (b a)) (k (b a)) (b a).w).drawn)) J);simp only[runN,m] at e;cases e
end
end Cc
namespace Cc
open Go Go.Conc
def blk:Loc→Nat
 | .cell a=>a.block
 | .obj b=>b
 |_=>0
structure va where
 c:Nat
 own:Nat→Prop
 pc:Option Nat
def ME (S:Nat→Prop)(x:va)(a:Touch):Prop:=x.own (blk a.loc)∨blk a.loc=x.c∨(S (blk a.loc)∧a.write=R6)
structure sL(S:Nat→Prop)(wk:Nat→Option va)(B:Nat)(t:Trace):Prop where
 wl:Wordless t
 clean:∀ said,¬ Race said t
 low:∀ i a,touchAt t i=RX a→a.loc.isMemory=R7→blk a.loc<B
 known:∀ i a,touchAt t i=RX a→a.loc.isMemory=R7→Knows t 0 i∨∃ k x,wk k=RX x∧t.g? i=RX k∧ME S x a∧∀ p,x.pc=RX p→Before t i p
 wr:∀ k x,wk k=RX x→x.pc=RZ→∀ i a,touchAt t i=RX a→a.loc.isMemory=R7→a.write=R7→S (blk a.loc)→Knows t k i
 ow:∀ k x,wk k=RX x→x.pc=RZ→∀ i a,touchAt t i=RX a→a.loc.isMemory=R7→(x.own (blk a.loc)∨blk a.loc=x.c)→Knows t k i
 shut:∀ k x p,wk k=RX x→x.pc=RX p→t.act? p=RX (.close x.c)
section
variable {S:Nat→Prop}{wk:Nat→Option va}{B B':Nat}{t u:Trace}
def wS{i k:Nat}(h:t.g? i=RX k):(t ++ u).g? i=RX k:=by
 unfold Trace.g? at h ⊢;obtain⟨c,a,b⟩:=Uh.1 h;rw[getElem?_append_old (lt_size_of_getElem? a),a];simpa using b
def cg{i:Nat}{a:Touch}(h:touchAt (t ++ u) i=RX a):touchAt t i=RX a∨∃ b,b∈u∧(t ++ u)[i]? =RX b∧b.act.touch?= RX a:=by
 obtain⟨g,c,d⟩:=touch_of h;rcases getElem?_append_cases c with⟨_,e⟩|⟨_,f⟩
 ·exact .inl (by rw[touchAt_of e];exact d)
 ·exact .inr ⟨g,f,c,d⟩
theorem sL.mute(h:sL S wk B t){γ:Nat}(y:∀ j∈u,j.g=γ)(z:Wordless u)(p:∀ j∈u,j.act.touch?= RZ)(s:B≤B'):sL S wk B' (t ++ u):=by
 have m:∀ {b a},touchAt (t ++ u) b=RX a→touchAt t b=RX a:=fun c=>by
  rcases cg c with g|⟨j,g,_,l⟩
  ·exact g
  ·rw[p j g] at l;cases l
 refine⟨h.wl.append z,fun C=>noRace_append (h.clean C) y fun b a _ j w D o _=>(by rw[p j w] at o;cases o),fun b a c i=>Sa (h.low b a (m c) i) s,fun b a c i=>?_,fun e f k d b a c i A x=>(h.wr e f k d b a (m c) i A x).app u,fun e f k d b a c i v=>(h.ow e f k d b a (m c) i v).app u,fun e f n k d=>by rw[act?_old (lt_of_act? (h.shut e f n k d))];exact h.shut e f n k d⟩;rcases h.known b a (m c) i with g|⟨e,f,g,l,q,r⟩
 ·exact .inl (g.app u)
 ·exact .inr ⟨e,f,g,wS l,q,fun n d=>(r n d).app u⟩
theorem sL.main(h:sL S wk B t)(w:∀ d∈u,d.g=0)(G:Wordless u)(A:B≤B')
 (o:∀ d∈u,∀ b,d.act.touch?= RX b→b.loc.isMemory=R7→blk b.loc<B'∧(∀ k x,wk k=RX x→¬ x.own (blk b.loc)∧blk b.loc≠x.c)∧(S (blk b.loc)→b.write=R6)):sL S wk B' (t ++ u):=by
 refine⟨h.wl.append G,fun H=>noRace_append (h.clean H) w fun j e i d E b C D=>?_,fun j e i c=>?_,fun j e i c=>?_,fun k x g l j e i c s v=>?_,fun k x g l j e i c n=>?_,fun k x q g l=>by rw[act?_old (lt_of_act? (h.shut k x q g l))];exact h.shut k x q g l⟩
 ·obtain⟨p,c,y,_⟩:=D;obtain⟨_,f,r⟩:=o d E b C (p▸c);rcases h.known j e i c with a|⟨k,x,g,_,F,_⟩
  ·exact a
  ·rcases F with m|m|⟨m,z⟩
   ·exact absurd (p▸m) (f k x g).1
   ·exact absurd (p▸m) (f k x g).2
   ·have:=r (p▸m);rw[z,this] at y;simp at y
 ·rcases cg i with a|⟨d,a,_,f⟩
  ·exact Sa (h.low j e a c) A
  ·exact(o d a e f c).1
 ·rcases cg i with a|⟨d,a,f,_⟩
  ·rcases h.known j e a c with a|⟨k,x,a,f,r,m⟩
   ·exact .inl (a.app u)
   ·exact .inr ⟨k,x,a,wS f,r,fun q l=>(m q l).app u⟩
  ·have:=knows_own f;rw[w d a] at this;exact .inl this
 ·rcases cg i with a|⟨d,a,_,f⟩
  ·exact(h.wr k x g l j e a c s v).app u
  ·rw[(o d a e f c).2.2 v] at s;cases s
 ·rcases cg i with a|⟨d,a,_,f⟩
  ·exact(h.ow k x g l j e a c n).app u
  ·rcases n with n|n
   ·exact absurd n ((o d a e f c).2.1 k x g).1
   ·exact absurd n ((o d a e f c).2.1 k x g).2
theorem sL.PZ(h:sL S wk B t){k:Nat}{x:va}(r:wk k=RX x)(s:x.pc=RZ){own':Nat→Prop}(V:∀ b,x.own b→own' b)(J:∀ b,own' b→x.own b∨B≤b)(F:∀ l∈u,l.g=k)(W:Wordless u)(N:B≤B')
 (O:∀ b,own' b→¬ S b) (P:¬ S x.c)
 (T:∀ j y,j≠k→wk j=RX y→(∀ b,own' b→¬ y.own b∧b≠y.c)∧¬ y.own x.c∧x.c≠y.c∧(∀ b,S b→¬ y.own b∧b≠y.c))
 (z:∀ l∈u,∀ b,l.act.touch?= RX b→b.loc.isMemory=R7→blk b.loc<B'∧ME S ⟨x.c,own',RZ⟩ b):sL S (fun j=>if j=k then RX ⟨x.c,own',RZ⟩ else wk j) B' (t ++ u):=by
 have G:∀ {j y},(if j=k then RX (⟨x.c,own',RZ⟩:va) else wk j)=RX y→(j=k∧y=⟨x.c,own',RZ⟩)∨(j≠k∧wk j=RX y):=fun {j y} D=>by
  split at D
  ·rename_i g;cases D;exact .inl ⟨g,rfl⟩
  ·rename_i g;exact .inr ⟨g,D⟩
 refine⟨h.wl.append W,fun X=>noRace_append (h.clean X) F fun i f m l U b Q R=>?_,fun i f m d=>?_,fun i f m d=>?_,fun j y g n i f m d C A=>?_,fun j y g n i f m d e=>?_,fun j y v g n=>?_⟩
 ·obtain⟨w,d,K,_⟩:=R;rcases(z l U b Q (w▸d)).2 with c|c|⟨c,p⟩
  ·rcases J _ c with p|p
   ·exact h.ow k x r s i f m d (.inl (w▸p))
   ·have:=h.low i f m d;rw[w] at this;omega
  ·exact h.ow k x r s i f m d (.inr (w▸c))
  ·rw[p] at K;exact h.wr k x r s i f m d (by simpa using K) (w▸c)
 ·rcases cg m with a|⟨l,a,_,o⟩
  ·exact Sa (h.low i f a d) N
  ·exact(z l a f o d).1
 ·rcases cg m with a|⟨l,a,o,q⟩
  ·rcases h.known i f a d with a|⟨j,y,a,o,q,c⟩
   ·exact .inl (a.app u)
   ·by_cases g:j=k
    ·subst g;rw[r] at a;cases a;refine .inr ⟨j,⟨x.c,own',RZ⟩,by simp,wS o,?_,fun v n=>by cases n⟩;exact q.imp (V _) id
    ·exact .inr ⟨j,y,by simp[g,a],wS o,q,fun v n=>(c v n).app u⟩
  ·refine .inr ⟨k,⟨x.c,own',RZ⟩,by simp,?_,(z l a f q d).2,fun v n=>by cases n⟩;simp[Trace.g?,o,F l a]
 ·rcases cg m with a|⟨l,a,_,o⟩
  ·rcases G g with⟨rfl,rfl⟩|⟨E,g⟩
   ·exact(h.wr j x r s i f a d C A).app u
   ·exact(h.wr j y g n i f a d C A).app u
  ·rcases(z l a f o d).2 with c|c|⟨c,p⟩
   ·exact absurd A (O _ c)
   ·exact absurd A (c▸P)
   ·rw[p] at C;cases C
 ·rcases G g with⟨rfl,rfl⟩|⟨E,g⟩
  ·rcases cg m with a|⟨l,a,o,q⟩
   ·refine Knows.app u ?_;rcases e with e|e
    ·rcases J _ e with p|p
     ·exact h.ow j x r s i f a d (.inl p)
     ·have:=h.low i f a d;omega
    ·exact h.ow j x r s i f a d (.inr e)
   ·have:=knows_own o;rw[F l a] at this;exact this
  ·obtain⟨H,L,M,I⟩:=T j y E g;rcases cg m with a|⟨l,a,o,q⟩
   ·exact(h.ow j y g n i f a d e).app u
   ·rcases(z l a f q d).2 with c|c|⟨c,p⟩
    ·rcases e with e|e
     ·exact absurd e (H _ c).1
     ·exact absurd e (H _ c).2
    ·rcases e with e|e
     ·exact absurd (c▸e) L
     ·exact absurd (c.symm.trans e) M
    ·rcases e with e|e
     ·exact absurd e (I _ c).1
     ·exact absurd e (I _ c).2
 ·rcases G g with⟨rfl,rfl⟩|⟨E,g⟩
  ·cases n
  ·rw[act?_old (lt_of_act? (h.shut j y v g n))];exact h.shut j y v g n
theorem sL.close(h:sL S wk B t){k:Nat}{x:va}(H:wk k=RX x)(T:x.pc=RZ)(P:x.c<B)(X:¬ S x.c)(fn:T1)(pos:String)
 (Q:∀ j y,j≠k→wk j=RX y→¬ y.own x.c∧x.c≠y.c):
 sL S (fun j=>if j=k then RX ⟨x.c,x.own,RX (t.size+1)⟩ else wk j) B (t ++ Vu k fn pos #[⟨.obj x.c,R6,R7⟩,⟨.obj x.c,R7,R7⟩]):=by
 have M:Vu k fn pos #[⟨.obj x.c,R6,R7⟩,⟨.obj x.c,R7,R7⟩]=#[{g:=k,fn,pos,act:=.access ⟨.obj x.c,R6,R7⟩},{g:=k,fn,pos,act:=.close x.c}]:=by
  rw[ofEvents_eq];simp[Ut]
 rw[M];have I:∀ d∈ #[({g:=k,fn,pos,act:=.access ⟨.obj x.c,R6,R7⟩}:V6),{g:=k,fn,pos,act:=.close x.c}],d.g=k:=by
  intro d o;simp at o;rcases o with rfl|rfl<;>rfl
 have w:∀ d∈ #[({g:=k,fn,pos,act:=.access ⟨.obj x.c,R6,R7⟩}:V6),{g:=k,fn,pos,act:=.close x.c}],∀ r,d.act.touch?= RX r→r=⟨.obj x.c,R6,.atomic⟩:=by
  intro d o r v;simp at o;rcases o with rfl|rfl
  ·simp[VG] at v;exact v.symm
  ·simp[VG] at v
 have A:(t ++ #[({g:=k,fn,pos,act:=.access ⟨.obj x.c,R6,R7⟩}:V6),{g:=k,fn,pos,act:=.close x.c}])[t.size+1]? =RX {g:=k,fn,pos,act:=.close x.c}:=by
  rw[Array.getElem?_append_right (by omega)];simp
 have E:∀ b,(t ++ #[({g:=k,fn,pos,act:=.access ⟨.obj x.c,R6,R7⟩}:V6),{g:=k,fn,pos,act:=.close x.c}]).g? b=RX k→b≠t.size+1→Before (t ++ #[({g:=k,fn,pos,act:=.access ⟨.obj x.c,R6,R7⟩}:V6),{g:=k,fn,pos,act:=.close x.c}]) b (t.size+1):=by
  intro b G z;unfold Trace.g? at G;obtain⟨d,n,s⟩:=Uh.1 G;have:=lt_size_of_getElem? n;simp at this;exact .inr (hb_po (by omega) n A s)
 have D:∀ {j y},(if j=k then RX (⟨x.c,x.own,RX (t.size+1)⟩:va) else wk j)=RX y→(j=k∧y=⟨x.c,x.own,RX (t.size+1)⟩)∨(j≠k∧wk j=RX y):=fun {j y} s=>by
  split at s
  ·rename_i c;cases s;exact .inl ⟨c,rfl⟩
  ·rename_i c;exact .inr ⟨c,s⟩
 have V:Wordless #[({g:=k,fn,pos,act:=.access ⟨.obj x.c,R6,R7⟩}:V6),{g:=k,fn,pos,act:=.close x.c}]:=by
  intro d o m i;simp at o;rcases o with rfl|rfl<;>cases i
 have J:∀ {b e},touchAt (t ++ #[({g:=k,fn,pos,act:=.access ⟨.obj x.c,R6,R7⟩}:V6),{g:=k,fn,pos,act:=.close x.c}]) b=RX e→b≠t.size+1:=by
  rintro b e g rfl;rw[touchAt_of A] at g;simp[VG] at g
 refine⟨h.wl.append V,fun W=>noRace_append (h.clean W) I fun b e g d o r v O=>?_,fun b e g i=>?_,fun b e g i=>?_,fun j y c f b e g i C U=>?_,fun j y c f b e g i n=>?_,fun j y q c f=>?_⟩
 ·obtain⟨R,i,_⟩:=O;have:=w d o r v;subst this;exact h.ow k x H T b e g i (.inr (by rw[R];rfl))
 ·rcases cg g with a|⟨d,a,_,l⟩
  ·exact h.low b e a i
  ·rw[w d a e l];exact P
 ·rcases cg g with a|⟨d,a,l,p⟩
  ·rcases h.known b e a i with a|⟨j,y,a,l,p,N⟩
   ·exact .inl (a.app _)
   ·by_cases c:j=k
    ·subst c;rw[H] at a;cases a;exact .inr ⟨j,⟨x.c,x.own,RX (t.size+1)⟩,by simp,wS l,p,fun q f=>by cases f;exact E b (wS l) (J g)⟩
    ·exact .inr ⟨j,y,by simp[c,a],wS l,p,fun q f=>(N q f).app _⟩
  ·have F:(t ++ #[({g:=k,fn,pos,act:=.access ⟨.obj x.c,R6,R7⟩}:V6),{g:=k,fn,pos,act:=.close x.c}]).g? b=RX k:=by simp only[Trace.g?,l,TU,I d a]
   refine .inr ⟨k,⟨x.c,x.own,RX (t.size+1)⟩,by simp,F,.inr (.inl (by rw[w d a e p];rfl)),fun q f=>by cases f;exact E b F (J g)⟩
 ·rcases D c with⟨rfl,rfl⟩|⟨z,c⟩
  ·cases f
  ·rcases cg g with a|⟨d,a,_,l⟩
   ·exact(h.wr j y c f b e a i C U).app _
   ·rw[w d a e l] at C;cases C
 ·rcases D c with⟨rfl,rfl⟩|⟨z,c⟩
  ·cases f
  ·obtain⟨K,L⟩:=Q j y z c;rcases cg g with a|⟨d,a,l,p⟩
   ·exact(h.ow j y c f b e a i n).app _
   ·rw[w d a e p] at n;rcases n with n|n
    ·exact absurd n K
    ·exact absurd n L
 ·rcases D c with⟨rfl,rfl⟩|⟨z,c⟩
  ·cases f;rw[act?_of A]
  ·rw[act?_old (lt_of_act? (h.shut j y q c f))];exact h.shut j y q c f
theorem sL.KY(h:sL S wk B t){k p:Nat}{x:va}(r:wk k=RX x)(s:x.pc=RX p)(fn:T1)(pos:String):
 sL S (fun j=>if j=k then RZ else wk j) B (t ++ #[{g:=0,fn,pos,act:=.recvClosed x.c}]):=by
 have D:Wordless #[({g:=0,fn,pos,act:=.recvClosed x.c}:V6)]:=by
  intro f d m l;simp at d;subst d;cases l
 have A:∀ f∈ #[({g:=0,fn,pos,act:=.recvClosed x.c}:V6)],f.act.touch?= RZ:=by
  intro f d;simp at d;subst d;rfl
 have c:=h.mute (B':=B) (γ:=0) (fun f d=>by simp at d;subst d;rfl) D A (R8 _);have i:(t ++ #[({g:=0,fn,pos,act:=.recvClosed x.c}:V6)])[t.size]? =RX {g:=0,fn,pos,act:=.recvClosed x.c}:=by
  rw[Array.getElem?_append_right (R8 _)];simp
 have q:=c.shut k x p r s;obtain⟨H,E,_⟩:=Uh.1 q;have C:Knows (t ++ #[({g:=0,fn,pos,act:=.recvClosed x.c}:V6)]) 0 p:=⟨t.size,_,i,rfl,.inr (.single (.inr ⟨.closed q (by rw[act?_of i]),c.wl.heard E,c.wl.heard i⟩))⟩;have n:∀ {j a},(if j=k then RZ else wk j)=RX a→j≠k∧wk j=RX a:=fun {j a} g=>by
  split at g
  ·cases g
  ·rename_i b;exact⟨b,g⟩
 refine⟨c.wl,c.clean,c.low,fun F v z l=>?_,fun j a b=>c.wr j a (n b).2,fun j a b=>c.ow j a (n b).2,fun j a G b=>c.shut j a G (n b).2⟩;rcases c.known F v z l with e|⟨j,a,e,w,y,o⟩
 ·exact .inl e
 ·by_cases b:j=k
  ·subst b;rw[r] at e;cases e;exact .inl (Knows.of_before (o p s) C)
  ·exact .inr ⟨j,a,by simp[b,e],w,y,o⟩
theorem sL.spawn(h:sL S wk B t){k c:Nat}(P:wk k=RZ)(fn n:T1)(pos:String)
 (C:∀ j y,wk j=RX y→¬ y.own c∧c≠y.c∧∀ b,S b→¬ y.own b∧b≠y.c) (N:¬ S c):
 sL S (fun j=>if j=k then RX ⟨c,fun _=>False,RZ⟩ else wk j) B (t ++ #[{g:=0,fn,pos,act:=.go k},{g:=k,fn:=n,pos,act:=.start}]):=by
 have M:t ++ #[({g:=0,fn,pos,act:=.go k}:V6),{g:=k,fn:=n,pos,act:=.start}]=t ++ #[({g:=0,fn,pos,act:=.go k}:V6)] ++ #[({g:=k,fn:=n,pos,act:=.start}:V6)]:=by apply Array.ext';simp
 have Q:Wordless #[({g:=0,fn,pos,act:=.go k}:V6)]:=by
  intro v d m l;simp at d;subst d;cases l
 have R:Wordless #[({g:=k,fn:=n,pos,act:=.start}:V6)]:=by
  intro v d m l;simp at d;subst d;cases l
 have r:sL S wk B (t ++ #[({g:=0,fn,pos,act:=.go k}:V6),{g:=k,fn:=n,pos,act:=.start}]):=by
  rw[M];refine(h.mute (B':=B) (γ:=0) (fun v d=>by simp at d;subst d;rfl) Q (fun v d=>by simp at d;subst d;rfl) (R8 _)).mute (γ:=k) (fun v d=>by simp at d;subst d;rfl) R (fun v d=>by simp at d;subst d;rfl) (R8 _)
 have a:(t ++ #[({g:=0,fn,pos,act:=.go k}:V6),{g:=k,fn:=n,pos,act:=.start}])[t.size]? =RX {g:=0,fn,pos,act:=.go k}:=by
  rw[Array.getElem?_append_right (R8 _)];simp
 have p:(t ++ #[({g:=0,fn,pos,act:=.go k}:V6),{g:=k,fn:=n,pos,act:=.start}])[t.size+1]? =RX {g:=k,fn:=n,pos,act:=.start}:=by
  rw[Array.getElem?_append_right (by omega)];simp
 have J:∀ {g},Knows t 0 g→Knows (t ++ #[({g:=0,fn,pos,act:=.go k}:V6),{g:=k,fn:=n,pos,act:=.start}]) k g:=fun {g} O=>
  ⟨t.size+1,_,p,rfl,.inr ((O.hb_new (R8 _) a rfl).trans (.single (.inr ⟨.spawn (by rw[act?_of a]) (by rw[act?_of p]) (by simp[Trace.g?]),r.wl.heard a,r.wl.heard p⟩)))⟩
 have I:∀ {g i},touchAt (t ++ #[({g:=0,fn,pos,act:=.go k}:V6),{g:=k,fn:=n,pos,act:=.start}]) g=RX i→touchAt t g=RX i:=fun q=>by
  rcases cg q with a|⟨v,a,_,p⟩
  ·exact a
  ·simp at a;rcases a with rfl|rfl<;>simp[VG] at p
 have F:∀ {j y},(if j=k then RX (⟨c,fun _=>False,RZ⟩:va) else wk j)=RX y→(j=k∧y=⟨c,fun _=>False,RZ⟩)∨(j≠k∧wk j=RX y):=fun {j y} w=>by
  split at w
  ·rename_i f;cases w;exact .inl ⟨f,rfl⟩
  ·rename_i f;exact .inr ⟨f,w⟩
 refine⟨r.wl,r.clean,r.low,fun g i q l=>?_,fun j y f s g i q l E D=>?_,fun j y f s g i q l o=>?_,fun j y T f s=>?_⟩
 ·rcases r.known g i q l with a|⟨j,y,a,p,e,A⟩
  ·exact .inl a
  ·refine .inr ⟨j,y,?_,p,e,A⟩;rw[if_neg (fun w=>by rw[w,P] at a;cases a)];exact a
 ·rcases F f with⟨rfl,rfl⟩|⟨H,f⟩
  ·refine J ?_;rcases h.known g i (I q) l with a|⟨x,z,a,p,e,A⟩
   ·exact a
   ·rcases e with e|e|⟨e,G⟩
    ·exact absurd e ((C x z a).2.2 _ D).1
    ·exact absurd e ((C x z a).2.2 _ D).2
    ·rw[G] at E;cases E
  ·exact r.wr j y f s g i q l E D
 ·rcases F f with⟨rfl,rfl⟩|⟨H,f⟩
  ·refine J ?_;rcases o with o|o
   ·exact o.elim
   ·have o:blk i.loc=c:=o;rcases h.known g i (I q) l with a|⟨x,z,a,p,e,A⟩
    ·exact a
    ·obtain⟨K,L,U⟩:=C x z a;rcases e with e|e|⟨e,G⟩
     ·exact absurd (o▸e) K
     ·exact absurd (o.symm.trans e) L
     ·exact absurd (o▸e) N
  ·exact r.ow j y f s g i q l o
 ·rcases F f with⟨rfl,rfl⟩|⟨H,f⟩
  ·cases s
  ·exact r.shut j y T f s
def sL.over(h:sL S (fun _=>RZ) B t):t.HandedOver:=by
 intro k n d i e;obtain⟨m,j,g,_⟩:=e;rcases h.known k m j g with⟨l,q,b,c,a⟩|⟨o,p,f,_⟩
 ·refine⟨l,by simp[Trace.g?,b,c],?_⟩;rcases a with rfl|a
  ·simp[Trace.g?,b] at d;exact absurd (d.symm.trans c) i
  ·exact a
 ·cases f
end
def Mc (t:List R3→Prop)(w:R3):List R3→Prop:=fun a=>t (w :: a)
def Q9 (s t:List R3→Prop):Prop:=t []∧∃ a,s=Mc t a
structure Tr where RB ::
 t:List R3→Prop
 a:Acc Q9 t
 c:∀ p q,t (p ++ q)→t p
def Tr.ext{x y:Tr}(h:x.t=y.t):x=y:=by
 cases x;cases y;cases h;rfl
def Tr.fin:Tr:=⟨fun _=>False,⟨_,fun _ a=>a.1.elim⟩,fun _ _ a=>a⟩
def Tr.mk(f:R3→Tr):Tr:=⟨fun a=>match a with
 | []=>True
 |w :: a=>(f w).t a,⟨_,fun s b=>by obtain⟨_,w,rfl⟩:=b;exact(f w).a⟩,fun a d b=>by
 cases a with
 |nil=>trivial
 |cons w a=>exact(f w).c a d b⟩
def Tr.mk_inj{f g:R3→Tr}(h:Tr.mk f= .mk g):f=g:=funext fun b=>Tr.ext (funext fun a=>congrFun (congrArg Tr.t h) (b :: a))
def Tr.O4{f:R3→Tr}(h:Tr.fin= .mk f):False:=(congrFun (congrArg Tr.t h) []).mpr trivial
theorem Tr.ind{d:Tr→Prop}(fin:d .fin)(mk:∀ f,(∀ w,d (f w))→d (.mk f))(i:Tr):d i:=by
 obtain⟨b,a,c⟩:=i
 induction a with
 |intro b h j=>
  by_cases g:b []
  ·have e:Tr.RB b (.intro b h) c= .mk fun w=>⟨Mc b w,h _ ⟨g,w,rfl⟩,fun p k=>c (w :: p) k⟩:=Tr.ext (funext fun p=>by
    cases p with
    |nil=>exact eq_true g
    |cons w p=>rfl)
   rw[e];exact mk _ fun w=>j _ ⟨g,w,rfl⟩ _
  ·have e:Tr.RB b (.intro b h) c= .fin:=Tr.ext (funext fun p=>eq_false fun h=>g (c [] p h));rw[e];exact fin
def Tr.go{C:Type}(b:(R3→C→Prop)→C→Prop)(d:Tr):C→Prop:=WN (r:=Q9) (C:=fun _=>C→Prop) (fun a f h=>∃ g:a [],b (fun e=>f (Mc a e) ⟨g,e,rfl⟩) h) d.t d.a
def Tr.go_eq{C:Type}{b:(R3→C→Prop)→C→Prop}(a:Tr)(x:C):Tr.go b a x↔∃ h:a.t [],b (fun w=>Tr.go b ⟨Mc a.t w,a.a.inv ⟨h,w,rfl⟩,fun p q=>a.c (w :: p) q⟩) x:=Iff.of_eq (congrFun (WH (r:=Q9) (C:=fun _=>C→Prop) (fun t d x=>∃ h:t [],b (fun w=>d (Mc t w) ⟨h,w,rfl⟩) x) a.t a.a) x:)
def Tr.oS{C:Type}{b:(R3→C→Prop)→C→Prop}{x:C}(h:Tr.go b .fin x):False:=by
 obtain⟨h,_⟩:=(Tr.go_eq _ _).1 h;exact h
def Tr.OD{C:Type}{b:(R3→C→Prop)→C→Prop}{f:R3→Tr}{x:C}:Tr.go b (.mk f) x↔b (fun w=>Tr.go b (f w)) x:=(Tr.go_eq _ _).trans ⟨fun⟨_,a⟩=>a,fun a=>⟨trivial,a⟩⟩
def vW (_:Sd)(_:R3):Prop:=True
structure RelB(B:Nat→Prop)(w w1:R3):Prop where
 at_:∀ b:Nat,B b→w1.heap[b]? =w.heap[b]?
 size:w.heap.size≤w1.heap.size
 tape:w1.tape=w.tape
 os:w1.os=w.os
 output:w1.output=w.output
def RelB.refl(B:Nat→Prop)(w:R3):RelB B w w:=⟨fun _ _=>rfl,R8 _,rfl,rfl,rfl⟩
def RelB.trans{B:Nat→Prop}{w e f:R3}(h:RelB B w e)(a:RelB B e f):RelB B w f:=⟨fun b d=>(a.at_ b d).trans (h.at_ b d),Ss h.size a.size,a.tape.trans h.tape,a.os.trans h.os,a.output.trans h.output⟩
def RelB.at(B:Nat→Prop)(w:R3)(d:Nat):RelB B w (w.at d):=⟨fun _ _=>rfl,R8 _,rfl,rfl,rfl⟩
def cw (own:Nat→Prop)(w w':R3):Nat→Prop:=fun a=>own a∨(w.heap.size≤a∧a<w'.heap.size)
def EvW (S o:Nat→Prop)(e:Ti):Prop:=match e.loc with
 | .cell a=>o a.block∨(S a.block∧e.write=R6)
 | .obj b=>o b∨(S b∧e.write=R6)
 | .mark m=>Neutral m
 |_=>True
structure lG(P0:Sd)(S own:Nat→Prop)(w w':R3)(es:Array Ti):Prop where
 keep:∀ b:Nat,b<w.heap.size→¬ own b→w'.heap[b]? =w.heap[b]?
 size:w.heap.size≤w'.heap.size
 tape:w'.tape=w.tape
 os:w'.os=w.os
 output:w'.output=w.output
 hp:vW P0 w→vW P0 w'
 evs:∀ e∈es,EvW S (cw own w w') e
structure JU(P0:Sd)(w w':R3)(es:Array Ti):Prop where
 size:w.heap.size≤w'.heap.size
 tape:w'.tape=w.tape
 os:w'.os=w.os
 output:w'.output=w.output
 hp:vW P0 w→vW P0 w'
 evs:∀ e∈es,B0 w'.heap.size e
def Rx (P0 P:Sd)(S:Nat→Prop)(c:Nat)(R:R3→(Nat→Prop)→List R2→SM→R3→Prop)(own:Nat→Prop)(vs:List R2)(g:SM)(w:R3):Prop:=g.status= .running∧
 ((∀ a,RelB (fun b=>S b∨own b) w a→∃ d e i,SO P R6 g a= .go d e i∧lG P0 S own a e i∧R a (cw own a e) vs d e)∨
 (∃ v k j o,vs=v :: k∧∀ a,RelB (fun b=>S b∨own b) w a→SO P R6 g a= .comm j #[scase c v o] R7 .send a #[]∧R a own k (Ub j Tq) a)∨
 (vs=[]∧∃ d n,QuitsIn P n d∧mayWake P g=R7∧∀ a,RelB (fun b=>S b∨own b) w a→∀ h f s l m,a.heap[c]? =RX (.chan h f R6 s l m)→SO P R6 g a= .go d (a.setChan c h f R7 s l m) #[⟨.obj c,R6,R7⟩,⟨.obj c,R7,R7⟩]))
def Wk (P0 P:Sd)(S:Nat→Prop)(c:Nat)(e:Tr)(own:Nat→Prop)(vs:List R2)(g:SM)(w:R3):Prop:=e.go (C:=(Nat→Prop)×List R2×SM×R3) (fun b a=>Rx P0 P S c (fun w d v g f=>b w (d,v,g,f)) a.1 a.2.1 a.2.2.1 a.2.2.2) (own,vs,g,w)
def uX{P0 P:Sd}{S:Nat→Prop}{c:Nat}{f:R3→Tr}{own:Nat→Prop}{vs:List R2}{g:SM}{w:R3}:Wk P0 P S c (.mk f) own vs g w↔Rx P0 P S c (fun w=>Wk P0 P S c (f w)) own vs g w:=Tr.OD
abbrev Md:Type:=Option ((Nat→Prop)×(Nat→Prop)×(Nat→Option (List R2)))
abbrev Md.ex:Md:=RZ
abbrev Md.sh(S a:Nat→Prop)(b:Nat→Option (List R2)):Md:=RX (S,a,b)
def fp (b:Nat→Option (List R2))(c:Nat)(l:Option (List R2)):Nat→Option (List R2):=fun a=>if a=c then l else b a
def Rw (P0 P:Sd)(Post:R2→R3→Prop)(R:R3→Md→SM→R3→Prop):Md→SM→R3→Prop
 |none,e,g=>
  (∀ a,AtRel g a→∃ f i h,SO P R7 e a= .go f i h∧f.status= .running∧JU P0 a i h∧R a Md.ex f i)∨
  (∀ a,AtRel g a→∃ v h,SO P R7 e a= .ended (.done v) a h∧(∀ p∈h,B0 a.heap.size p)∧Post v a)∨
  (∃ S d,(∀ b,S b→b<g.heap.size∧¬ d b)∧(∀ b,d b→b<g.heap.size)∧∀ a,AtRel g a→R a (Md.sh S d (fun _=>RZ)) e a)
 |some (S,d,j),e,g=>
  (∀ a,RelB (fun b=>S b∨d b) g a→∃ f i h,SO P R7 e a= .go f i h∧f.status= .running∧lG P0 S d a i h∧R a (Md.sh S (cw d a i) j) f i)∨
  (∃ c l m,d c∧l.length≤m∧j c=RZ∧g.heap[c]? =RX (.chan m #[] R6 0 0 R6)∧∀ a,RelB (fun b=>S b∨d b) g a→∃ f n r,SO P R7 e a= .spawn f n a #[]∧f.status= .running∧Wk P0 P S c r (fun _=>False) l n a∧R a (Md.sh S (fun b=>d b∧b≠c) (fp j c (RX l))) f a)∨
  (∃ c o k l,j c=RX l∧(k.frame=e.frame∧k.callers=e.callers∧k.dying=e.dying)∧∀ a,RelB (fun b=>S b∨d b) g a→SO P R7 e a= .comm k #[rcase c o] R7 (.recv R7) a #[]∧
    match l with
    |v :: q=>R a (Md.sh S d (fp j c (RX q))) (Ub k (recvd R7 v R7)) a
    | []=>R a (Md.sh S d (fp j c RZ)) (Ub k (recvd R7 o R6)) a)∨
  ((∀ c,j c=RZ)∧∀ a,RelB (fun b=>S b∨d b) g a→vW P0 a→R a Md.ex e a)
def Mn (P0 P:Sd)(Post:R2→R3→Prop)(e:Tr)(d:Md)(g:SM)(w:R3):Prop:=e.go (C:=Md×SM×R3) (fun b a=>Rw P0 P Post (fun w m g f=>b w (m,g,f)) a.1 a.2.1 a.2.2) (d,g,w)
def mJ{P0 P:Sd}{Post:R2→R3→Prop}{f:R3→Tr}{a:Md}{g:SM}{w:R3}:Mn P0 P Post (.mk f) a g w↔Rw P0 P Post (fun w=>Mn P0 P Post (f w)) a g w:=Tr.OD
section
variable {P0 P:Sd}{S:Nat→Prop}{c:Nat}{Post:R2→R3→Prop}
theorem Wk.rely{j:Tr}{own:Nat→Prop}{vs:List R2}{g:SM}{w k:R3}(h:Wk P0 P S c j own vs g w)(i:RelB (fun b=>S b∨own b) w k):Wk P0 P S c j own vs g k:=by
 cases j using Tr.ind with
 |fin=>exact(Tr.oS h).elim
 |mk f=>
  obtain⟨p,h⟩:=uX.1 h;refine uX.2 ⟨p,?_⟩;rcases h with h|⟨v,q,m,s,e,h⟩|⟨e,l,r,o,n,h⟩
  ·exact .inl fun d a=>h d (i.trans a)
  ·exact .inr (.inl ⟨v,q,m,s,e,fun d a=>h d (i.trans a)⟩)
  ·exact .inr (.inr ⟨e,l,r,o,n,fun d a=>h d (i.trans a)⟩)
def nC{a b c:R3}(h:AtRel a b)(k:AtRel b c):AtRel a c:=atRel_trans a b c h k
theorem Mn.Gj{e:Tr}{g:SM}{w i:R3}(h:Mn P0 P Post e .ex g w)(d:AtRel w i):Mn P0 P Post e .ex g i:=by
 cases e using Tr.ind with
 |fin=>exact(Tr.oS h).elim
 |mk f=>
  have j:i.heap=w.heap:=by obtain⟨n,rfl⟩:=d;rfl
  refine mJ.2 ?_;rcases mJ.1 h with h|h|⟨S,k,l,a,m⟩
  ·exact .inl fun b a=>h b (nC d a)
  ·exact .inr (.inl fun b a=>h b (nC d a))
  ·exact .inr (.inr ⟨S,k,by rw[j];exact l,by rw[j];exact a,fun b a=>m b (nC d a)⟩)
theorem Mn.jo{k:Tr}{g:SM}{j:Nat→Prop}{n:Nat→Option (List R2)}{w m:R3}(h:Mn P0 P Post k (.sh S j n) g w)(i:RelB (fun b=>S b∨j b) w m):Mn P0 P Post k (.sh S j n) g m:=by
 cases k using Tr.ind with
 |fin=>exact(Tr.oS h).elim
 |mk f=>
  refine mJ.2 ?_;rcases mJ.1 h with h|⟨c,l,o,e,a,q,r,h⟩|⟨c,s,p,l,e,a,h⟩|⟨e,h⟩
  ·exact .inl fun d a=>h d (i.trans a)
  ·exact .inr (.inl ⟨c,l,o,e,a,q,(i.at_ c (.inr e)).trans r,fun d a=>h d (i.trans a)⟩)
  ·exact .inr (.inr (.inl ⟨c,s,p,l,e,a,fun d a=>h d (i.trans a)⟩))
  ·exact .inr (.inr (.inr ⟨e,fun d a=>h d (i.trans a)⟩))
end
def Mn.cast{P0 P:Sd}{Post:R2→R3→Prop}{b tr':Tr}{a:Md}{g:SM}{w:R3}(e:b=tr')(h:Mn P0 P Post tr' a g w):Mn P0 P Post b a g w:=e▸h
def Wk.cast{P0 P:Sd}{S:Nat→Prop}{c:Nat}{a tr':Tr}{own:Nat→Prop}{vs:List R2}{g:SM}{w:R3}(e:a=tr')(h:Wk P0 P S c tr' own vs g w):Wk P0 P S c a own vs g w:=e▸h
def Down (n:Nat)(d eE:Nat→Tr):Prop:=∃ a,a<n∧(∃ f e,eE a= .mk f∧d a=f e)∧∀ b,b≠a→d b=eE b
theorem J0:∀ (n:Nat) (eE:Nat→Tr),Acc (Down n) eE:=by
 intro n
 induction n with
 |zero=>exact fun eE=>⟨_,fun d e=>by obtain⟨b,q,_⟩:=e;omega⟩
 |succ n r=>
  have t:∀ (l:Tr) (eE:Nat→Tr),eE n=l→Acc (Down (n+1)) eE:=by
   intro l
   induction l using Tr.ind with
   |fin=>
    intro eE;have o:=r eE
    induction o with
    |intro eE _ p=>
     intro h;refine⟨_,fun d e=>?_⟩;obtain⟨b,q,⟨f,j,a,k⟩,g⟩:=e;by_cases i:b=n
     ·subst i;rw[h] at a;exact(Tr.O4 a).elim
     ·exact p d ⟨b,by omega,⟨f,j,a,k⟩,g⟩ ((g n (fun m=>i m.symm)).trans h)
   |mk u s=>
    intro eE;have o:=r eE
    induction o with
    |intro eE _ p=>
     intro h;refine⟨_,fun d e=>?_⟩;obtain⟨b,q,⟨f,j,a,k⟩,g⟩:=e;by_cases i:b=n
     ·subst i;rw[h] at a;exact s j d (k.trans (congrFun (Tr.mk_inj a) j).symm)
     ·exact p d ⟨b,by omega,⟨f,j,a,k⟩,g⟩ ((g n (fun m=>i m.symm)).trans h)
  exact fun eE=>t (eE n) eE rfl
def FU{P:Sd}{m:Bool}{g g':SM}(h1:g'.frame=g.frame)(a:g'.callers=g.callers)(b:g'.dying=g.dying)(w:R3):SO P m g' w=SO P m g w:=by
 obtain⟨f,c,s,e,j⟩:=g;obtain⟨i,d,l,h,k⟩:=g';simp only at h1 a b;subst h1 a b;rfl
structure Inv(P0 P:Sd)(S O:Nat→Prop)(μ:Nat→Option (List R2))(gs:Array SM)(w:R3)(t:Trace)(wk:Nat→Option va)(vs:Nat→List R2)(q:Nat→Nat)(eE:Nat→Tr):Prop where
 yz:sL S wk w.heap.size t
 hp:vW P0 w
 quit:∀ i g,0<i→gs[i]? =RX g→(∀ x,wk i=RX x→x.pc≠RZ)→QuitsIn P (q i) g
 act:∀ i g x,gs[i]? =RX g→wk i=RX x→x.pc=RZ→Wk P0 P S x.c (eE i) x.own (vs i) g w
 idx:∀ i x,wk i=RX x→0<i∧i<gs.size
 l8:∀ b,S b→b<w.heap.size∧¬ O b
 vq:∀ b,O b→b<w.heap.size
 low:∀ i x,wk i=RX x→x.c<w.heap.size∧¬ S x.c∧¬ O x.c∧¬ x.own x.c∧∀ b,x.own b→b<w.heap.size∧¬ S b∧¬ O b
 qp:∀ i j x y,i≠j→wk i=RX x→wk j=RX y→x.c≠y.c∧¬ y.own x.c∧∀ b,x.own b→¬ y.own b
 chan:∀ i x,wk i=RX x→∃ cap buf s r,w.heap[x.c]? =RX (.chan cap buf x.pc.isSome s r R6)∧μ x.c=RX (buf.toList ++ (if x.pc=RZ then vs i else[]))∧(x.pc=RZ→buf.size+(vs i).length≤cap)
 mu:∀ c l,μ c=RX l→∃ i x,wk i=RX x∧x.c=c
def jN {α:Type}(f:Nat→α)(i:Nat)(x:α):Nat→α:=fun a=>if a=i then x else f a
def cI{α:Type}(f:Nat→α)(i:Nat)(x:α):jN f i x i=x:=by simp[jN]
def dF{α:Type}(f:Nat→α){i j:Nat}(x:α)(h:j≠i):jN f i x j=f j:=by simp[jN,h]
theorem DY{e:Ti}{b:Touch}(h:(Ut e).touch?= RX b)(c:∀ m,e.loc= .mark m→Neutral m):b.loc=e.loc∧b.write=e.write:=by
 obtain⟨d,wr,a⟩:=e;cases d with
 |cell f=>simp[Ut,VG] at h;subst h;exact⟨rfl,rfl⟩
 |obj g=>cases wr<;>cases a<;>simp[Ut,VG] at h<;>subst h<;>exact⟨rfl,rfl⟩
 |output=>simp[Ut,VG] at h;subst h;exact⟨rfl,rfl⟩
 |goroutines=>simp[Ut,VG] at h;subst h;exact⟨rfl,rfl⟩
 |mark m=>
  have:Ut ⟨.mark m,wr,a⟩= .mark m:=by cases wr<;>cases a<;>rfl
  rw[this,(c m rfl).touch] at h;cases h
def wK{S o:Nat→Prop}{e:Ti}(h:EvW S o e):∀ m,e.loc= .mark m→Neutral m:=fun m a=>by
 unfold EvW at h;rw[a] at h;exact h
def CE{n:Nat}{e:Ti}(h:B0 n e):∀ m,e.loc= .mark m→Neutral m:=fun m a=>by
 unfold B0 at h;rw[a] at h;exact h
def zO{S o:Nat→Prop}{e:Ti}{b:Touch}(h:EvW S o e)(g:(Ut e).touch?= RX b)(c:b.loc.isMemory=R7):o (blk b.loc)∨(S (blk b.loc)∧b.write=R6):=by
 obtain⟨d,f⟩:=DY g (wK h);unfold EvW at h;rw[d,f];rw[d] at c;cases a:e.loc with
 |cell i=>rw[a] at h;exact h
 |obj j=>rw[a] at h;exact h
 |_=>rw[a] at c;simp[Loc.isMemory] at c
def Ie{n:Nat}{e:Ti}{b:Touch}(h:B0 n e)(f:(Ut e).touch?= RX b)(c:b.loc.isMemory=R7):blk b.loc<n:=by
 obtain⟨d,i⟩:=DY f (CE h);unfold B0 at h;rw[d];rw[d] at c;cases a:e.loc with
 |cell g=>rw[a] at h;exact h
 |obj j=>rw[a] at h;exact h
 |_=>rw[a] at c;simp[Loc.isMemory] at c
def mU{g:Nat}{fn:T1}{pos:String}{es:Array Ti}(h:∀ e∈es,∀ m,e.loc= .mark m→Neutral m):Wordless (Vu g fn pos es):=by
 intro j f m a;obtain⟨e,d,rfl⟩:=UI f;obtain⟨i,wr,b⟩:=e;cases i with
 |mark c=>
  have:Ut ⟨.mark c,wr,b⟩= .mark c:=by cases wr<;>cases b<;>rfl
  simp only[this] at a;cases a;exact h _ d m rfl
 |obj k=>cases wr<;>cases b<;>simp[Ut] at a
 |_=>simp[Ut] at a
def ku{B:Nat→Prop}{w:R3}{c:Nat}(h:¬ B c)(cap:Nat)(b:Array R2)(d:Bool)(s r:Nat)(i:Bool):RelB B w (w.setChan c cap b d s r i):=
 ⟨fun a f=>by
  have g:c≠a:=fun e=>h (by rw[e];exact f);simp only[World.setChan];rw[TR g],by simp[World.setChan],rfl,rfl,rfl⟩
def Gr{P0:Sd}{w:R3}(h:vW P0 w)(c cap:Nat)(a:Array R2)(b:Bool)(s r:Nat)(d:Bool):vW P0 (w.setChan c cap a b s r d):=trivial
def vD{w:R3}{c b:Nat}(h:b≠c)(cap:Nat)(a:Array R2)(d:Bool)(s r:Nat)(f:Bool):(w.setChan c cap a d s r f).heap[b]? =w.heap[b]? :=by
 simp only[World.setChan];rw[TR (fun e=>h e.symm)]
def gM(w:R3)(c cap:Nat)(a:Array R2)(b:Bool)(s r:Nat)(d:Bool):(w.setChan c cap a b s r d).heap.size=w.heap.size:=by simp[World.setChan]
def AS{w:R3}{c:Nat}(h:c<w.heap.size)(cap:Nat)(a:Array R2)(b:Bool)(s r:Nat)(d:Bool):(w.setChan c cap a b s r d).heap[c]? =RX (.chan cap a b s r d):=by
 simp[World.setChan,h]
section
variable {P0 P:Sd}{S O:Nat→Prop}{μ:Nat→Option (List R2)}{gs gs':Array SM}{w w':R3}{t u:Trace}{wk:Nat→Option va}{vs:Nat→List R2}{q:Nat→Nat}{eE:Nat→Tr}
def mv{k:Nat}{y:Option va}{j:Nat}{z:va}(e:jN wk k y j=RX z):(j=k∧y=RX z)∨(j≠k∧wk j=RX z):=by
 unfold jN at e
 split at e
 ·rename_i a;exact .inl ⟨a,e⟩
 ·rename_i a;exact .inr ⟨a,e⟩
def Inv.at(h:Inv P0 P S O μ gs w t wk vs q eE)(d:Nat):Inv P0 P S O μ gs (w.at d) t wk vs q eE:=
 ⟨h.yz,h.hp,h.quit,fun f a g b e c=>(h.act f a g b e c).rely (RelB.at _ w d),h.idx,h.l8,h.vq,h.low,h.qp,h.chan,h.mu⟩
def Inv.RJ(h:Inv P0 P S O μ gs w t wk vs q eE)(k:gs'.size=gs.size)(g:∀ j,0<j→gs'[j]? =gs[j]?):Inv P0 P S O μ gs' w t wk vs q eE:=
 ⟨h.yz,h.hp,fun a d f e=>h.quit a d f ((g a f).symm.trans e),fun a d c e b i=>h.act a d c ((g a (h.idx a c b).1).symm.trans e) b i,fun a c b=>by rw[k];exact h.idx a c b,h.l8,h.vq,h.low,h.qp,h.chan,h.mu⟩
theorem Inv.slip(h:Inv P0 P S O μ gs w t wk vs q eE){i k:Nat}{g':SM}(m:∀ x,wk i=RX x→x.pc≠RZ)(n:QuitsIn P k g')(o:gs'.size=gs.size)(l:gs'[i]? =RX g')(f:∀ j,0<j→j≠i→gs'[j]? =gs[j]?):Inv P0 P S O μ gs' w t wk vs (jN q i k) eE:=by
 refine⟨h.yz,h.hp,fun j d e c a=>?_,fun j d x c a g=>?_,fun j x a=>by rw[o];exact h.idx j x a,h.l8,h.vq,h.low,h.qp,h.chan,h.mu⟩
 ·by_cases b:j=i
  ·subst b;rw[l] at c;cases c;rw[cI];exact n
  ·rw[dF _ _ b];exact h.quit j d e ((f j e b).symm.trans c) a
 ·by_cases b:j=i
  ·subst b;exact absurd g (m x a)
  ·exact h.act j d x ((f j (h.idx j x a).1 b).symm.trans c) a g
def Inv.Nr(h:Inv P0 P S O μ gs w t wk vs q eE){i:Nat}{x:va}(e:wk i=RX x){es:Array Ti}(c:lG P0 S x.own w w' es):RelB (fun b=>S b∨O b) w w':=
 ⟨fun b a=>a.elim (fun a=>c.keep b (h.l8 b a).1 fun d=>((h.low i x e).2.2.2.2 b d).2.1 a) (fun a=>c.keep b (h.vq b a) fun d=>((h.low i x e).2.2.2.2 b d).2.2 a),c.size,c.tape,c.os,c.output⟩
theorem Inv.PZ(h:Inv P0 P S O μ gs w t wk vs q eE){i:Nat}{x:va}(l:wk i=RX x)(V:x.pc=RZ){es:Array Ti}{g':SM}{tr':Tr}(g:lG P0 S x.own w w' es)(al:Wk P0 P S x.c tr' (cw x.own w w') (vs i) g' w')(W:gs'.size=gs.size)(ao:gs'[i]? =RX g')(U:∀ j,0<j→j≠i→gs'[j]? =gs[j]?)(fn:T1)(pos:String):
 Inv P0 P S O μ gs' w' (t ++ Vu i fn pos es) (jN wk i (RX ⟨x.c,cw x.own w w',RZ⟩)) vs q (jN eE i tr'):=by
 obtain⟨Y,Z,a1,ab,E⟩:=h.low i x l;have N:∀ b,cw x.own w w' b→¬ S b:=fun b a r=>a.elim (fun a=>(E b a).2.1 r) fun a=>by have:=(h.l8 b r).1;omega
 have ae:∀ b,cw x.own w w' b→¬ O b:=fun b a r=>a.elim (fun a=>(E b a).2.2 r) fun a=>by have:=h.vq b r;omega
 have C:∀ j f,j≠i→wk j=RX f→∀ b,cw x.own w w' b→¬ f.own b∧b≠f.c:=fun j f k d b a=>a.elim (fun a=>⟨(h.qp i j x f (fun e=>k e.symm) l d).2.2 b a,fun e=>(h.qp j i f x k d l).2.1 (e▸a)⟩) fun a=>⟨fun n=>by have:=((h.low j f d).2.2.2.2 b n).1;omega,fun e=>by have:=(h.low j f d).1;omega⟩;have Q:∀ b,cw x.own w w' b→b<w'.heap.size:=fun b a=>a.elim (fun a=>Sa (E b a).1 g.size) (fun a=>a.2);refine⟨?_,g.hp h.hp,fun j I M k R=>?_,fun j I f k d aw=>?_,fun j f d=>?_,fun b a=>⟨Sa (h.l8 b a).1 g.size,(h.l8 b a).2⟩,fun b a=>Sa (h.vq b a) g.size,fun j f d=>?_,fun j y f F p d X=>?_,fun j f d=>?_,fun c a0 am=>?_⟩
 ·refine h.yz.PZ l V (fun b a=>.inl a) (fun b a=>a.imp id And.left) (fun a6 K=>by obtain⟨e,_,rfl⟩:=UI K;rfl) (mU fun e J=>wK (g.evs e J)) g.size N Z (fun j f k d=>⟨C j f k d,(h.qp i j x f (fun e=>k e.symm) l d).2.1,(h.qp i j x f (fun e=>k e.symm) l d).1,fun b a=>⟨fun n=>((h.low j f d).2.2.2.2 b n).2.1 a,fun e=>(h.low j f d).2.1 (e▸a)⟩⟩) fun a6 K b a ar=>?_;obtain⟨e,J,rfl⟩:=UI K;rcases zO (g.evs e J) a ar with o|o
  ·exact⟨Q _ o,.inl o⟩
  ·exact⟨Sa (h.l8 _ o.1).1 g.size,.inr (.inr o)⟩
 ·by_cases e:j=i
  ·subst e;exact absurd rfl (R ⟨x.c,cw x.own w w',RZ⟩ (cI _ _ _))
  ·exact h.quit j I M ((U j M e).symm.trans k) fun f d=>R f (by rw[dF _ _ e];exact d)
 ·rcases mv d with⟨rfl,e⟩|⟨m,d⟩
  ·cases e;rw[ao] at k;cases k;rw[cI];exact al
  ·rw[dF _ _ m];refine(h.act j I f ((U j (h.idx j f d).1 m).symm.trans k) d aw).rely ⟨fun b a=>?_,g.size,g.tape,g.os,g.output⟩;rcases a with a|a
   ·exact g.keep b (h.l8 b a).1 fun n=>(E b n).2.1 a
   ·exact g.keep b ((h.low j f d).2.2.2.2 b a).1 fun n=>(h.qp i j x f (fun e=>m e.symm) l d).2.2 b n a
 ·rcases mv d with⟨rfl,e⟩|⟨m,d⟩
  ·rw[W];exact h.idx j x l
  ·rw[W];exact h.idx j f d
 ·rcases mv d with⟨rfl,e⟩|⟨m,d⟩
  ·cases e;exact⟨Sa Y g.size,Z,a1,fun a=>a.elim ab fun a=>by have:=a.1;dsimp only at this;omega,fun b a=>⟨Q b a,N b a,ae b a⟩⟩
  ·obtain⟨a2,a3,a4,a5,ad⟩:=h.low j f d;exact⟨Sa a2 g.size,a3,a4,a5,fun b a=>⟨Sa (ad b a).1 g.size,(ad b a).2⟩⟩
 ·rcases mv d with⟨rfl,e⟩|⟨m,D⟩
  ·cases e;rcases mv X with⟨rfl,e⟩|⟨T,v⟩
   ·exact absurd rfl p
   ·exact⟨(h.qp j y x F p l v).1,(h.qp j y x F p l v).2.1,fun b a=>(C y F T v b a).1⟩
  ·rcases mv X with⟨rfl,e⟩|⟨T,v⟩
   ·cases e;exact⟨(h.qp j y f x p D l).1,fun a=>(C j f m D _ a).2 rfl,fun b a n=>(C j f m D b n).1 a⟩
   ·exact h.qp j y f F p D v
 ·rcases mv d with⟨rfl,e⟩|⟨m,d⟩
  ·cases e;obtain⟨H,G,s,L,z,A,B⟩:=h.chan j x l;rw[V] at z A B;exact⟨H,G,s,L,(g.keep _ Y ab).trans z,A,B⟩
  ·obtain⟨H,G,s,L,z,A,B⟩:=h.chan j f d;exact⟨H,G,s,L,(g.keep _ (h.low j f d).1 (h.qp j i f x m d l).2.1).trans z,A,B⟩
 ·obtain⟨j,f,d,e⟩:=h.mu c a0 am;by_cases k:j=i
  ·subst k;rw[l] at d;cases d;exact⟨j,_,cI _ _ _,e⟩
  ·exact⟨j,f,by rw[dF _ _ k];exact d,e⟩
end
section
variable {P0 P:Sd}{S O:Nat→Prop}{μ:Nat→Option (List R2)}{gs gs':Array SM}{w w':R3}{t u:Trace}{wk:Nat→Option va}{vs:Nat→List R2}{q:Nat→Nat}{eE:Nat→Tr}{B:Nat}
theorem sL.Qz(h:sL S wk B t)(g:Wordless u)(f:∀ b∈u,b.act.touch?= RZ):sL S wk B (t ++ u):=by
 have k:∀ (c:List V6) (t:Trace),sL S wk B t→Wordless c.toArray→(∀ b∈c,b.act.touch?= RZ)→sL S wk B (t ++ c.toArray):=by
  intro c
  induction c with
  |nil=>intro t h _ _;simpa using h
  |cons d c j=>
   intro t h g f;have i:t ++ (d :: c).toArray=(t ++ #[d]) ++ c.toArray:=by apply Array.ext';simp
   rw[i];refine j _ (h.mute (B':=B) (γ:=d.g) (fun b a=>by simp at a;rw[a]) (fun b a m e=>?_) (fun b a=>by simp at a;rw[a];exact f d (by simp)) (R8 _)) (fun b a m e=>g b (by simp at a ⊢;exact .inr a) m e) fun b a=>f b (by simp[a]);simp at a;rw[a] at e;exact g d (by simp) m e
 have:=k u.toList t h (by simpa using g) (fun b a=>f b (by simpa using a));simpa using this
def uf(μ:Nat→Option (List R2))(c:Nat)(l:Option (List R2)):fp μ c l c=l:=by simp[fp]
def qf(μ:Nat→Option (List R2)){c j:Nat}(l:Option (List R2))(h:j≠c):fp μ c l j=μ j:=by simp[fp,h]
theorem Inv.comm(h:Inv P0 P S O μ gs w t wk vs q eE){i:Nat}{x:va}(g:wk i=RX x){cap s' r':Nat}{buf':Array R2}{vi':List R2}{tr':Tr}{g':SM}(G:x.pc=RZ→buf'.size+vi'.length≤cap)
 (F:x.pc=RZ→Wk P0 P S x.c tr' x.own vi' g' w) (H:x.pc=RZ→gs'[i]? =RX g') (I:x.pc≠RZ→gs'[i]? =gs[i]?) (s:∀ j,0<j→j≠i→gs'[j]? =gs[j]?) (K:gs'.size=gs.size) (L:Wordless u) (J:∀ R∈u,R.act.touch?= RZ):
 Inv P0 P S O (fp μ x.c (RX (buf'.toList ++ (if x.pc=RZ then vi' else[])))) gs' (w.setChan x.c cap buf' x.pc.isSome s' r' R6) (t ++ u) wk (jN vs i vi') q (jN eE i tr'):=by
 obtain⟨N,v,V,Q,W⟩:=h.low i x g;have r:∀ j d,j≠i→wk j=RX d→d.c≠x.c:=fun j d e b=>(h.qp j i d x e b g).1;refine⟨by rw[gM];exact h.yz.Qz L J,Gr h.hp _ _ _ _ _ _ _,fun j k m e n=>?_,fun j k d e b o=>?_,fun j d b=>by rw[K];exact h.idx j d b,fun l f=>by rw[gM];exact h.l8 l f,fun l f=>by rw[gM];exact h.vq l f,fun j d b=>by rw[gM];exact h.low j d b,h.qp,fun j d b=>?_,fun c M p=>?_⟩
 ·by_cases a:j=i
  ·subst a;exact h.quit j k m ((I (n x g)).symm.trans e) n
  ·exact h.quit j k m ((s j m a).symm.trans e) n
 ·by_cases a:j=i
  ·subst a;rw[g] at b;cases b;rw[H o] at e;cases e;rw[cI,cI];exact(F o).rely (ku (fun f=>f.elim v Q) _ _ _ _ _ _)
  ·rw[dF _ _ a,dF _ _ a];exact(h.act j k d ((s j (h.idx j d b).1 a).symm.trans e) b o).rely (ku (fun f=>f.elim v (h.qp i j x d (fun E=>a E.symm) g b).2.1) _ _ _ _ _ _)
 ·by_cases a:j=i
  ·subst a;rw[g] at b;cases b;exact⟨cap,buf',s',r',AS N _ _ _ _ _ _,by rw[uf,cI],by rw[cI];exact G⟩
  ·obtain⟨D,y,U,T,z,A,C⟩:=h.chan j d b;refine⟨D,y,U,T,(vD (r j d a b) _ _ _ _ _ _).trans z,?_,by rw[dF _ _ a];exact C⟩;rw[qf _ _ (r j d a b),dF _ _ a];exact A
 ·by_cases a:c=x.c
  ·exact⟨i,x,g,a.symm⟩
  ·rw[qf _ _ a] at p;exact h.mu c M p
theorem Inv.close(h:Inv P0 P S O μ gs w t wk vs q eE){i:Nat}{x:va}(g:wk i=RX x)(A:x.pc=RZ)(ad:vs i=[]){cap s r n:Nat}{v:Array R2}{g':SM}{tr':Tr}(hc:w.heap[x.c]? =RX (.chan cap v R6 s r R6))(ab:QuitsIn P n g')(W:gs'[i]? =RX g')(K:∀ j,0<j→j≠i→gs'[j]? =gs[j]?)(M:gs'.size=gs.size)(fn:T1)(pos:String):
 Inv P0 P S O μ gs' (w.setChan x.c cap v R7 s r R6) (t ++ Vu i fn pos #[⟨.obj x.c,R6,R7⟩,⟨.obj x.c,R7,R7⟩]) (jN wk i (RX ⟨x.c,x.own,RX (t.size+1)⟩)) vs (jN q i n) (jN eE i tr'):=by
 obtain⟨E,F,al,am,ao⟩:=h.low i x g;have X:∀ j b,j≠i→wk j=RX b→b.c≠x.c:=fun j b e d=>(h.qp j i b x e d g).1;refine⟨?_,Gr h.hp _ _ _ _ _ _ _,fun j z J e Z=>?_,fun j z b e d L=>?_,fun j b d=>?_,fun p l=>by rw[gM];exact h.l8 p l,fun p l=>by rw[gM];exact h.vq p l,fun j b d=>?_,fun j D b T o d N=>?_,fun j b d=>?_,fun c ae V=>?_⟩
 ·rw[gM];exact h.yz.close g A E F fn pos fun j b e d=>⟨(h.qp i j x b (fun a=>e a.symm) g d).2.1,(h.qp i j x b (fun a=>e a.symm) g d).1⟩
 ·by_cases a:j=i
  ·subst a;rw[W] at e;cases e;rw[cI];exact ab
  ·rw[dF _ _ a];exact h.quit j z J ((K j J a).symm.trans e) fun b d=>Z b (by rw[dF _ _ a];exact d)
 ·rcases mv d with⟨rfl,a⟩|⟨k,f⟩
  ·cases a;cases L
  ·rw[dF _ _ k];exact(h.act j z b ((K j (h.idx j b f).1 k).symm.trans e) f L).rely (ku (fun l=>l.elim F (h.qp i j x b (fun U=>k U.symm) g f).2.1) _ _ _ _ _ _)
 ·rcases mv d with⟨rfl,a⟩|⟨k,f⟩
  ·rw[M];exact h.idx j x g
  ·rw[M];exact h.idx j b f
 ·rcases mv d with⟨rfl,a⟩|⟨k,f⟩
  ·cases a;rw[gM];exact⟨E,F,al,am,ao⟩
  ·rw[gM];exact h.low j b f
 ·rcases mv d with⟨rfl,a⟩|⟨k,f⟩
  ·cases a;rcases mv N with⟨rfl,a⟩|⟨Y,C⟩
   ·exact absurd rfl o
   ·exact h.qp j D x T o g C
  ·rcases mv N with⟨rfl,a⟩|⟨Y,C⟩
   ·cases a;exact h.qp j D b x o f g
   ·exact h.qp j D b T o f C
 ·rcases mv d with⟨rfl,a⟩|⟨k,f⟩
  ·cases a;obtain⟨I,G,R,Q,m,y,H⟩:=h.chan j x g;rw[A] at m;have:=m.symm.trans hc;cases this;refine⟨cap,v,s,r,AS E _ _ _ _ _ _,?_,fun a=>by cases a⟩;rw[y,A,ad];rfl
  ·obtain⟨I,G,R,Q,m,y,H⟩:=h.chan j b f;exact⟨I,G,R,Q,(vD (X j b k f) _ _ _ _ _ _).trans m,y,H⟩
 ·obtain⟨j,b,d,a⟩:=h.mu c ae V;by_cases e:j=i
  ·subst e;rw[g] at d;cases d;exact⟨j,_,cI _ _ _,a⟩
  ·exact⟨j,b,by rw[dF _ _ e];exact d,a⟩
theorem Inv.main(h:Inv P0 P S O μ gs w t wk vs q eE){es:Array Ti}(d:lG P0 S O w w' es)(R:gs'.size=gs.size)(F:∀ j,0<j→gs'[j]? =gs[j]?)(fn:T1)(pos:String):
 Inv P0 P S (cw O w w') μ gs' w' (t ++ Vu 0 fn pos es) wk vs q eE:=by
 have E:∀ b,cw O w w' b→b<w'.heap.size:=fun b a=>a.elim (fun a=>Sa (h.vq b a) d.size) (fun a=>a.2);have p:∀ j c,wk j=RX c→∀ b,cw O w w' b→¬ c.own b∧b≠c.c:=fun j c e b a=>by
  obtain⟨y,l,z,A,k⟩:=h.low j c e;rcases a with a|a
  ·exact⟨fun f=>(k b f).2.2 a,fun g=>z (g▸a)⟩
  ·exact⟨fun f=>by have:=(k b f).1;omega,fun g=>by omega⟩
 refine⟨?_,d.hp h.hp,fun j m D o N=>h.quit j m D ((F j D).symm.trans o) N,fun j m c o e Q=>?_,fun j c e=>by rw[R];exact h.idx j c e,fun b a=>⟨Sa (h.l8 b a).1 d.size,fun f=>f.elim (h.l8 b a).2 fun f=>by have:=(h.l8 b a).1;omega⟩,E,fun j c e=>?_,h.qp,fun j c e=>?_,h.mu⟩
 ·refine h.yz.main (fun T r=>by obtain⟨g,_,rfl⟩:=UI r;rfl) (mU fun g n=>wK (d.evs g n)) d.size fun T r b a M=>?_;obtain⟨g,n,rfl⟩:=UI r;rcases zO (d.evs g n) a M with i|i
  ·exact⟨E _ i,fun x C v=>p x C v _ i,fun G=>absurd i (fun f=>f.elim (h.l8 _ G).2 fun f=>by have:=(h.l8 _ G).1;omega)⟩
  ·refine⟨Sa (h.l8 _ i.1).1 d.size,fun x C v=>?_,fun _=>i.2⟩;obtain⟨y,l,z,A,k⟩:=h.low x C v;exact⟨fun f=>(k _ f).2.1 i.1,fun g=>l (g▸i.1)⟩
 ·refine(h.act j m c ((F j (h.idx j c e).1).symm.trans o) e Q).rely ⟨fun b a=>?_,d.size,d.tape,d.os,d.output⟩;rcases a with a|a
  ·exact d.keep b (h.l8 b a).1 (h.l8 b a).2
  ·exact d.keep b ((h.low j c e).2.2.2.2 b a).1 ((h.low j c e).2.2.2.2 b a).2.2
 ·obtain⟨y,l,z,A,k⟩:=h.low j c e;exact⟨Sa y d.size,l,fun f=>(p j c e _ f).2 rfl,A,fun b a=>⟨Sa (k b a).1 d.size,(k b a).2.1,fun f=>(p j c e b f).1 a⟩⟩
 ·obtain⟨L,H,s,U,I,J,K⟩:=h.chan j c e;exact⟨L,H,s,U,(d.keep _ (h.low j c e).1 (h.low j c e).2.2.1).trans I,J,K⟩
theorem Inv.spawn(h:Inv P0 P S O μ gs w t wk vs q eE){c cap:Nat}{l:List R2}{z:SM}{tr':Tr}(p:O c)(Y:l.length≤cap)(a3:μ c=RZ)(hc:w.heap[c]? =RX (.chan cap #[] R6 0 0 R6))(W:Wk P0 P S c tr' (fun _=>False) l z w)(K:gs'.size=gs.size+1)(V:0<gs.size)(X:gs'[gs.size]? =RX z)(J:∀ j,0<j→j<gs.size→gs'[j]? =gs[j]?)(fn C:T1)(pos:String):
 Inv P0 P S (fun b=>O b∧b≠c) (fp μ c (RX l)) gs' w (t ++ #[{g:=0,fn,pos,act:=.go gs.size},{g:=gs.size,fn:=C,pos,act:=.start}]) (jN wk gs.size (RX ⟨c,fun _=>False,RZ⟩)) (jN vs gs.size l) q (jN eE gs.size tr'):=by
 have H:wk gs.size=RZ:=by
  cases d:wk gs.size with
  |none=>rfl
  |some a2=>have:=(h.idx _ a2 d).2;omega
 have E:¬ S c:=fun al=>(h.l8 c al).2 p;have ab:∀ j a,wk j=RX a→j≠gs.size:=fun j a e d=>by rw[d,H] at e;cases e
 have r:∀ j a,wk j=RX a→c≠a.c:=fun j a e d=>(h.low j a e).2.2.1 (d▸p);refine⟨?_,h.hp,fun j g D o I=>?_,fun j g a o e ae=>?_,fun j a e=>?_,fun b i=>⟨(h.l8 b i).1,fun f=>(h.l8 b i).2 f.1⟩,fun b i=>h.vq b i.1,fun j a e=>?_,fun j v a y G e L=>?_,fun j a e=>?_,fun A m F=>?_⟩
 ·exact h.yz.spawn H fn C pos (fun j a e=>⟨fun f=>((h.low j a e).2.2.2.2 c f).2.2 p,r j a e,fun b i=>⟨fun f=>((h.low j a e).2.2.2.2 b f).2.1 i,fun d=>(h.low j a e).2.1 (d▸i)⟩⟩) E
 ·by_cases d:j=gs.size
  ·subst d;exact absurd rfl (I ⟨c,fun _=>False,RZ⟩ (cI _ _ _))
  ·have Z:j<gs.size:=by
    have:=(R9.1 o).1;omega
   exact h.quit j g D ((J j D Z).symm.trans o) fun a e=>I a (by rw[dF _ _ d];exact e)
 ·rcases mv e with⟨rfl,d⟩|⟨n,k⟩
  ·cases d;rw[X] at o;cases o;rw[cI,cI];exact W
  ·rw[dF _ _ n,dF _ _ n];exact h.act j g a ((J j (h.idx j a k).1 (h.idx j a k).2).symm.trans o) k ae
 ·rcases mv e with⟨rfl,d⟩|⟨n,k⟩
  ·rw[K];exact⟨V,by omega⟩
  ·have:=h.idx j a k;rw[K];exact⟨this.1,by omega⟩
 ·rcases mv e with⟨rfl,d⟩|⟨n,k⟩
  ·cases d;exact⟨h.vq c p,E,fun f=>f.2 rfl,fun f=>f,fun b i=>i.elim⟩
  ·obtain⟨am,ao,ar,aw,x⟩:=h.low j a k;exact⟨am,ao,fun f=>ar f.1,aw,fun b i=>⟨(x b i).1,(x b i).2.1,fun f=>(x b i).2.2 f.1⟩⟩
 ·rcases mv e with⟨rfl,d⟩|⟨n,k⟩
  ·cases d;rcases mv L with⟨rfl,d⟩|⟨ad,s⟩
   ·exact absurd rfl G
   ·exact⟨r v y s,fun f=>((h.low v y s).2.2.2.2 c f).2.2 p,fun b i=>i.elim⟩
  ·rcases mv L with⟨rfl,d⟩|⟨ad,s⟩
   ·cases d;exact⟨fun d=>r j a k d.symm,fun f=>f,fun b i f=>f⟩
   ·exact h.qp j v a y G k s
 ·rcases mv e with⟨rfl,d⟩|⟨n,k⟩
  ·cases d;exact⟨cap,#[],0,0,hc,by rw[uf,cI];simp,by rw[cI];simpa using Y⟩
  ·obtain⟨T,M,a1,a0,N,Q,R⟩:=h.chan j a k;refine⟨T,M,a1,a0,N,?_,by rw[dF _ _ n];exact R⟩;rw[qf _ _ (fun d=>r j a k d.symm),dF _ _ n];exact Q
 ·by_cases d:A=c
  ·exact⟨gs.size,_,cI _ _ _,d.symm⟩
  ·rw[qf _ _ d] at F;obtain⟨j,a,e,U⟩:=h.mu A m F;exact⟨j,a,by rw[dF _ _ (ab j a e)];exact e,U⟩
theorem Inv.KY(h:Inv P0 P S O μ gs w t wk vs q eE){i p:Nat}{x:va}(k:wk i=RX x)(r:x.pc=RX p)(H:gs'.size=gs.size)(o:∀ j,0<j→gs'[j]? =gs[j]?)(fn:T1)(pos:String):
 Inv P0 P S O (fp μ x.c RZ) gs' w (t ++ #[{g:=0,fn,pos,act:=.recvClosed x.c}]) (jN wk i RZ) vs q eE:=by
 have e:∀ {j b},jN wk i RZ j=RX b→j≠i∧wk j=RX b:=fun {j b} d=>by
  rcases mv d with⟨_,d⟩|d
  ·cases d
  ·exact d
 refine⟨h.yz.KY k r fn pos,h.hp,fun j g n l F=>?_,fun j g b l a G=>?_,fun j b a=>by rw[H];exact h.idx j b (e a).2,h.l8,h.vq,fun j b a=>h.low j b (e a).2,fun j J b M E a I=>h.qp j J b M E (e a).2 (e I).2,fun j b a=>?_,fun c K f=>?_⟩
 ·refine h.quit j g n ((o j n).symm.trans l) fun b a=>?_;by_cases d:j=i
  ·subst d;rw[k] at a;cases a;rw[r];simp
  ·exact F b (by rw[dF _ _ d];exact a)
 ·exact h.act j g b ((o j (h.idx j b (e a).2).1).symm.trans l) (e a).2 G
 ·obtain⟨C,v,s,L,y,z,A⟩:=h.chan j b (e a).2;exact⟨C,v,s,L,y,by rw[qf _ _ (h.qp j i b x (e a).1 (e a).2 k).1];exact z,A⟩
 ·by_cases d:c=x.c
  ·rw[d,uf] at f;cases f
  ·rw[qf _ _ d] at f;obtain⟨j,b,a,m⟩:=h.mu c K f;refine⟨j,b,?_,m⟩;rw[dF _ _ (fun D=>?_)]
   ·exact a
   ·subst D;rw[k] at a;cases a;exact d m.symm
end
def Ends (P:Sd)(Post:R2→R3→Prop)(m:Machine)(t:Trace):Prop:=
 ∃ N a b c d,runNT P (N+1) m t=(.ended b c,d)∧runN P N m= .next a∧step P a= .ended b c∧Good P Post a b c d
section
variable {P0 P:Sd}{Post:R2→R3→Prop}
def Ends.step{m m':Machine}{t ops:Trace}(h:stepT P m=(.next m',ops))(a:Ends P Post m' (t ++ ops)):Ends P Post m t:=by
 obtain⟨N,f,g,j,i,b,c,d,e⟩:=a;refine⟨N+1,f,g,j,i,?_,?_,d,e⟩
 ·rw[runNT,h];exact b
 ·rw[runN,Go.step,h];exact c
def Ends.now{m:Machine}{t ops:Trace}{o:Outcome}{w:R3}(h:stepT P m=(.ended o w,ops))(a:Good P Post m o w (t ++ ops)):Ends P Post m t:=
 ⟨0,m,o,w,t ++ ops,by rw[runNT,h],rfl,by rw[Go.step,h],a⟩
structure qS(g0 g:SM):Prop where
 frame:g0.frame=g.frame
 callers:g0.callers=g.callers
 dying:g0.dying=g.dying
def qS.refl(g:SM):qS g g:=⟨rfl,rfl,rfl⟩
def qS.step{a g:SM}(h:qS a g)(m:Bool)(w:R3):SO P m a w=SO P m g w:=FU h.frame h.callers h.dying w
section
variable {S O:Nat→Prop}{μ:Nat→Option (List R2)}{gs:Array SM}{w:R3}{t:Trace}{wk:Nat→Option va}{vs:Nat→List R2}{q:Nat→Nat}{eE:Nat→Tr}
theorem Inv.status(h:Inv P0 P S O μ gs w t wk vs q eE){i:Nat}{g:SM}(e:0<i)(b:gs[i]? =RX g):g.status= .running∨g.status= .finished:=by
 cases c:wk i with
 |none=>exact(h.quit i g e b fun d a=>by rw[c] at a;cases a).status
 |some d=>
  cases j:d.pc with
  |some l=>exact(h.quit i g e b fun m a=>by rw[c] at a;cases a;rw[j];simp).status
  |none=>
   have:=h.act i g d b c j;generalize eE i=k at this;cases k using Tr.ind with
   |fin=>exact(Tr.oS this).elim
   |mk f=>exact .inl (uX.1 this).1
def mo{g g' o:SM}{w':R3}(h:o.status= .running∨o.status= .finished):woken P g g' w' o=o:=by
 unfold woken
 split
 ·exact again_running _ h
 ·rfl
def k9{g g' g2:SM}{w':R3}{c cap s r:Nat}{b:Array R2}{d:Bool}{z:R2}{a:CommShape}(hc:w'.heap[c]? =RX (.chan cap b R6 s r d)):woken P g g' w' (parked g2 #[rcase c z] a)=parked g2 #[rcase c z] a:=by
 unfold woken
 split
 ·exact again_recv_open hc
 ·rfl
def others(h:Inv P0 P S O μ gs w t wk vs q eE){i:Nat}{g g':SM}{w':R3}{j:Nat}(b:0<j)(d:j≠i):((gs.map (woken P g g' w')).setIfInBounds i g')[j]? =gs[j]? :=by
 rw[TR (fun a=>d a.symm),Array.getElem?_map];cases c:gs[j]? with
 |none=>rfl
 |some e=>rw[TU,mo (h.status b c)]
def pS{i:Nat}{g g':SM}{w':R3}(a:gs[i]? =RX g):((gs.map (woken P g g' w')).setIfInBounds i g')[i]? =RX g':=by
 rw[Array.getElem?_setIfInBounds_self_of_lt (by simpa using(R9.1 a).1)]
def Dk{i:Nat}{g g' a:SM}{w':R3}(c:i≠0)(b:gs[0]? =RX a)(d:woken P g g' w' a=a):((gs.map (woken P g g' w')).setIfInBounds i g')[0]? =RX a:=by
 rw[TR c,Array.getElem?_map,b,TU,d]
def fS{i:Nat}{g g':SM}{w':R3}:((gs.map (woken P g g' w')).setIfInBounds i g').size=gs.size:=by simp
theorem Inv.Rt(h:Inv P0 P S O μ gs w t wk vs q eE)(y:∀ c,μ c=RZ):Inv P0 P (fun _=>False) (fun _=>False) (fun _=>RZ) gs w t (fun _=>RZ) vs q eE:=by
 have m:∀ a,wk a=RZ:=fun a=>by
  cases b:wk a with
  |none=>rfl
  |some d=>
   obtain⟨A,z,s,E,_,i,_⟩:=h.chan a d b;rw[y] at i;cases i
 refine⟨⟨h.yz.wl,h.yz.clean,h.yz.low,fun a n u x=>?_,fun g d e=>(by cases e),fun g d e=>(by cases e),fun g d D e=>(by cases e)⟩,h.hp,fun a k p l _=>h.quit a k p l fun d j=>(by rw[m] at j;cases j),fun a k d l b=>(by cases b),fun a d b=>(by cases b),fun o f=>f.elim,fun o f=>f.elim,fun a d b=>(by cases b),fun a B d F _ b=>(by cases b),fun a d b=>(by cases b),fun c C v=>(by cases v)⟩;rcases h.yz.known a n u x with r|⟨g,d,e,_⟩
 ·exact .inl r
 ·rw[m] at e;cases e
theorem Inv.Ru(h:Inv P0 P (fun _=>False) (fun _=>False) (fun _=>RZ) gs w t (fun _=>RZ) vs q eE)(k:∀ b,S b→b<w.heap.size∧¬ O b)(j:∀ b,O b→b<w.heap.size):Inv P0 P S O (fun _=>RZ) gs w t (fun _=>RZ) vs q eE:=by
 refine⟨⟨h.yz.wl,h.yz.clean,h.yz.low,fun e g l n=>?_,fun f c d=>(by cases d),fun f c d=>(by cases d),fun f c v d=>(by cases d)⟩,h.hp,h.quit,fun e p c r a=>(by cases a),fun e c a=>(by cases a),k,j,fun e c a=>(by cases a),fun e s c x _ a=>(by cases a),fun e c a=>(by cases a),fun o u m=>(by cases m)⟩;rcases h.yz.known e g l n with i|⟨f,c,d,_⟩
 ·exact .inl i
 ·cases d
theorem Inv.KG(h:Inv P0 P (fun _=>False) (fun _=>False) (fun _=>RZ) gs w t (fun _=>RZ) vs q eE){gs':Array SM}{w':R3}{es:Array Ti}(f:JU P0 w w' es)(y:gs'.size=gs.size)(s:∀ j,0<j→gs'[j]? =gs[j]?)(fn:T1)(pos:String):
 Inv P0 P (fun _=>False) (fun _=>False) (fun _=>RZ) gs' w' (t ++ Vu 0 fn pos es) (fun _=>RZ) vs q eE:=by
 refine⟨?_,f.hp h.hp,fun b l m n a=>h.quit b l m ((s b m).symm.trans n) a,fun b l d n a=>(by cases a),fun b d a=>(by cases a),fun k c=>c.elim,fun k c=>c.elim,fun b d a=>(by cases a),fun b j d B _ a=>(by cases a),fun b d a=>(by cases a),fun x A o=>(by cases o)⟩;refine h.yz.main (fun v i=>by obtain⟨e,_,rfl⟩:=UI i;rfl) (mU fun e g=>CE (f.evs e g)) f.size fun v i k c r=>?_;obtain⟨e,g,rfl⟩:=UI i;exact⟨Ie (f.evs e g) c r,fun z d p=>(by cases p),fun u=>u.elim⟩
theorem Inv.good(h:Inv P0 P (fun _=>False) (fun _=>False) (fun _=>RZ) gs w t (fun _=>RZ) vs q eE)(sl:Option (Nat×Nat)){v:R2}{es:Array Ti}(g:∀ e∈es,B0 w.heap.size e)(i:Post v w)(fn:T1)(pos:String)(w0:R3):Good P Post (crowd gs w0 sl) (.done v) w (t ++ Vu 0 fn pos es):=by
 have b:=h.KG (w':=w) (es:=es) ⟨R8 _,rfl,rfl,rfl,id,g⟩ rfl (fun _ _=>rfl) fn pos;refine⟨v,rfl,i,b.yz.clean,b.yz.over,⟨fun f d=>?_,rfl⟩,fun a f d c=>?_⟩
 ·obtain⟨a,c⟩:=List.mem_iff_getElem?.1 d;rw[List.getElem?_drop] at c;exact⟨_,(h.quit (1+a) f (by omega) (by simpa [crowd] using c) fun j e=>by cases e).leaves⟩
 ·rw[b.yz.wl.deaf];exact⟨q a,(h.quit a f (by omega) d fun j e=>by cases e).hears _ 0⟩
end
end
section
variable {P0 P:Sd}{Post:R2→R3→Prop}
def ML (P0 P:Sd)(Post:R2→R3→Prop)(k:Tr):Prop:=
 (∀ d c,Mn P0 P Post k .ex d c→∀ b g e h f eE a,b[0]? =RX a→qS a d→a.status= .running→Inv P0 P (fun _=>False) (fun _=>False) (fun _=>RZ) b c e (fun _=>RZ) h f eE→Ends P Post (crowd b c g) e)∧
 (∀ j i l d c,Mn P0 P Post k (.sh j i l) d c→∀ b g e m h f eE a,b[0]? =RX a→qS a d→a.status= .running→Inv P0 P j i l b c e m h f eE→Ends P Post (crowd b c g) e)
def DV{q:Nat→Nat}{i n k:Nat}(a:i<n)(b:q i=k+1):Vm n (jN q i k)+1=Vm n q:=by
 have c:Vm n (jN q i k)+(k+1)=Vm n q+k:=by
  have:=ConcN.sumTo_upd q k id a;simp only[id,b] at this;exact this
 omega
theorem sS{S d:Nat→Prop}{n:Nat→Option (List R2)}{a:Array SM}{w:R3}{t:Trace}{l:Nat→Option va}{vs:Nat→List R2}{q:Nat→Nat}{eE:Nat→Tr}(h:Inv P0 P S d n a w t l vs q eE){b:SM}(e:a[0]? =RX b)(f:awake b):∀ g∈a,awake g:=by
 intro g i;obtain⟨k,c,rfl⟩:=Array.mem_iff_getElem.1 i;rcases Ux k with rfl|j
 ·have:a[0]=b:=by simpa [SU c] using e
  rw[this];exact f
 ·exact awake_of ((h.status j (SU c)).elim .inl fun m=>.inr (.inr m))
theorem Ng{f:R3→Tr}(C:∀ w,ML P0 P Post (f w)):∀ (n:Nat) g w,Mn P0 P Post (.mk f) .ex g w→∀ d sl t vs q eE c,Vm d.size q<n→d[0]? =RX c→qS c g→c.status= .running→Inv P0 P (fun _=>False) (fun _=>False) (fun _=>RZ) d w t (fun _=>RZ) vs q eE→Ends P Post (crowd d w sl) t:=by
 intro n
 induction n with
 |zero=>intro g w y d sl t vs q eE c Z;omega
 |succ n ab=>
  intro g w y d sl t vs q eE c Z j p k e;have K:=y;rcases mJ.1 y with x|x|⟨E,D,G,H,I⟩
  case inr.inr=>exact(C w).2 E D _ g w (I w (atRel_refl w)) d sl t _ vs q eE c j p k (e.Ru G H)
  all_goals
   obtain⟨h,i,a,m,b,o,B⟩:=crowd_pick (P:=P) (w:=w) (sl:=sl) (sS e j (awake_of (.inl k))) ⟨0,c,j,k⟩;rcases Ux h with rfl|V
   case inr=>
    have r:=e.quit h i V b (fun am s=>by cases s);have R:(h == 0)=R6:=by simp;omega
    have T:h<d.size:=(R9.1 b).1;cases A:q h with
    |zero=>rw[A] at r;rw[show i.status= .finished from r] at o;cases o
    |succ ae=>
     rw[A] at r;rcases r with N|⟨_,u,Y,W⟩
     ·rw[N] at o;cases o
     ·have l:=runT_crowd_go (P:=P) (sl:=m) (i:=h) b (by rw[R];exact Y (w.at a));have ao:=DV T A;refine Ends.step (B.trans l) (ab g (w.at a) (K.Gj ⟨a,rfl⟩) _ m _ vs (jN q h ae) eE c (by rw[fS];omega) (Dk (by omega) j (mo (.inl k))) p k ?_);rw[ofEvents_none,Array.append_empty];exact(e.at a).slip (fun am s=>by cases s) W fS (pS b) fun ad z S=>others e z S
  ·obtain rfl:i=c:=by rw[j] at b;exact(VT b).symm
   obtain⟨u,al,F,Q,X,O,J⟩:=x (w.at a) ⟨a,rfl⟩;have l:=runT_crowd_go (P:=P) (sl:=m) (i:=0) b (show SO P (0 == 0) i (w.at a)=_ from(p.step R7 _).trans Q);refine Ends.step (B.trans l) ((C (w.at a)).1 u al J _ m _ vs q eE u (pS b) (qS.refl _) X ?_);exact(e.at a).KG O fS (fun ad z=>others e z (by omega)) _ _
  ·obtain rfl:i=c:=by rw[j] at b;exact(VT b).symm
   obtain⟨v,F,L,M,U⟩:=x (w.at a) ⟨a,rfl⟩;have l:=runT_many_ended (P:=P) (sl:=m) (i:=0) b (show SO P (0 == 0) i (w.at a)=_ from(p.step R7 _).trans L);exact Ends.now (B.trans l) ((e.at a).good sl M U _ _ w)
end
end Cc
end Go.Proofs.YtjidbonhhpkljaaGreat
