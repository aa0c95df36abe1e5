/- What the proof stands on, in short names. -/
import Derived.Conc.Beside
import Derived.Laws.Sem
import Derived.StepT
import GoSem.Dispatch
import Derived.Conc.Listed
import Derived.Conc.LoneCalls
import Derived.Conc.Know
import Derived.Conc.CrowdComm
set_option linter.all false
open Array renaming getElem?_eq_getElem → Sv, getElem?_eq_none → SZ, getElem?_eq_some_iff → RH, getElem?_modify → TB, getElem?_push → Sp, getElem?_setIfInBounds → Ss, getElem?_setIfInBounds_ne → Ty, range → Vg
open Bool renaming and_eq_true → R7, false → RE, false_eq_true → Sa, true → RF
open Classical renaming byContradiction → TE, choose → S0, choose_spec → RY
open False renaming elim → Vt
open Go renaming Addr → Sl, BinOp → VJ, Code → UR, Deferred → TS, Event → SV, Frame → RU, Func → Uj, FuncId → TH, GStep → VE, Goroutine → So, IntKind → T3, Item → Uk, MapEntry → Tv, MemOp → VL, Obj → UQ, Oper → Te, Operand → SG, PanicEntry → S1, Program → RM, Result → Vb, Sem → T1, TypeId → RO, TypeInfo → Ur, Value → RB, World → RD, behindNumber → T7, doReturn → Us, execOp → Sd, exitTo → Vu, resolve → Vj, results → SD, sizeOf → VH, stepG → Sq, tryRecover → UJ, typeInfo → UE, undef → SP, underlying → UK, unwind → Vv, yielded → S2, zeroValue → TO
open Go.Addr renaming add → VN
open Go.Addr.mk renaming injEq → UO
open Go.Builtin renaming append_ → Vc, firstCells → UF, holdsCells → UG, lenOf → Vy, mayShare → Vo, unsafeAdd_ → UH
open Go.Conc renaming G → RN, mem_ofEvents → Uo, served → TR, solo → Vw
open Go.ConcN renaming sumTo → U3
open Go.Deferred renaming ofValue → U5
open Go.Extern renaming find → VP
open Go.Frame renaming enter → Sz, finish → TD, round → Up
open Go.GStep renaming after → Uh
open Go.Goroutine.mk renaming injEq → VX
open Go.Instr renaming buildSlice → Uq, checkKey → U9, endRound → Vp, fill → UZ, findKey → Vz, makeSlice → Vd, sameBits → UT, sureAddr → Ux
open Go.IntKind renaming i64 → VQ
open Go.Machine.mk renaming injEq → Ws
open Go.MemAct renaming ofEvent → T8, touch? → Vl
open Go.MemOp renaming ofEvents → Va
open Go.Op.Complex renaming add → We, arith → Wb, cmp → Wh, conv → Wc, corrected → Wl, mul → Wi, product → V6, quo → Wu, quotient → V4, sub → Wj
open Go.Region renaming schedule → Ve, wanted → Sn
open Go.Result.halt renaming injEq → Wr
open Go.RuntimeError renaming error → Wo
open Go.Sem renaming run → T0, runT → SE
open Go.Stepped.next renaming injEq → Wp
open Go.Unsupported renaming resourceLimit → VY, unsafePointer → VM
open Go.Value renaming cells → Ub, slice → SS
open Go.World renaming cell? → R2, farLoad → Vm, farStore → UU, freeze → Tw, frozen? → SH, noCell → Um, setCell → Vn
open Go.stepG renaming apply → Tt, exec → Si
open List renaming all_eq_true → Sf, append_nil → Ud, cons_append → TP, mem_append → SM, mem_cons → Tq, mem_cons_self → UL, not_mem_nil → U7, range → Sw
open List.cons renaming injEq → UB
open MonadExceptOf renaming throw → VW
open Nat renaming add_assoc → SL, eq_zero_or_pos → UM, le_refl → RG, le_trans → R4, lt_of_lt_of_le → RK, lt_or_ge → Ts
open Option renaming map_eq_some_iff → TY, map_some → TG, none → RA, some → Ry
open Option.some renaming inj → Vx, injEq → SY
open Std.Legacy.Range renaming forIn_eq_forIn_range' → S9
open WellFounded renaming fixF → Wt, fixF_eq → Wn
set_option maxRecDepth 100000
set_option maxHeartbeats 8000000
namespace Go.Proofs.YtjidbonhhpkljaaGreat
namespace Cc
open Go
abbrev Tp:=Nat→Question→Nat
def sh (a:Tp)(d:Nat)(w:RD):RD:={w with tape:=a,drawn:=d}
def rW {α:Type}:Vb α→RD
 | .ok _ w=>w
 | .halt _ w=>w
def Al (e:Tp)(d:Nat)(f:Tp)(c:Nat)(n:Nat):Prop:=∀ a b,a<n→f (c+a) b=e (d+a) b
theorem Al.sub{b c:Tp}{d a n m:Nat}(h:Al b d c a n)(i:m≤n):Al b d c a m:=fun e f g=>h e f (by omega)
theorem Al.refl(a:Tp)(d n:Nat):Al a d a d n:=fun _ _ _=>rfl
def od:Halt→Bool
 | .panic _=>RF
 | .stuck _=>RF
 | .unsupported (.initOrder _)=>RE
 | .unsupported _=>RF
 |_=>RE
def pz:UQ:=.coro RA
def jk:UQ→Bool
 | .loop _| .deferred _| .pending _ _| .coro _=>RF
 |_=>RE
def Gx {α:Type}(k:UQ→T1 α):Prop:=(∃ s,k pz= .halt (.stuck s))∨((∀ c,k (.loop c)=k pz)∧(∀ b,k (.deferred b)=k pz)∧(∀ a d,k (.pending a d)=k pz)∧∀ e,k (.coro e)=k pz)
theorem Gx.bind{α e:Type}{k:UQ→T1 α}(h:Gx k)(f:α→T1 e):Gx fun o=>(k o).bind f:=by
 rcases h with⟨s,h⟩|⟨a,b,c,d⟩
 ·exact .inl ⟨s,by dsimp only;rw[h];rfl⟩
 ·exact .inr ⟨fun j=>by dsimp only;rw[a],fun i=>by dsimp only;rw[b],fun g l=>by dsimp only;rw[c],fun m=>by dsimp only;rw[d]⟩
theorem Gx.QW{α:Type}{k:UQ→T1 α}(h:Gx k){x:UQ}(e:jk x=RF):(∃ s,k pz= .halt (.stuck s))∨k x=k pz:=by
 rcases h with h|⟨a,b,c,d⟩
 ·exact .inl h
 ·cases x<;>first|(simp[jk] at e;done)|exact .inr (a _)|exact .inr (b _)|exact .inr (c _ _)|exact .inr (d _)
section
variable (P P':RM)(O:UQ→Prop)
def Still{α:Type}(Q:α→Prop):T1 α→Prop
 | .pure d=>Q d
 | .load _ _ a=>∀ v,Still Q (a v)
 | .store _ _ _ a=>Still Q a
 | .new b a=>O b∧∀ c,Still Q (a c)
 | .shape _ a=>∀ s,Still Q (a s)
 | .freeze _ _ a=>Still Q a
 | .frozen _ a=>∀ e,Still Q (a e)
 | .getObj _ a=>(∀ b,O b→Still Q (a b))∧Gx a
 | .setObj _ b a=>O b∧Still Q a
 | .choose _ a=>∀ i,Still Q (a i)
 | .sys g a=>g= .env∧∀ c,Still Q (a c)
 | .program a=>a P=a P'∧Still Q (a P)
 | .mark m a=>(Conc.Neutral m∨∃ f,m= .extern f)∧Still Q a
 | .halt h=>od h=RF
theorem Still.bind{α j:Type}{Q:α→Prop}{R:j→Prop}{f:α→T1 j}(k:∀ a,Q a→Still P P' O R (f a)):∀ {s:T1 α},Still P P' O Q s→Still P P' O R (s.bind f):=by
 intro s
 induction s with
 |pure a=>intro b;exact k a b
 |load m a d c=>intro b v;exact c v (b v)
 |store m a v d c=>intro b;exact c b
 |new g d c=>intro b;exact⟨b.1,fun e=>c e (b.2 e)⟩
 |shape e d c=>intro b s;exact c s (b s)
 |freeze a h d c=>intro b;exact c b
 |frozen a d c=>intro b i;exact c i (b i)
 |getObj e d c=>intro b;exact⟨fun g l=>c g (b.1 g l),b.2.bind f⟩
 |setObj e g d c=>intro b;exact⟨b.1,c b.2⟩
 |choose o d c=>intro b h;exact c h (b h)
 |sys n d c=>intro b;exact⟨b.1,fun e=>c e (b.2 e)⟩
 |program d c=>intro b;exact⟨congrArg (·.bind f) b.1,c P b.2⟩
 |mark m d c=>intro b;exact⟨b.1,c b.2⟩
 |halt b=>intro b;exact b
theorem Still.mono{α:Type}{Q R:α→Prop}(j:∀ a,Q a→R a):∀ {s:T1 α},Still P P' O Q s→Still P P' O R s:=by
 intro s
 induction s with
 |pure a=>intro b;exact j a b
 |load m a d c=>intro b v;exact c v (b v)
 |store m a v d c=>intro b;exact c b
 |new f d c=>intro b;exact⟨b.1,fun e=>c e (b.2 e)⟩
 |shape e d c=>intro b s;exact c s (b s)
 |freeze a g d c=>intro b;exact c b
 |frozen a d c=>intro b h;exact c h (b h)
 |getObj e d c=>intro b;exact⟨fun f i=>c f (b.1 f i),b.2⟩
 |setObj e f d c=>intro b;exact⟨b.1,c b.2⟩
 |choose l d c=>intro b g;exact c g (b g)
 |sys k d c=>intro b;exact⟨b.1,fun e=>c e (b.2 e)⟩
 |program d c=>intro b;exact⟨b.1,c P b.2⟩
 |mark m d c=>intro b;exact⟨b.1,c b.2⟩
 |halt b=>intro b;exact b
end
def Hp (O:UQ→Prop)(w:RD):Prop:=∀ (b:Nat) (a:UQ),w.heap[b]? =Ry a→O a∨a=pz
structure Plain(O:UQ→Prop):Prop where
 cells:∀ c t f,O (.cells c t f)
 pending:∀ c t,¬ O (.pending c t)
 OZ:¬ O pz
 loop:∃ r,O (.loop r)
structure Un(w u:RD):Prop where
 size:u.heap.size=w.heap.size
 at_:∀ (b:Nat) (o:UQ),w.heap[b]? =Ry o→u.heap[b]? =Ry o∨(o=pz∧∃ x,u.heap[b]? =Ry x∧jk x=RF)
 os:u.os=w.os
 output:u.output=w.output
structure qL(w u w' u':RD):Prop where
 un:Un w' u'
 keep:∀ b:Nat,w'.heap[b]? =Ry pz→w.heap[b]? =Ry pz∧u'.heap[b]? =u.heap[b]?
theorem Un.refl(w:RD):Un w w:=⟨rfl,fun b c a=>.inl a,rfl,rfl⟩
theorem Un.two{w u:RD}(h:Un w u):qL w u w u:=⟨h,fun b a=>⟨a,rfl⟩⟩
theorem qL.trans{w u w1 u1 c u2:RD}(h:qL w u w1 u1)(b:qL w1 u1 c u2):qL w u c u2:=⟨b.un,fun a i=>by
 obtain⟨d,e⟩:=b.keep a i;obtain⟨f,g⟩:=h.keep a d;exact⟨f,e.trans g⟩⟩
theorem Un.none{w u:RD}(h:Un w u){b:Nat}(a:w.heap[b]? =RA):u.heap[b]? =RA:=by
 rw[Array.getElem?_eq_none_iff] at a ⊢;rw[h.size];exact a
theorem Un.out{w u:RD}(h:Un w u){b:Nat}{o:UQ}(a:w.heap[b]? =Ry o)(c:o≠pz):u.heap[b]? =Ry o:=(h.at_ b o a).elim id fun h=>absurd h.1 c
theorem Un.row{w u:RD}(h:Un w u){b:Nat}{c:Array RB}{t:RO}{f:Nat×Nat}:w.heap[b]? =Ry (.cells c t f)↔u.heap[b]? =Ry (.cells c t f):=by
 constructor
 ·exact fun a=>h.out a (by simp[pz])
 ·intro a;cases e:w.heap[b]? with
  |none=>rw[h.none e] at a;cases a
  |some i=>
   rcases h.at_ b i e with d|⟨_,j,d,g⟩
   ·rw[d] at a;exact a
   ·rw[d] at a;cases a;simp[jk] at g
theorem Un.cases{w u:RD}(h:Un w u)(b:Nat):u.heap[b]? =w.heap[b]? ∨(w.heap[b]? =Ry pz∧∃ x,u.heap[b]? =Ry x∧jk x=RF):=by
 cases c:w.heap[b]? with
 |none=>exact .inl (h.none c)
 |some e=>
  rcases h.at_ b e c with a|⟨rfl,x,a,d⟩
  ·exact .inl a
  ·exact .inr ⟨rfl,x,a,d⟩
theorem Un.cell{w u:RD}(h:Un w u)(a:Sl):u.cell? a=w.cell? a:=by
 unfold R2;rcases h.cases a.block with b|⟨b,e,c,d⟩
 ·rw[b]
 ·rw[b,c];cases e<;>first|rfl|(simp[jk] at d;done)
theorem Un.shape{w u:RD}(h:Un w u)(r:Nat):u.shape? r=w.shape? r:=by
 unfold World.shape?;rcases h.cases r with a|⟨a,d,b,c⟩
 ·rw[a]
 ·rw[a,b];cases d<;>first|rfl|(simp[jk] at c;done)
theorem Un.frozen{w u:RD}(h:Un w u)(a:Sl):u.frozen? a=w.frozen? a:=by
 unfold SH;rcases h.cases a.block with b|⟨b,e,c,d⟩
 ·rw[b]
 ·rw[b,c];cases e<;>first|rfl|(simp[jk] at d;done)
theorem Un.modify{w u:RD}(h:Un w u)(r:Nat)(f:UQ→UQ)(hc:∀ c t z,∃ n x y,f (.cells c t z)= .cells n x y)(l:∀ o,(∀ c t z,o≠.cells c t z)→f o=o):qL w u {w with heap:=w.heap.modify r f} {u with heap:=u.heap.modify r f}:=by
 have q:∀ (h:Array UQ) (e:Nat),(h.modify r f)[e]? =(h[e]?).map fun o=>if r=e then f o else o:=fun h e=>by
  rw[TB]
  split
  ·rename_i a;subst a;simp
  ·rename_i a;simp[a]
 have v:∀ d,jk d=RF→∀ c t z,d≠.cells c t z:=fun d j c t z a=>by rw[a] at j;simp[jk] at j
 refine⟨⟨by simp[h.size],fun e o b=>?_,h.os,h.output⟩,fun e b=>?_⟩
 ·simp only[q] at b ⊢;cases i:w.heap[e]? with
  |none=>rw[i] at b;cases b
  |some g=>
   rw[i] at b;rcases h.at_ e g i with a|⟨rfl,d,a,j⟩
   ·rw[a];exact .inl b
   ·have k:(if r=e then f pz else pz)=pz:=by split<;>first|rfl|exact l pz (fun c t z=>by simp[pz])
    have m:(if r=e then f d else d)=d:=by split<;>first|rfl|exact l d (v d j)
    simp only[TG,k,SY] at b;exact .inr ⟨b.symm,d,by rw[a];simp[m],j⟩
 ·simp only[q] at b ⊢;cases i:w.heap[e]? with
  |none=>rw[i] at b;cases b
  |some g=>
   rw[i] at b;have A:g=pz:=by
    by_cases p:∃ c t z,g= .cells c t z
    ·obtain⟨c,t,z,rfl⟩:=p;obtain⟨n,x,y,a⟩:=hc c t z;simp only[TG,a,SY] at b
     split at b<;>simp[pz] at b
    ·have k:(if r=e then f g else g)=g:=by split<;>first|rfl|exact l g (fun c t z a=>p ⟨c,t,z,a⟩)
     simpa [k] using b
   subst A;refine⟨rfl,?_⟩;rcases h.at_ e pz i with a|⟨_,d,a,j⟩
   ·rw[a];have k:(if r=e then f pz else pz)=pz:=by split<;>first|rfl|exact l pz (fun c t z=>by simp[pz])
    simp[k]
   ·rw[a];have m:(if r=e then f d else d)=d:=by split<;>first|rfl|exact l d (v d j)
    simp[m]
theorem Un.push{w u:RD}(h:Un w u){o:UQ}(d:o≠pz):qL w u {w with heap:=w.heap.push o} {u with heap:=u.heap.push o}:=by
 refine⟨⟨by simp[h.size],fun c e a=>?_,h.os,h.output⟩,fun c a=>?_⟩
 ·simp only[Sp,h.size] at a ⊢
  split
  ·rename_i b;rw[if_pos b] at a;exact .inl a
  ·rename_i b;rw[if_neg b] at a;exact h.at_ c e a
 ·simp only[Sp,h.size] at a ⊢
  split at a
  ·cases a;exact absurd rfl d
  ·rename_i b;rw[if_neg b];exact⟨a,rfl⟩
theorem Un.set{w u:RD}(h:Un w u)(r:Nat){o:UQ}(d:o≠pz):qL w u {w with heap:=w.heap.setIfInBounds r o} {u with heap:=u.heap.setIfInBounds r o}:=by
 refine⟨⟨by simp[h.size],fun c e a=>?_,h.os,h.output⟩,fun c a=>?_⟩
 ·simp only[Ss,h.size] at a ⊢
  split
  ·rename_i b;rw[if_pos b] at a;exact .inl a
  ·rename_i b;rw[if_neg b] at a;exact h.at_ c e a
 ·simp only[Ss,h.size] at a ⊢
  split at a
  ·split at a
   ·cases a;exact absurd rfl d
   ·cases a
  ·rename_i b;rw[if_neg b];exact⟨a,rfl⟩
structure Views(P P':RM):Prop where
 load:∀ (w u:RD) at_ t a m,(∀ c e f,w.heap[(at_:Sl).block]? =Ry (.cells c e f)↔u.heap[at_.block]? =Ry (.cells c e f))→u.viewLoad P' at_ t a m=w.viewLoad P at_ t a m
 touch:∀ (w:RD) at_ t a m v l,w.viewLoad P at_ t a m= .ok (v,l)→∀ x∈l,x.block<w.heap.size
 store:∀ (w u:RD) at_ t a v m,(∀ c e f,w.heap[(at_:Sl).block]? =Ry (.cells c e f)↔u.heap[at_.block]? =Ry (.cells c e f))→(∃ why,w.viewStore P at_ t a v m= .error why∧u.viewStore P' at_ t a v m= .error why)∨∃ c e f l,w.viewStore P at_ t a v m= .ok ({w with heap:=w.heap.setIfInBounds at_.block (.cells c e f)},l)∧u.viewStore P' at_ t a v m= .ok ({u with heap:=u.heap.setIfInBounds at_.block (.cells c e f)},l)∧∀ x∈l,x.block<w.heap.size
def yA (n:Nat)(e:SV):Prop:=match e.loc with
 | .obj b=>b<n
 | .cell a=>a.block<n
 | .mark m=>Conc.Neutral m∨∃ f,m= .extern f
 |_=>True
theorem yA.mono{n m:Nat}(h:n≤m){e:SV}(a:yA n e):yA m e:=by
 unfold yA at*
 split<;>simp_all<;>omega
def My {α:Type}(u:RD):Vb α→Vb α
 | .ok a _=>.ok a u
 | .halt b _=>.halt b u
structure iV{α:Type}(P P':RM)(O:UQ→Prop)(Q:α→Prop)(s:T1 α)(w:RD)(es:Array SV):Prop where
 tape:(rW (s.runT P w es).1).tape=w.tape
 drawn:w.drawn≤(rW (s.runT P w es).1).drawn
 size:w.heap.size≤(rW (s.runT P w es).1).heap.size
 os:(rW (s.runT P w es).1).os=w.os
 output:(rW (s.runT P w es).1).output=w.output
 hp:Hp O (rW (s.runT P w es).1)
 ok:∀ a w',(s.runT P w es).1= .ok a w'→Q a
 halt:∀ h w',(s.runT P w es).1= .halt h w'→od h=RF
 evs:∀ e∈(s.runT P w es).2,e∈es∨yA (rW (s.runT P w es).1).heap.size e
 shift:(∃ y w',(s.runT P w es).1= .halt (.stuck y) w')∨∀ τ d u,Un w u→Al w.tape w.drawn τ d ((rW (s.runT P w es).1).drawn - w.drawn)→∃ u',qL w u (rW (s.runT P w es).1) u'∧s.runT P' (sh τ d u) es=(My (sh τ (d+((rW (s.runT P w es).1).drawn - w.drawn)) u') (s.runT P w es).1,(s.runT P w es).2)
section
variable {α:Type}{P P':RM}{O:UQ→Prop}{Q:α→Prop}{w w1:RD}{es Kq:Array SV}{s s1:T1 α}
theorem iV.cons(n:Nat)(h:iV P P' O Q s1 w1 Kq)(a:s.runT P w es=s1.runT P w1 Kq)(i:w1.tape=w.tape)(l:w1.drawn=w.drawn+n)(r:w.heap.size≤w1.heap.size)(o:w1.os=w.os)(v:w1.output=w.output)
 (A:∀ e∈Kq,e∈es∨yA w1.heap.size e) (f:(∃ y w',(s.runT P w es).1= .halt (.stuck y) w')∨∀ b d u,Un w u→Al w.tape w.drawn b d n→∃ u1,qL w u w1 u1∧s.runT P' (sh b d u) es=s1.runT P' (sh b (d+n) u1) Kq):iV P P' O Q s w es:=by
 have D:=h.drawn;refine⟨by rw[a,h.tape,i],by rw[a];omega,by rw[a];exact R4 r h.size,by rw[a,h.os,o],by rw[a,h.output,v],by rw[a];exact h.hp,by rw[a];exact h.ok,by rw[a];exact h.halt,?_,?_⟩
 ·rw[a];intro e m;rcases h.evs e m with c|c
  ·exact(A e c).imp id (yA.mono h.size)
  ·exact .inr c
 ·rcases f with f|f
  ·exact .inl f
  ·rw[a];rcases h.shift with c|t
   ·exact .inl c
   ·refine .inr fun b d u z g=>?_;have k:(rW (s1.runT P w1 Kq).1).drawn - w.drawn=n+((rW (s1.runT P w1 Kq).1).drawn - w1.drawn):=by omega
    obtain⟨u1,j,p⟩:=f b d u z (g.sub (by omega));obtain⟨u2,x,q⟩:=t b (d+n) u1 j.un (by
     intro B C E;have:=g (n+B) C (by omega);rw[i,l,SL,SL];exact this)
    exact⟨u2,j.trans x,by rw[p,q,k,SL]⟩
theorem iV.ends{x:Halt}(a:s.runT P w es=(.halt x w,es))(j:od x=RF)(i:Hp O w)(c:(∃ y,x= .stuck y)∨∀ b d u,Un w u→s.runT P' (sh b d u) es=(.halt x (sh b d u),es)):iV P P' O Q s w es:=by
 refine⟨by rw[a];rfl,by rw[a];exact RG _,by rw[a];exact RG _,by rw[a];rfl,by rw[a];rfl,by rw[a];exact i,?_,?_,?_,?_⟩
 ·rw[a];intro l k f;cases f
 ·rw[a];intro f k e;cases e;exact j
 ·rw[a];exact fun e h=>.inl h
 ·rw[a];rcases c with⟨y,rfl⟩|c
  ·exact .inl ⟨y,w,rfl⟩
  ·refine .inr fun b d u g _=>⟨u,g.two,?_⟩;rw[c b d u g];simp[My,rW]
end
theorem Hp.push{O:UQ→Prop}{w:RD}(h:Hp O w){o:UQ}(c:O o):Hp O {w with heap:=w.heap.push o}:=by
 intro b d a;simp only[Sp] at a
 split at a
 ·cases a;exact .inl c
 ·exact h b d a
theorem Hp.set{O:UQ→Prop}{w:RD}(h:Hp O w)(r:Nat){o:UQ}(c:O o):Hp O {w with heap:=w.heap.setIfInBounds r o}:=by
 intro b d a;simp only[Ss] at a
 split at a
 ·split at a
  ·cases a;exact .inl c
  ·cases a
 ·exact h b d a
theorem Hp.modify{O:UQ→Prop}(g:Plain O){w:RD}(h:Hp O w)(r:Nat)(f:UQ→UQ)(i:∀ o,f o=o∨∃ c t z,f o= .cells c t z):Hp O {w with heap:=w.heap.modify r f}:=by
 intro d k a;simp only[TB] at a
 split at a
 ·obtain⟨e,j,rfl⟩:=TY.1 a;rcases i e with b|⟨c,t,z,b⟩
  ·rw[b];exact h d e j
  ·rw[b];exact .inl (g.cells c t z)
 ·exact h d k a
theorem Hp.sh{O:UQ→Prop}{w:RD}(h:Hp O w)(a:Tp)(d:Nat):Hp O (sh a d w):=h
theorem rH{O:UQ→Prop}(d:Plain O){w:RD}(h:Hp O w){a:Sl}(e:∀ x t,w.heap[a.block]? ≠Ry (.view x t))(s:String):w.noCell a s= .stuck s:=by
 unfold Um
 split
 ·rename_i c t b;exact(h _ _ b).elim (fun h=>absurd h (d.pending _ _)) (fun h=>by cases h)
 ·rename_i c t b;exact absurd b (e _ _)
 ·rfl
theorem lN{n:Nat}{es:Array SV}{e:SV}(b:yA n e):∀ x∈es.push e,x∈es∨yA n x:=fun x c=>by
 rcases Array.mem_push.1 c with a|rfl
 ·exact .inl a
 ·exact .inr b
theorem FZ{w:RD}{a:Sl}{v:RB}(h:w.cell? a=Ry v):a.block<w.heap.size:=by
 unfold R2 at h;cases b:w.heap[a.block]? with
 |none=>rw[b] at h;cases h
 |some c=>exact(RH.1 b).1
theorem Un.setCell{w u:RD}(h:Un w u)(a:Sl)(v:RB):qL w u (w.setCell a v) (u.setCell a v):=by
 unfold Vn;refine h.modify _ _ (fun d e f=>⟨_,_,_,rfl⟩) fun c b=>?_;cases c<;>first|rfl|exact absurd rfl (b _ _ _)
theorem Un.freeze{w u:RD}(h:Un w u)(a:Sl)(n:Nat):qL w u (w.freeze a n) (u.freeze a n):=by
 unfold Tw
 split
 ·exact h.two
 ·refine h.modify _ _ (fun d e f=>⟨_,_,_,rfl⟩) fun c b=>?_;cases c<;>first|rfl|exact absurd rfl (b _ _ _)
theorem yq(w:RD)(a:Sl):(∃ x t,w.heap[a.block]? =Ry (.view x t))∨∀ x t,w.heap[a.block]? ≠Ry (.view x t):=by
 by_cases b:∃ x t,w.heap[a.block]? =Ry (.view x t)
 ·exact .inl b
 ·exact .inr fun x t c=>b ⟨x,t,c⟩
theorem rA{w:RD}{a x:Sl}{t:RO}(h:w.heap[a.block]? =Ry (.view x t))(R:RM)(m:Bool):w.farLoad R a m=match w.viewLoad R x t a m with| .ok r=>.ok r| .error b=>.error (.unsupported (.unsafePointer b)):=by
 unfold Vm;rw[h];rfl
theorem jP{w:RD}{a x:Sl}{t:RO}(h:w.heap[a.block]? =Ry (.view x t))(R:RM)(v:RB)(m:Bool):w.farStore R a v m=match w.viewStore R x t a v m with| .ok r=>.ok r| .error b=>.error (.unsupported (.unsafePointer b)):=by
 unfold UU;rw[h];rfl
theorem AO {w:RD} {a:Sl} (h:∀ x t,w.heap[a.block]? ≠Ry (.view x t)) (R:RM) (m:Bool):w.farLoad R a m= .error (w.noCell a "load: no such cell"):=by
 unfold Vm
 split
 ·rename_i b;exact absurd b (h _ _)
 ·rfl
theorem yO {w:RD} {a:Sl} (h:∀ x t,w.heap[a.block]? ≠Ry (.view x t)) (R:RM) (v:RB) (m:Bool):w.farStore R a v m= .error (w.noCell a "store: no such cell"):=by
 unfold UU
 split
 ·rename_i b;exact absurd b (h _ _)
 ·rfl
theorem FW{n:Nat}{es a:Array SV}(b:∀ e∈a,yA n e):∀ x∈es ++ a,x∈es∨yA n x:=fun x c=>(Array.mem_append.1 c).imp id (b x)
theorem Lv{α:Type}{P P':RM}{O:UQ→Prop}(L:Plain O)(ab:Views P P'){Q:α→Prop}(s:T1 α):∀ (w:RD) (es:Array SV),Still P P' O Q s→Hp O w→iV P P' O Q s w es:=by
 induction s with
 |pure c=>
  intro w es i g;refine⟨rfl,RG _,RG _,rfl,rfl,g,fun a1 j n=>?_,fun n j h=>by simp[SE] at h,fun h am=>.inl am,.inr fun e d a b _=>⟨a,b.two,?_⟩⟩
  ·simp only[SE] at n;cases n;exact i
  ·simp[SE,My,rW]
 |load m c p u=>
  intro w es i g;cases q:w.cell? c with
  |some v=>
   have T:=FZ q;exact(u v w (es.push ⟨.cell c,RE,m == .atomic⟩) (i v) g).cons 0 (by simp only[SE,q]) rfl rfl (RG _) rfl rfl (lN (by simpa [yA] using T)) (.inr fun e d a b _=>⟨a,b.two,by
    have z:(sh e d a).cell? c=Ry v:=(b.cell c).trans q;simp only[SE,z];rfl⟩)
  |none=>
   rcases yq w c with⟨l,o,B⟩|B
   ·cases I:w.viewLoad P l o c (m == .atomic) with
    |ok ba=>
     obtain⟨v,M⟩:=ba;have t:∀ (K:RM) (j:RD),j.cell? c=RA→j.heap[c.block]? =Ry (.view l o)→j.viewLoad K l o c (m == .atomic)= .ok (v,M)→(Sem.load m c p).runT K j es=(p v).runT K j (es ++ M.toArray.map (⟨.cell ·,RE,m == .atomic⟩)):=by
      intro K j W X al;simp only[SE,W,rA X,al]
     refine(u v w _ (i v) g).cons 0 (t P w q B I) rfl rfl (RG _) rfl rfl (FW fun h am=>?_) (.inr fun e d a b _=>⟨a,b.two,t P' (sh e d a) ((b.cell c).trans q) (b.out B (by simp[pz])) ?_⟩)
     ·obtain⟨D,S,rfl⟩:=Array.mem_map.1 am;exact ab.touch w l o c _ v M I D (by simpa using S)
     ·rw[← I];exact ab.load w (sh e d a) l o c _ fun r h f=>b.row
    |error ad=>
     have t:∀ (K:RM) (j:RD),j.cell? c=RA→j.heap[c.block]? =Ry (.view l o)→j.viewLoad K l o c (m == .atomic)= .error ad→(Sem.load m c p).runT K j es=(.halt (.unsupported (.unsafePointer ad)) j,es):=by
      intro K j W X al;simp only[SE,W,rA X,al]
     exact iV.ends (t P w q B I) rfl g (.inr fun e d a b=>t P' (sh e d a) ((b.cell c).trans q) (b.out B (by simp[pz])) (by rw[← I];exact ab.load w (sh e d a) l o c _ fun r h f=>b.row))
   ·exact iV.ends (x:=.stuck "load: no such cell") (by simp only[SE,q,AO B,rH L g B]) rfl g (.inl ⟨_,rfl⟩)
 |store m c v p u=>
  intro w es i g;have a9:(∀ l,v≠.agg l)→(∀ l,v≠.tuple l)→iV P P' O Q (.store m c v p) w es:=by
   intro W X;have t:∀ (P:RM) (j:RD),(Sem.store m c v p).runT P j es=(match j.cell? c with
    |some _=>if j.frozen? c then(.halt (.unsupported (.unsafePointer "a write to bytes that a string shares")) j,es) else p.runT P (j.setCell c v) (es.push ⟨.cell c,RF,m == .atomic⟩)
    |none=>match j.farStore P c v (m == .atomic) with
     | .ok (bc,bb)=>p.runT P bc (es ++ bb.toArray.map (⟨.cell ·,RF,m == .atomic⟩))
     | .error n=>(.halt n j,es)):=by
    intro P j;cases v<;>first|exact absurd rfl (W _)|exact absurd rfl (X _)|rfl
   cases q:w.cell? c with
   |some l=>
    by_cases H:w.frozen? c=RF
    ·refine iV.ends (x:=.unsupported (.unsafePointer "a write to bytes that a string shares")) (by rw[t,q];simp only[H,if_true]) rfl g (.inr fun e d a b=>?_);have z:(sh e d a).cell? c=Ry l:=(b.cell c).trans q;have ao:(sh e d a).frozen? c=RF:=(b.frozen c).trans H;rw[t,z];simp only[ao,if_true]
    ·have Y:Hp O (w.setCell c v):=by
      unfold Vn;refine g.modify L _ _ fun k=>?_;cases k<;>first|exact .inl rfl|exact .inr ⟨_,_,_,rfl⟩
     refine(u (w.setCell c v) (es.push ⟨.cell c,RF,m == .atomic⟩) i Y).cons 0 (by rw[t,q];simp only[H,if_false];rfl) rfl rfl (by simp[Vn]) rfl rfl (lN (by simpa [yA,Vn] using FZ q)) (.inr fun e d a b _=>⟨a.setCell c v,b.setCell c v,?_⟩);have z:(sh e d a).cell? c=Ry l:=(b.cell c).trans q;have ao:¬ (sh e d a).frozen? c=RF:=fun h=>H ((b.frozen c).symm.trans h);rw[t,z];simp only[ao,if_false];rfl
   |none=>
    rcases yq w c with⟨l,o,B⟩|B
    ·have N:=fun a (b:Un w a)=>ab.store w a l o c v (m == .atomic) fun r h f=>b.row;rcases N w (Un.refl w) with⟨ad,C,-⟩|⟨r,h,f,M,C,-,I⟩
     ·refine iV.ends (x:=.unsupported (.unsafePointer ad)) (by rw[t,q];simp only[jP B,C]) rfl g (.inr fun e d a b=>?_);have z:(sh e d a).cell? c=RA:=(b.cell c).trans q;have ar:(sh e d a).heap[c.block]? =Ry (.view l o):=b.out B (by simp[pz]);rcases N (sh e d a) ⟨b.size,b.at_,b.os,b.output⟩ with⟨bd,E,Z⟩|⟨r,h,f,M,E,-⟩
      ·rw[C] at E;cases E;rw[t,z];simp only[jP ar,Z]
      ·rw[C] at E;cases E
     ·have Y:Hp O {w with heap:=w.heap.setIfInBounds l.block (.cells r h f)}:=g.set _ (L.cells _ _ _);refine(u {w with heap:=w.heap.setIfInBounds l.block (.cells r h f)} (es ++ M.toArray.map (⟨.cell ·,RF,m == .atomic⟩)) i Y).cons 0 (by rw[t,q];simp only[jP B,C]) rfl rfl (by simp) rfl rfl (FW fun D S=>?_) (.inr fun e d a b _=>?_)
      ·obtain⟨y,a8,rfl⟩:=Array.mem_map.1 S;have:=I y (by simpa using a8);simpa [yA] using this
      ·have z:(sh e d a).cell? c=RA:=(b.cell c).trans q;have ar:(sh e d a).heap[c.block]? =Ry (.view l o):=b.out B (by simp[pz]);rcases N (sh e d a) ⟨b.size,b.at_,b.os,b.output⟩ with⟨bd,E,Z⟩|⟨a2,a3,a4,be,E,Z,-⟩
       ·rw[C] at E;cases E
       ·rw[C] at E;have aw:=Except.ok.inj E;simp only[Prod.mk.injEq] at aw;obtain⟨a5,rfl⟩:=aw;refine⟨{a with heap:=a.heap.setIfInBounds l.block (.cells a2 a3 a4)},?_,?_⟩
        ·rw[a5];exact b.set l.block (by simp[pz])
        ·rw[t,z];simp only[jP ar,Z];rfl
    ·exact iV.ends (x:=.stuck "store: no such cell") (by rw[t,q];simp only[yO B,rH L g B]) rfl g (.inl ⟨_,rfl⟩)
  cases v with
  |agg l=>exact iV.ends (x:=.stuck "store: not the value of one cell") rfl rfl g (.inl ⟨_,rfl⟩)
  |tuple l=>exact iV.ends (x:=.stuck "store: not the value of one cell") rfl rfl g (.inl ⟨_,rfl⟩)
  |_=>exact a9 (fun l n=>by cases n) (fun l n=>by cases n)
 |new k p u=>
  intro w es i g;have U:k≠pz:=fun h=>L.OZ (h▸i.1);exact(u w.heap.size {w with heap:=w.heap.push k} es (i.2 _) (g.push i.1)).cons 0 rfl rfl rfl (by simp) rfl rfl (fun h n=>.inl n) (.inr fun e d a b _=>⟨{a with heap:=a.heap.push k},b.push U,by
   show(p a.heap.size).runT P' _ es=_;rw[b.size];rfl⟩)
 |shape x p u=>intro w es i g;exact(u (w.shape? x) w es (i _) g).cons 0 rfl rfl rfl (RG _) rfl rfl (fun h n=>.inl n) (.inr fun e d a b _=>⟨a,b.two,by
  show(p (a.shape? x)).runT P' (sh e d a) es=_;rw[b.shape];rfl⟩)
 |freeze c F p u=>
  intro w es i g;have Y:Hp O (w.freeze c F):=by
   unfold Tw
   split
   ·exact g
   ·refine g.modify L _ _ fun k=>?_;cases k<;>first|exact .inl rfl|exact .inr ⟨_,_,_,rfl⟩
  have C:(w.freeze c F).tape=w.tape∧(w.freeze c F).drawn=w.drawn∧(w.freeze c F).heap.size=w.heap.size∧(w.freeze c F).os=w.os∧(w.freeze c F).output=w.output:=by
   unfold Tw;split<;>simp
  exact(u (w.freeze c F) es i Y).cons 0 rfl C.1 C.2.1 (by rw[C.2.2.1];exact RG _) C.2.2.2.1 C.2.2.2.2 (fun h n=>.inl n) (.inr fun e d a b _=>⟨a.freeze c F,b.freeze c F,by
   have:(sh e d a).freeze c F=sh e d (a.freeze c F):=by unfold Tw;split<;>rfl
   simp only[SE,this];rfl⟩)
 |frozen c p u=>intro w es i g;exact(u (w.frozen? c) w es (i _) g).cons 0 rfl rfl rfl (RG _) rfl rfl (fun h n=>.inl n) (.inr fun e d a b _=>⟨a,b.two,by
  show(p (a.frozen? c)).runT P' (sh e d a) es=_;rw[b.frozen];rfl⟩)
 |getObj x p u=>
  intro w es i g;cases A:w.heap[x]? with
  |none=>exact iV.ends (x:=.stuck "getObj: no such block") (by simp only[SE,A]) rfl g (.inl ⟨_,rfl⟩)
  |some k=>
   have T:x<w.heap.size:=(RH.1 A).1;by_cases q:∃ r o y,k= .cells r o y
   ·obtain⟨r,o,y,rfl⟩:=q;exact iV.ends (x:=.stuck "getObj: a row of cells") (by simp only[SE,A]) rfl g (.inl ⟨_,rfl⟩)
   ·have t:∀ (P:RM) (j:RD) (k:UQ),(∀ r o y,k≠.cells r o y)→j.heap[x]? =Ry k→(Sem.getObj x p).runT P j es=(p k).runT P j (es.push ⟨.obj x,RE,k.isChan⟩):=by
     intro P j k q ae;cases k<;>first|exact absurd rfl (q _ _ _)|simp only[SE,ae]
    have z:∀ r o y,k≠.cells r o y:=fun r o y h=>q ⟨r,o,y,h⟩;have N:Still P P' O Q (p k)∨∃ D,p k= .halt (.stuck D):=by
     rcases g x k A with n|rfl
     ·exact .inl (i.1 k n)
     ·rcases i.2 with⟨D,n⟩|⟨n,-⟩
      ·exact .inr ⟨D,n⟩
      ·obtain⟨M,I⟩:=L.loop;exact .inl (by rw[← n M];exact i.1 _ I)
    rcases N with N|⟨D,S⟩
    ·refine(u k w _ N g).cons 0 (t P w k z A) rfl rfl (RG _) rfl rfl (lN (by simpa [yA] using T)) ?_;by_cases U:k=pz
     ·subst U;by_cases a0:∃ D,p pz= .halt (.stuck D)
      ·obtain⟨D,S⟩:=a0;exact .inl ⟨D,w,by rw[t P w pz z A,S];rfl⟩
      ·refine .inr fun e d a b _=>⟨a,b.two,?_⟩;rcases b.at_ x pz A with h|⟨_,l,h,R⟩
       ·exact t P' (sh e d a) pz z h
       ·rw[t P' (sh e d a) l (fun r o y h=>by rw[h] at R;simp[jk] at R) h,(i.2.QW R).resolve_left a0];cases l<;>first|rfl|(simp[jk] at R;done)
     ·exact .inr fun e d a b _=>⟨a,b.two,t P' (sh e d a) k z (b.out A U)⟩
    ·have G:(Sem.getObj x p).runT P w es=(.halt (.stuck D) w,es.push ⟨.obj x,RE,k.isChan⟩):=by rw[t P w k z A,S];rfl
     refine⟨by rw[G];rfl,by rw[G];exact RG _,by rw[G];exact RG _,by rw[G];rfl,by rw[G];rfl,by rw[G];exact g,?_,?_,?_,.inl ⟨D,w,by rw[G]⟩⟩
     ·rw[G];intro c j n;cases n
     ·rw[G];intro n j h;cases h;rfl
     ·rw[G];exact lN (n:=w.heap.size) (by simpa [yA] using T)
 |setObj x k p u=>
  intro w es i g;cases A:w.heap[x]? with
  |none=>exact iV.ends (x:=.stuck "setObj: no such block") (by simp only[SE,A]) rfl g (.inl ⟨_,rfl⟩)
  |some J=>
   have T:x<w.heap.size:=(RH.1 A).1;by_cases q:∃ r o y,J= .cells r o y
   ·obtain⟨r,o,y,rfl⟩:=q;exact iV.ends (x:=.stuck "setObj: a row of cells") (by simp only[SE,A]) rfl g (.inl ⟨_,rfl⟩)
   ·have t:∀ (P:RM) (j:RD) (J:UQ),(∀ r o y,J≠.cells r o y)→j.heap[x]? =Ry J→(Sem.setObj x k p).runT P j es=p.runT P {j with heap:=j.heap.setIfInBounds x k} (es.push ⟨.obj x,RF,k.isChan⟩):=by
     intro P j J q ae;cases J<;>first|exact absurd rfl (q _ _ _)|simp only[SE,ae]
    have U:k≠pz:=fun h=>L.OZ (h▸i.1);refine(u {w with heap:=w.heap.setIfInBounds x k} _ i.2 (g.set x i.1)).cons 0 (t P w J (fun r o y h=>q ⟨r,o,y,h⟩) A) rfl rfl (by simp) rfl rfl (lN (by simpa [yA] using T)) (.inr fun e d a b _=>⟨{a with heap:=a.heap.setIfInBounds x k},b.set x U,?_⟩);rcases b.at_ x J A with h|⟨_,l,h,R⟩
    ·exact t P' (sh e d a) J (fun r o y h=>q ⟨r,o,y,h⟩) h
    ·exact t P' (sh e d a) l (fun r o y h=>by rw[h] at R;simp[jk] at R) h
 |choose V p u=>
  intro w es i g;by_cases H:V.forced=RF
  ·exact(u 0 w es (i _) g).cons 0 (by simp only[SE,H,if_true]) rfl rfl (RG _) rfl rfl (fun h n=>.inl n) (.inr fun e d a b _=>⟨a,b.two,by simp only[SE,H,if_true];rfl⟩)
  ·refine(u (V.cut (w.tape w.drawn V)) {w with drawn:=w.drawn+1} es (i _) g).cons 1 (by simp only[SE,H,if_false];rfl) rfl rfl (RG _) rfl rfl (fun h n=>.inl n) (.inr fun e d a b a6=>⟨a,⟨⟨b.size,b.at_,b.os,b.output⟩,fun a1 a7=>⟨a7,rfl⟩⟩,?_⟩);have:=a6 0 V (by omega);simp only[Nat.add_zero] at this;simp only[SE,H,if_false];have h:(sh e d a).tape (sh e d a).drawn V=w.tape w.drawn V:=this;rw[h];rfl
 |sys r p u=>
  intro w es i g;obtain⟨rfl,i⟩:=i;exact(u (.strings w.os.env) w (es.push ⟨.output,RF,RE⟩) (i _) g).cons 0 rfl rfl rfl (RG _) rfl rfl (lN (by simp[yA])) (.inr fun e d a b _=>⟨a,b.two,by
   show(p (.strings a.os.env)).runT P' (sh e d a) _=_;rw[b.os];rfl⟩)
 |program p u=>
  intro w es i g;exact(u P w es i.2 g).cons 0 rfl rfl rfl (RG _) rfl rfl (fun h n=>.inl n) (.inr fun e d a b _=>⟨a,b.two,by
   show(p P').runT P' (sh e d a) es=_;rw[← i.1];rfl⟩)
 |mark m p u=>intro w es i g;exact(u w _ i.2 g).cons 0 rfl rfl rfl (RG _) rfl rfl (lN i.1) (.inr fun e d a b _=>⟨a,b.two,rfl⟩)
 |halt l=>intro w es i g;exact iV.ends (x:=l) rfl i g (.inr fun e d a b=>rfl)
structure Twin(P P':RM):Prop where
 info:∀ t,P'.info? t=P.info? t
 so:∀ t,P'.underlying t=P.underlying t
 rt:P'.rt=P.rt
 cells:∀ t,P'.cellsOf t=P.cellsOf t
 bytes:∀ t,P'.bytesOf t=P.bytesOf t
 depth:P'.depth=P.depth
 nt:∀ d e c o u n,liesAt P' d e c o u n=liesAt P d e c o u n
 cellAt:∀ d e c o b,cellAtBytes P' d e c o b=cellAtBytes P d e c o b
 AD:∀ d t o,byteOfCell P' d t o=byteOfCell P d t o
 QC:∀ d t,P'.eqGuardType d t=P.eqGuardType d t
 Gz:∀ t,P'.stoodInHeld t=P.stoodInHeld t
 Lb:∀ d t,P'.holdsPacked d t=P.holdsPacked d t
 wD:P'.globals=P.globals
 godebug:P'.godebug=P.godebug
 Rk:P'.types=P.types
 OP:∀ f:Nat,P'.funcs[f]? =P.funcs[f]? ∨∃ fn fn':Uj,P.funcs[f]? =Ry fn∧P'.funcs[f]? =Ry fn'∧fn'.name=fn.name∧fn.body.isNone=RE∧fn'.body.isNone=RE
section
variable {P P':RM}{O:UQ→Prop}{α β:Type}
abbrev St(P P':RM)(O:UQ→Prop)(s:T1 α):Prop:=Still P P' O (fun _=>True) s
theorem gU{Q:α→Prop}{R:β→Prop}{s:T1 α}{f:α→T1 β}(c:Still P P' O Q s)(b:∀ a,Q a→Still P P' O R (f a)):Still P P' O R (s >>= f):=Still.bind P P' O b c
theorem af{R:β→Prop}{s:T1 α}{f:α→T1 β}(c:St P P' O s)(b:∀ a,Still P P' O R (f a)):Still P P' O R (s >>= f):=Still.bind P P' O (fun a _=>b a) c
theorem bI{Q:α→Prop}{c:Prop} [Decidable c]{s t:T1 α}(a:Still P P' O Q s)(b:Still P P' O Q t):Still P P' O Q (if c then s else t):=by split<;>assumption
theorem Q5{Q:α→Prop}{s:T1 α}(a:Still P P' O Q s):St P P' O s:=a.mono P P' O (fun _ _=>trivial)
theorem bX{Q:α→Prop}{f:RM→T1 α}(h:f P=f P')(a:Still P P' O Q (f P)):Still P P' O Q (program >>= f):=⟨h,a⟩
theorem au{Q:α→Prop}(s:String):Still P P' O Q (stuck s):=rfl
theorem aT{Q:α→Prop}(u:Unsupported)(h:od (.unsupported u)=RF):Still P P' O Q (unsupported u):=h
theorem nO{Q:α→Prop}(v:RB):Still P P' O Q (goPanic v):=rfl
theorem rU(a:Sl)(m:Mode):St P P' O (load a m):=fun _=>trivial
theorem LU(a:Sl)(v:RB)(m:Mode):St P P' O (store a v m):=trivial
theorem fW(r:Nat):St P P' O (shape r):=fun _=>trivial
theorem tI(a:Sl):St P P' O (frozen a):=fun _=>trivial
theorem z9(a:Sl)(n:Nat):St P P' O (freeze a n):=trivial
theorem cC(q:Question):St P P' O (choose q):=fun _=>trivial
theorem iL{R:β→Prop}(r:Nat){f:UQ→T1 β}(a:∀ o,O o→Still P P' O R (f o))(b:Gx f):Still P P' O R (getObj r >>= f):=⟨a,b⟩
theorem oH{f:UQ→T1 β}{s:String}(h:f pz= .halt (.stuck s)):Gx f:=.inl ⟨s,h⟩
theorem F7{f:UQ→T1 β}(h1:∀ r,f (.loop r)=f pz)(a:∀ d,f (.deferred d)=f pz)(b:∀ c t,f (.pending c t)=f pz)(e:∀ x,f (.coro x)=f pz):Gx f:=.inr ⟨h1,a,b,e⟩
theorem k5(r:Nat){o:UQ}(h:O o):St P P' O (setObj r o):=⟨h,trivial⟩
theorem kZ{o:UQ}(h:O o):St P P' O (newObj o):=⟨h,fun _=>trivial⟩
theorem Ac:St P P' O (mark .noRoom):=⟨.inl rfl,trivial⟩
theorem xS(n:Nat):St P P' O (askRoom n):=by unfold askRoom;split;exact Ac;exact trivial
theorem nL(v:RB):St P P' O (asIntOf v):=by unfold asIntOf;split<;>first|exact trivial|exact au _|exact rfl
theorem ki(v:RB):St P P' O (asInt v):=af (nL v) (fun _=>trivial)
theorem tE(v:RB):St P P' O (asBool v):=by unfold asBool;split<;>first|exact trivial|exact au _
theorem oX(v:RB):St P P' O (asString v):=by unfold asString;split<;>first|exact trivial|exact au _
theorem xR(v:RB):St P P' O (asAgg v):=by unfold asAgg;split<;>first|exact trivial|exact au _
theorem bD(a:Twin P P')(t:RO):St P P' O (UE t):=by
 unfold UE;refine bX (by rw[a.info]) ?_
 split
 ·exact trivial
 ·exact au _
theorem aC(a:Twin P P')(t:RO):St P P' O (UK t):=by
 unfold UK;refine bX (by rw[a.so]) ?_
 split
 ·exact trivial
 ·exact au _
theorem eO(a:Twin P P')(t:RO):St P P' O (TO t):=by
 unfold TO;refine af (bD a t) fun b=>?_
 split
 ·exact trivial
 ·exact aT _ rfl
theorem bH(a:Twin P P')(t:RO):St P P' O (VH t):=af (bD a t) (fun _=>trivial)
theorem Dx(a:Twin P P')(t:RO):St P P' O (isAgg t):=by
 unfold isAgg;refine af (aC a t) fun b=>?_
 split<;>exact trivial
theorem qY(a:Twin P P')(t:RO):St P P' O (typeStr t):=by
 unfold typeStr;refine af (bD a t) fun b=>?_;dsimp only
 split
 ·exact aT _ rfl
 ·exact trivial
theorem tG(a:Twin P P')(t:RO):St P P' O (elemOf t):=by
 unfold elemOf;refine af (aC a t) fun b=>?_
 split
 ·exact trivial
 ·exact au _
theorem m0(a:Sl):∀ (n i:Nat) (b:Array RB),St P P' O (loadCellsFrom a i n b)
 |0,i,b=>trivial
 |n+1,i,b=>af (rU _ _) (fun v=>m0 a n (i+1) (b.push v))
theorem nP(a:Sl)(n:Nat):St P P' O (loadCells a n):=m0 a n 0 #[]
theorem iB(a:Sl):∀ (vs:List RB) (i:Nat),St P P' O (storeCells a vs i)
 | [],i=>trivial
 |v :: b,i=>af (LU _ _ _) (fun _=>iB a b (i+1))
theorem iT(a:Plain O)(e:RO)(c:Array RB):St P P' O (newRow e c):=af (kZ (a.cells c e (0,0))) (fun _=>trivial)
theorem Ab(a:Plain O)(e:RO)(v:RB):St P P' O (newVar e v):=iT a e v.cells
theorem gh(a:Twin P P')(t:RO)(cs:Array RB)(off:Nat):St P P' O (part t cs off):=by
 unfold part;refine af (Dx a t) fun b=>?_
 split
 ·exact af (bH a t) fun _=>trivial
 ·split
  ·exact trivial
  ·exact au _
theorem nQ(b:Twin P P')(t:RO)(a:Sl):St P P' O (loadVar t a):=by
 unfold loadVar;refine af (Dx b t) fun c=>?_
 split
 ·exact af (bH b t) fun _=>af (nP _ _) fun _=>trivial
 ·exact rU _ _
theorem uE(b:Twin P P')(t:RO)(a:Sl)(v:RB):St P P' O (storeVar t a v):=by
 unfold storeVar;refine af (bH b t) fun c=>?_;dsimp only
 split
 ·exact af (au _) fun _=>iB _ _ _
 ·exact iB _ _ _
theorem bE(a:Twin P P')(b:Plain O){Q:α→Prop}(e:RuntimeError):Still P P' O Q (runtimePanic e):=by
 unfold runtimePanic;refine bX ?_ ?_
 ·dsimp only;rw[a.rt];cases e<;>first|rfl|(simp only[typeHandle,a.wD])
 ·dsimp only;cases e with
  |typeAssertion f d c m=>exact af (tG a _) fun _=>af (Ab b _ _) fun _=>nO _
  |panicNil=>exact af (tG a _) fun _=>af (Ab b _ _) fun _=>nO _
  |_=>exact nO _
theorem mZ(b:Twin P P')(a:Plain O)(v:RB):St P P' O (asAddr v):=by
 unfold asAddr
 split
 ·exact trivial
 ·exact bE b a _
 ·exact au _
theorem lS(b:Twin P P')(a:Plain O){Q:α→Prop}(k:T3)(x y:Int)(c:BoundsCode):Still P P' O Q (boundsPanic k x y c):=by
 unfold boundsPanic;dsimp only
 split
 ·exact af (af (cC _) fun _=>trivial) fun _=>bE b a _
 ·exact af trivial fun _=>bE b a _
theorem Ae(b:Twin P P')(a:Plain O)(r:Nat):St P P' O (viewAt r):=by unfold viewAt;((try dsimp only);repeat' first|exact fW _|(refine iL _ (fun _ _=>?_) ?_)|exact F7 (fun _=>rfl) (fun _=>rfl) (fun _ _=>rfl) (fun _=>rfl)|assumption|(refine af ?_ (fun _=>?_))|(refine bI ?_ ?_)|intro _|split|(dsimp only)|exact trivial)
theorem uC(b:Twin P P')(a:Plain O)(r:Nat):St P P' O (numberAt r):=by unfold numberAt;((try dsimp only);repeat' first|exact fW _|(refine iL _ (fun _ _=>?_) ?_)|exact F7 (fun _=>rfl) (fun _=>rfl) (fun _ _=>rfl) (fun _=>rfl)|assumption|(refine af ?_ (fun _=>?_))|(refine bI ?_ ?_)|intro _|split|(dsimp only)|exact trivial)
theorem dH(b:Twin P P')(a:Plain O)(n:Sl):St P P' O (T7 n):=by unfold T7;((try dsimp only);repeat' first|exact uC b a _|assumption|(refine af ?_ (fun _=>?_))|intro _|split|(dsimp only)|exact trivial)
theorem Ad(c:Twin P P')(b:Plain O)(a:Sl):St P P' O (noView a):=by unfold noView;((try dsimp only);repeat' first|(refine aT _ ?_;rfl)|exact Ae c b _|assumption|(refine af ?_ (fun _=>?_))|(refine bI ?_ ?_)|intro _|split|(dsimp only)|exact trivial)
theorem m6(c:Twin P P')(b:Plain O)(a:Sl):St P P' O (markStringish a):=by unfold markStringish;((try dsimp only);repeat' first|exact fW _|exact z9 _ _|assumption|(refine af ?_ (fun _=>?_))|intro _|split|(dsimp only)|exact trivial)
theorem Bx(c:Twin P P')(b:Plain O)(a:Sl):St P P' O (stringish a):=by unfold stringish;((try dsimp only);repeat' first|exact fW _|exact tI _|assumption|(refine af ?_ (fun _=>?_))|(refine bI ?_ ?_)|intro _|split|(dsimp only)|exact trivial)
theorem Dz(d:Twin P P')(c:Plain O)(a b:Sl):St P P' O (mayBeOne a b):=by unfold mayBeOne;((try dsimp only);repeat' first|exact fW _|exact Bx d c _|assumption|(refine af ?_ (fun _=>?_))|intro _|split|(dsimp only)|exact trivial)
theorem uD(d:Twin P P')(c:Plain O)(a b:Sl):St P P' O (sameAddr a b):=by unfold sameAddr;((try dsimp only);repeat' first|exact tI _|exact cC _|(refine aT _ ?_;rfl)|exact Dz d c _ _|exact Ad d c _|assumption|(refine af ?_ (fun _=>?_))|(refine bI ?_ ?_)|intro _|split|(dsimp only)|exact trivial)
theorem ya(d:Twin P P')(c:Plain O)(a b:Option Sl):St P P' O (samePointer a b):=by unfold samePointer;((try dsimp only);repeat' first|exact uD d c _ _|assumption|intro _|split|(dsimp only)|exact trivial)
theorem pS(b:Twin P P')(c:Plain O)(a:Sl):St P P' O (byteOf a):=by
 unfold byteOf;dsimp only
 split
 ·exact trivial
 ·refine bX (by simp only[b.cells,b.bytes,b.AD,b.depth]) ?_
  ((try dsimp only);repeat' first|exact au _|exact fW _|exact Ad b c _|assumption|(refine af ?_ (fun _=>?_))|(refine bI ?_ ?_)|intro _|split|(dsimp only)|exact trivial)
theorem Je(e:Twin P P')(d:Plain O)(a:Sl)(c b:Nat):St P P' O (partAt a c b):=by unfold partAt;((try dsimp only);repeat' first|exact pS e d _|assumption|(refine af ?_ (fun _=>?_))|intro _|split|(dsimp only)|exact trivial)
theorem qD(b:Twin P P')(c:Plain O)(a:Sl)(f:Field):St P P' O (fieldPlace a f):=by unfold fieldPlace;((try dsimp only);repeat' first|exact bH b _|exact Je b c _ _ _|assumption|(refine af ?_ (fun _=>?_))|(refine bI ?_ ?_)|intro _|split|(dsimp only)|exact trivial)
theorem yd(b:Twin P P')(c:Plain O)(a:Sl)(u:RO)(n:Nat):St P P' O (variablesAt a u n):=by
 unfold variablesAt;refine bX (by simp only[b.cells,b.nt,b.depth]) ?_
 ((try dsimp only);repeat' first|exact fW _|assumption|(refine af ?_ (fun _=>?_))|intro _|split|(dsimp only)|exact trivial)
theorem Bt(e:Twin P P')(d:Plain O)(a:Sl)(b:ByteArray)(n:Nat):St P P' O (loadBytes a b n):=by
 induction n generalizing a b with
 |zero=>exact trivial
 |succ n c=>unfold loadBytes;((try dsimp only);repeat' first|exact au _|exact rU _ _|exact c _ _|assumption|(refine af ?_ (fun _=>?_))|intro _|split|(dsimp only)|exact trivial)
theorem Bs{γ:Type}{f:α→γ→T1 (ForInStep γ)}:∀ (l:List α) (b:γ),(∀ x b,St P P' O (f x b))→St P P' O (forIn l b f)
 | [],b,a=>by simp only[List.forIn_nil];exact trivial
 |x :: l,b,a=>by
  simp only[List.forIn_cons];refine af (a x b) fun s=>?_;cases s with
  |done b=>exact trivial
  |yield b=>exact Bs l b a
theorem nN{γ:Type}{f:α→γ→T1 (ForInStep γ)}(l:Array α)(b:γ)(h:∀ x b,St P P' O (f x b)):St P P' O (forIn l b f):=by
 rw[← Array.forIn_toList];exact Bs _ _ h
theorem pV{γ:Type}{f:Nat→γ→T1 (ForInStep γ)}(n:Nat)(b:γ)(h:∀ x b,St P P' O (f x b)):St P P' O (forIn [0:n] b f):=by
 rw[S9];exact Bs _ _ h
theorem Gw(g:α→T1 β):∀ (l:List α),(∀ x,St P P' O (g x))→St P P' O (l.mapM g)
 | [],a=>by rw[List.mapM_nil];exact trivial
 |x :: l,a=>by
  rw[List.mapM_cons];exact af (a x) fun _=>af (Gw g l a) fun _=>trivial
theorem Gv(g:α→T1 β)(l:Array α)(h:∀ x,St P P' O (g x)):St P P' O (l.mapM g):=by
 rw[Array.mapM_eq_mapM_toList];exact af (Gw g _ h) fun _=>trivial
theorem Du{γ:Type}(g:γ→α→T1 γ):∀ (l:List α) (b:γ),(∀ b x,St P P' O (g b x))→St P P' O (l.foldlM g b)
 | [],b,a=>trivial
 |x :: l,b,a=>by
  rw[List.foldlM_cons];exact af (a b x) fun _=>Du g l _ a
theorem kr(v:RB):St P P' O (Ux v):=by unfold Ux;split<;>first|exact trivial|exact au _
theorem LJ(a:Twin P P')(b:Plain O)(e:RO)(h:Bool)(v:RB):St P P' O (Instr.alloc e h v):=by unfold Instr.alloc;((try dsimp only);repeat' first|exact eO a _|exact uE a _ _ _|exact iT b _ _|assumption|(refine af ?_ (fun _=>?_))|intro _|split|(dsimp only)|exact trivial)
theorem Pr(b:Twin P P')(a:Plain O)(e:RO)(v:RB):St P P' O (Instr.box e v):=by unfold Instr.box;((try dsimp only);repeat' first|exact iT a _ _|assumption|(refine af ?_ (fun _=>?_))|intro _|split|(dsimp only)|exact trivial)
theorem LL(a:Twin P P')(b:Plain O)(t:RO)(ps:Array (Nat×RB)):St P P' O (Instr.build t ps):=by
 unfold Instr.build;refine af (eO a t) fun e=>?_;dsimp only;refine af (aC a t) fun d=>?_
 split
 ·refine af (Gv _ _ fun f=>af (bH a _) fun _=>trivial) fun c=>?_
  ((try dsimp only);repeat' first|exact aC a _|exact eO a _|exact bH a _|exact au _|assumption|(refine af ?_ (fun _=>?_))|intro _|split|(dsimp only)|exact trivial)
 ·((try dsimp only);repeat' first|exact aC a _|exact eO a _|exact bH a _|exact au _|assumption|(refine af ?_ (fun _=>?_))|intro _|split|(dsimp only)|exact trivial)
 ·exact au _
theorem y8(a:Twin P P')(b:Plain O)(t:RO)(n:Nat)(ps:Array (Nat×RB)):St P P' O (Uq t n ps):=by unfold Uq;((try dsimp only);repeat' first|exact aC a _|exact eO a _|exact bH a _|exact au _|(refine aT _ ?_;rfl)|exact iT b _ _|assumption|(refine af ?_ (fun _=>?_))|(refine bI ?_ ?_)|intro _|split|(dsimp only)|exact trivial)
theorem Jc(a:Twin P P')(b:Plain O)(t:RO)(v:RB):St P P' O (Instr.loadAt t v):=by unfold Instr.loadAt;((try dsimp only);repeat' first|exact nQ a _ _|exact kr _|assumption|(refine af ?_ (fun _=>?_))|intro _|split|(dsimp only)|exact trivial)
theorem Fz(b:Twin P P')(c:Plain O)(t:RO)(a v:RB):St P P' O (Instr.storeAt t a v):=by unfold Instr.storeAt;((try dsimp only);repeat' first|exact uE b _ _ _|exact kr _|assumption|(refine af ?_ (fun _=>?_))|intro _|split|(dsimp only)|exact trivial)
theorem Fu(b:Twin P P')(c:Plain O)(t:RO)(a:RB)(f:Nat):St P P' O (Instr.fieldAt t a f):=by unfold Instr.fieldAt;((try dsimp only);repeat' first|exact aC b _|exact au _|exact kr _|exact qD b c _ _|assumption|(refine af ?_ (fun _=>?_))|intro _|split|(dsimp only)|exact trivial)
theorem Fv(b:Twin P P')(c:Plain O)(t:RO)(a i:RB):St P P' O (Instr.indexAt t a i):=by unfold Instr.indexAt;((try dsimp only);repeat' first|exact aC b _|exact bH b _|exact au _|(refine aT _ ?_;rfl)|exact nL _|exact lS b c _ _ _ _|exact kr _|assumption|(refine af ?_ (fun _=>?_))|(refine bI ?_ ?_)|intro _|split|(dsimp only)|exact trivial)
theorem zb(b:Twin P P')(a:Plain O)(x:RB)(y:Nat)(c:BoundsCode):St P P' O (Instr.sliceBound x y c):=by unfold Instr.sliceBound;((try dsimp only);repeat' first|exact nL _|exact lS b a _ _ _ _|assumption|(refine af ?_ (fun _=>?_))|(refine bI ?_ ?_)|intro _|split|(dsimp only)|exact trivial)
theorem o7(e:Twin P P')(d:Plain O)(s:Bool)(l c:Nat)(a b m:Option RB):St P P' O (Instr.sliceBounds s l c a b m):=by unfold Instr.sliceBounds;((try dsimp only);repeat' first|exact au _|exact zb e d _ _ _|assumption|(refine af ?_ (fun _=>?_))|intro _|split|(dsimp only)|exact trivial)
theorem LS(c:Twin P P')(d:Plain O)(t:RO)(x:RB)(a b m:Option RB):St P P' O (Instr.slice t x a b m):=by unfold Instr.slice;((try dsimp only);repeat' first|exact aC c _|exact bH c _|exact au _|exact mZ c d _|exact o7 c d _ _ _ _ _ _|assumption|(refine af ?_ (fun _=>?_))|(refine bI ?_ ?_)|intro _|split|(dsimp only)|exact trivial)
theorem Fy(c:Twin P P')(d:Plain O)(t:RO)(x:RB)(a b m:Option RB):St P P' O (Instr.sliceAt t x a b m):=by unfold Instr.sliceAt;((try dsimp only);repeat' first|exact aC c _|exact bH c _|exact o7 c d _ _ _ _ _ _|exact LS c d _ _ _ _ _|exact kr _|assumption|(refine af ?_ (fun _=>?_))|intro _|split|(dsimp only)|exact trivial)
theorem tK(a:Twin P P')(b:Plain O)(t:RO)(x:RB):St P P' O (Instr.makeInterface t x):=by unfold Instr.makeInterface;((try dsimp only);repeat' first|exact aC a _|exact au _|assumption|(refine af ?_ (fun _=>?_))|intro _|split|(dsimp only)|exact trivial)
theorem Bu(c:Twin P P')(d:Plain O)(t:RO)(a b:RB):St P P' O (Vd t a b):=by unfold Vd;((try dsimp only);repeat' first|exact bD c _|exact aC c _|exact eO c _|exact bH c _|exact au _|exact bE c d _|exact cC _|exact ki _|exact iT d _ _|exact xS _|assumption|(refine af ?_ (fun _=>?_))|(refine bI ?_ ?_)|intro _|split|(dsimp only)|exact trivial)
theorem Fx(b:Twin P P')(d:Plain O)(a:∀ e c,O (.map e c))(t:RO)(r:Option RB):St P P' O (Instr.makeMap t r):=by unfold Instr.makeMap;((try dsimp only);repeat' first|exact aC b _|exact au _|exact ki _|exact kZ (a _ _)|assumption|(refine af ?_ (fun _=>?_))|intro _|split|(dsimp only)|exact trivial)
theorem LO(a:Twin P P')(b:Plain O)(t:RO)(x:RB)(f:Nat):St P P' O (Instr.field t x f):=by unfold Instr.field;((try dsimp only);repeat' first|exact aC a _|exact au _|exact xR _|exact gh a _ _ _|assumption|(refine af ?_ (fun _=>?_))|intro _|split|(dsimp only)|exact trivial)
theorem LP(a:Twin P P')(b:Plain O)(t:RO)(x i:RB):St P P' O (Instr.index t x i):=by unfold Instr.index;((try dsimp only);repeat' first|exact aC a _|exact bH a _|exact au _|exact nL _|exact lS a b _ _ _ _|exact gh a _ _ _|assumption|(refine af ?_ (fun _=>?_))|(refine bI ?_ ?_)|intro _|split|(dsimp only)|exact trivial)
theorem Ft(v:RB)(i:Nat):St P P' O (Instr.extract v i):=by
 unfold Instr.extract
 split
 ·split
  ·exact trivial
  ·exact au _
 ·exact au _
theorem DD(a:Twin P P'):St P P' O Instr.panicnil:=by
 unfold Instr.panicnil;refine af ⟨rfl,fun _=>trivial⟩ fun b=>?_
 split
 ·dsimp only;exact bX (by rw[a.godebug]) trivial
 ·exact au _
theorem LQ(a:Twin P P')(b:Plain O)(x:RB):St P P' O (Instr.panic x):=by unfold Instr.panic;((try dsimp only);repeat' first|exact au _|exact bE a b _|exact nO _|exact DD a|assumption|(refine af ?_ (fun _=>?_))|(refine bI ?_ ?_)|intro _|split|(dsimp only)|exact trivial)
end
section
variable {P P':RM}{O:UQ→Prop}{α β:Type}
theorem uA(a:VJ)(k:T3)(x y:Int):St P P' O (Op.intArith a k x y):=by unfold Op.intArith;split<;>first|exact trivial|exact au _
theorem Jb(b:Twin P P')(a:Plain O)(c:VJ)(k:T3)(x y:Int):St P P' O (Op.intDiv c k x y):=by unfold Op.intDiv;((try dsimp only);repeat' first|exact au _|exact bE b a _|assumption|(refine bI ?_ ?_)|intro _|split|(dsimp only)|exact trivial)
theorem xW(a:VJ)(k:T3)(x y:Int):St P P' O (Op.intBits a k x y):=by unfold Op.intBits;dsimp only;split<;>first|exact trivial|exact au _
theorem Ja(a:VJ)(x y:Int):St P P' O (Op.intCmp a x y):=by unfold Op.intCmp;split<;>first|exact trivial|exact au _
theorem LR(b:Twin P P')(a:Plain O)(c:VJ)(k:T3)(x:Int)(d:T3)(y:Int):St P P' O (Op.shift c k x d y):=by unfold Op.shift;((try dsimp only);repeat' first|exact au _|exact bE b a _|assumption|(refine bI ?_ ?_)|intro _|split|(dsimp only)|exact trivial)
theorem qF(a:VJ)(k:FloatKind)(x y:Nat):St P P' O (Op.floatArith a k x y):=by
 unfold Op.floatArith;dsimp only
 split
 all_goals first|exact af (au _) fun _=>(by split<;>first|exact trivial|exact af (cC _) fun _=>trivial)|exact af trivial fun _=>(by split<;>first|exact trivial|exact af (cC _) fun _=>trivial)
theorem uy(a:VJ)(k:FloatKind)(x y:Nat):St P P' O (Op.floatCmp a k x y):=by unfold Op.floatCmp;dsimp only;split<;>first|exact trivial|exact au _
theorem u7(s:FloatKind)(b:Nat)(d:FloatKind):St P P' O (Conv.floatToFloat s b d):=by
 unfold Conv.floatToFloat
 (try dsimp only)
 repeat' first|exact trivial|exact au _|exact cC _|refine af ?_ (fun _=>?_)|intro _|split|dsimp only
theorem pU(a:VJ)(k:FloatKind)(x y:Nat):St P P' O (Wb a k x y):=by
 unfold Wb;refine af (qF _ _ _ _) fun _=>?_
 split<;>first|exact trivial|exact au _
theorem Bp(a:VJ)(k:FloatKind)(x y:Nat):St P P' O (Wh a k x y):=by
 unfold Wh;exact af (uy _ _ _ _) fun _=>tE _
theorem kq(s:FloatKind)(b:Nat)(d:FloatKind):St P P' O (Wc s b d):=by
 unfold Wc
 split
 ·exact trivial
 ·refine af (u7 _ _ _) fun _=>?_
  split<;>first|exact trivial|exact au _
theorem LM(a b c d:Nat):St P P' O (V6 a b c d):=by
 unfold V6 Wj Wi We
 repeat' first|exact trivial|exact pU _ _ _ _|refine af ?_ (fun _=>?_)
theorem LN(a b c d:Nat):St P P' O (V4 a b c d):=by
 unfold V4 Wl Wj Wi We Wu
 repeat' first|exact pU _ _ _ _|exact Bp _ _ _ _|refine af ?_ (fun _=>?_)|split|dsimp only|exact trivial
theorem Bq(e:VJ)(k:FloatKind)(a b c d:Nat):St P P' O (Op.complexOp e k a b c d):=by
 unfold Op.complexOp
 split
 all_goals first
  |exact af (pU _ _ _ _) fun _=>af (pU _ _ _ _) fun _=>trivial
  |exact af (Bp _ _ _ _) fun _=>af (Bp _ _ _ _) fun _=>trivial
  |exact au _
  |(refine af (kq _ _ _) fun _=>af (kq _ _ _) fun _=>af (kq _ _ _) fun _=>af (kq _ _ _) fun _=>?_;dsimp only
    split
    ·exact af (LM _ _ _ _) fun _=>af (kq _ _ _) fun _=>af (kq _ _ _) fun _=>trivial
    ·exact af (LN _ _ _ _) fun _=>af (kq _ _ _) fun _=>af (kq _ _ _) fun _=>trivial)
theorem uF(a:VJ)(x y:ByteArray):St P P' O (Op.stringOp a x y):=by
 unfold Op.stringOp
 repeat' first|exact trivial|exact au _|exact aT _ rfl|split|dsimp only
theorem LV(a:UnOp)(x:RB):St P P' O (Op.unary a x):=by
 unfold Op.unary
 repeat' first|exact trivial|exact au _|exact aT _ rfl|exact uA _ _ _ _|exact xW _ _ _ _|split|dsimp only
theorem rV(c:Twin P P')(d:Plain O)(a b:Sl):St P P' O (Op.twoPlaces a b):=by
 unfold Op.twoPlaces;refine bX (by rw[c.wD]) ?_
 ((try dsimp only);repeat' first|(refine aT _ ?_;rfl)|exact pS c d _|assumption|(refine af ?_ (fun _=>?_))|(refine bI ?_ ?_)|intro _|split|(dsimp only)|exact trivial)
theorem Fi(d:Twin P P')(c:Plain O)(k:T3)(a b:Sl):St P P' O (Op.addrSub k a b):=by unfold Op.addrSub;((try dsimp only);repeat' first|exact rV d c _ _|assumption|(refine af ?_ (fun _=>?_))|intro _|split|(dsimp only)|exact trivial)
theorem Fg(d:Twin P P')(c:Plain O)(k:VJ)(a b:Sl):St P P' O (Op.addrCmp k a b):=by unfold Op.addrCmp;((try dsimp only);repeat' first|(refine aT _ ?_;rfl)|exact rV d c _ _|assumption|(refine af ?_ (fun _=>?_))|intro _|split|(dsimp only)|exact trivial)
theorem Fh(b:Twin P P')(c:Plain O)(k:T3)(a:Sl)(n:Int):St P P' O (Op.addrMod k a n):=by unfold Op.addrMod;((try dsimp only);repeat' first|exact bD b _|exact fW _|(refine aT _ ?_;rfl)|exact pS b c _|assumption|(refine af ?_ (fun _=>?_))|(refine bI ?_ ?_)|intro _|split|(dsimp only)|exact trivial)
theorem rX(b:Twin P P')(j:Plain O)(n:Array RO)(t:RO)(as:Array RB):St P P' O (UH n t as):=by
 have e:∀ s:String,St P P' O (stuck s:T1 RB):=fun s=>au s;unfold UH;obtain⟨g⟩:=as;rcases g with _|⟨a,_|⟨o,_|⟨p,g⟩⟩⟩
 case cons.cons.nil=>
  cases a with
  |pointer m=>
   dsimp only;refine af (ki _) fun k=>?_
   split
   ·((try dsimp only);repeat' first|exact au _|exact fW _|(refine aT _ ?_;rfl)|exact ki _|exact Ae b j _|assumption|(refine af ?_ (fun _=>?_))|(refine bI ?_ ?_)|intro _|split|(dsimp only)|exact trivial)
   ·have f:St P P' O (match m with
     |some a=>do
      let h ← shape a.block
      match h with
       |some (d,i)=>do
        let c ← program
        match cellAtBytes c c.depth d (i / c.cellsOf d) a.off k with
         |some l=>pure (Value.pointer (Ry {block:=a.block,off:=l,spot:=a.spot}))
         |none=>unsupported (VM "Add")
       |x=>unsupported (VM "Add")
     |x=>unsupported (VM "Add"):T1 RB):=by
     split
     ·refine af (fW _) fun s=>?_
      split
      ·refine bX (by simp only[b.cells,b.cellAt,b.depth]) ?_
       ((try dsimp only);repeat' first|exact au _|exact fW _|(refine aT _ ?_;rfl)|exact ki _|assumption|(refine af ?_ (fun _=>?_))|(refine bI ?_ ?_)|intro _|split|(dsimp only)|exact trivial)
      ·exact aT _ rfl
     ·exact aT _ rfl
    split
    ·exact af (aT _ rfl) fun _=>f
    ·exact f
  |_=>exact e _
 all_goals exact e _
theorem Dp(c:∀ a b,O (.number a b))(a:Sl)(l:Bool):St P P' O (asNumber a l):=af (kZ (c _ _)) fun _=>trivial
theorem o5(c:Twin P P')(d:Plain O)(e:∀ a b,O (.number a b))(t:RO)(x y:RB):St P P' O (movedNumber t x y):=by unfold movedNumber;((try dsimp only);repeat' first|exact aC c _|(refine aT _ ?_;rfl)|exact rX c d _ _ _|exact dH c d _|exact Dp e _ _|assumption|(refine af ?_ (fun _=>?_))|(refine bI ?_ ?_)|intro _|split|(dsimp only)|exact trivial)
theorem va(b:Twin P P')(a:Plain O)(t:RO)(x y:RB):St P P' O (movedPointer t x y):=by unfold movedPointer;((try dsimp only);repeat' first|(refine aT _ ?_;rfl)|exact rX b a _ _ _|exact uC b a _|assumption|(refine af ?_ (fun _=>?_))|(refine bI ?_ ?_)|intro _|split|(dsimp only)|exact trivial)
theorem xU(a:Twin P P')(b:Plain O):∀ (d:Nat) (t:RO) (x y:RB),St P P' O (Op.equalIn d t x y)
 |0,t,x,y=>aT _ rfl
 |d+1,t,x,y=>by
  have c:=xU a b d;unfold Op.equalIn;refine af (aC a t) fun h=>?_
  split
  all_goals first
   |exact trivial
   |exact au _
   |exact aT _ rfl
   |exact ya a b _ _
   |exact bI trivial (au _)
   |(refine af (dH a b _) fun e=>?_;refine af (dH a b _) fun f=>?_;dsimp only;refine bX (by rw[a.wD]) ?_
     ((try dsimp only);repeat' first|exact bD a _|exact aC a _|exact bH a _|exact au _|exact bE a b _|exact cC _|(refine aT _ ?_;rfl)|exact gh a _ _ _|exact pS a b _|assumption|(refine af ?_ (fun _=>?_))|(refine bI ?_ ?_)|intro _|split|(dsimp only)|exact trivial))
   |(refine af (bH a _) fun g=>?_
     ((try dsimp only);repeat' first|exact bD a _|exact aC a _|exact bH a _|exact au _|exact bE a b _|exact cC _|(refine aT _ ?_;rfl)|exact gh a _ _ _|exact uD a b _ _|assumption|(refine af ?_ (fun _=>?_))|(refine bI ?_ ?_)|intro _|split|(dsimp only)|exact trivial))
   |skip
  ·refine bI trivial ?_;refine af (bD a _) fun info=>?_;dsimp only
   split
   ·refine bX (by simp only[a.Lb]) ?_;refine bX (by simp only[a.depth]) ?_
    ((try dsimp only);repeat' first|exact bD a _|exact aC a _|exact bH a _|exact au _|exact bE a b _|exact cC _|(refine aT _ ?_;rfl)|exact gh a _ _ _|exact qY a _|assumption|(refine af ?_ (fun _=>?_))|(refine bI ?_ ?_)|intro _|split|(dsimp only)|exact trivial)
   ·exact c _ _ _
  ·refine bX (by rw[a.Gz]) ?_
   ((try dsimp only);repeat' first|exact bD a _|exact aC a _|exact bH a _|exact au _|exact bE a b _|exact cC _|(refine aT _ ?_;rfl)|exact gh a _ _ _|exact c _ _ _|assumption|(refine nN _ _ (fun _ _=>?_))|(refine pV _ _ (fun _ _=>?_))|(refine af ?_ (fun _=>?_))|(refine bI ?_ ?_)|intro _|split|(dsimp only)|exact trivial)
  ·((try dsimp only);repeat' first|exact bD a _|exact aC a _|exact bH a _|exact au _|exact bE a b _|exact cC _|(refine aT _ ?_;rfl)|exact gh a _ _ _|exact c _ _ _|assumption|(refine nN _ _ (fun _ _=>?_))|(refine pV _ _ (fun _ _=>?_))|(refine af ?_ (fun _=>?_))|(refine bI ?_ ?_)|intro _|split|(dsimp only)|exact trivial)
theorem Ds(b:Twin P P')(a:Plain O)(t:RO)(x y:RB):St P P' O (Op.equal t x y):=xU b a _ t x y
theorem nM(a:Twin P P')(c:Plain O):∀ (d:Nat) (t:RO) (x y:RB),St P P' O (Op.eqGuardIn d t x y)
 |0,t,x,y=>aT _ rfl
 |d+1,t,x,y=>by
  have b:=nM a c d;unfold Op.eqGuardIn;refine af (aC a t) fun e=>?_
  split
  ·exact trivial
  ·((try dsimp only);repeat' first|exact aC a _|exact bH a _|(refine aT _ ?_;rfl)|exact gh a _ _ _|exact b _ _ _|assumption|(refine nN _ _ (fun _ _=>?_))|(refine pV _ _ (fun _ _=>?_))|(refine af ?_ (fun _=>?_))|(refine bI ?_ ?_)|intro _|split|(dsimp only)|exact trivial)
  ·((try dsimp only);repeat' first|exact aC a _|exact bH a _|(refine aT _ ?_;rfl)|exact gh a _ _ _|exact b _ _ _|assumption|(refine nN _ _ (fun _ _=>?_))|(refine pV _ _ (fun _ _=>?_))|(refine af ?_ (fun _=>?_))|(refine bI ?_ ?_)|intro _|split|(dsimp only)|exact trivial)
  ·exact trivial
theorem Fs(c:Twin P P')(d:Plain O)(e:VJ)(t:RO)(x y:SG)(a b:RB):St P P' O (eqGuard e t x y a b):=by
 unfold eqGuard;refine bI trivial ?_
 split
 ·((try dsimp only);repeat' first|(refine aT _ ?_;rfl)|exact nM c d _ _ _ _|assumption|(refine af ?_ (fun _=>?_))|(refine bI ?_ ?_)|intro _|split|(dsimp only)|exact trivial)
 ·refine bX (by simp only[c.QC]) ?_;refine bX (by simp only[c.depth]) ?_
  ((try dsimp only);repeat' first|(refine aT _ ?_;rfl)|exact nM c d _ _ _ _|assumption|(refine af ?_ (fun _=>?_))|(refine bI ?_ ?_)|intro _|split|(dsimp only)|exact trivial)
 ·exact trivial
theorem LK(c:Twin P P')(d:Plain O)(e:∀ a b,O (.number a b))(f:VJ)(t:RO)(x y:RB):St P P' O (binOp f t x y):=by
 unfold binOp
 split
 all_goals first
  |exact LR c d _ _ _ _ _
  |exact uF _ _ _
  |exact aT _ rfl
  |exact au _
  |exact o5 c d e _ _ _
  |exact af (Ds c d _ _ _) fun _=>trivial
  |(refine bI (au _) ?_
    split<;>first|exact uA _ _ _ _|exact Jb c d _ _ _ _|exact xW _ _ _ _|exact Ja _ _ _|exact qF _ _ _ _|exact uy _ _ _ _)
  |exact bI (au _) (Bq _ _ _ _ _ _)
  |(refine af (aC c _) fun g=>?_
    split<;>first|exact va c d _ _ _|exact o5 c d e _ _ _)
  |exact af (dH c d _) fun _=>af (dH c d _) fun _=>Fi c d _ _ _
  |exact af (dH c d _) fun _=>af (dH c d _) fun _=>Fg c d _ _ _
  |exact af (dH c d _) fun _=>Fh c d _ _ _
end
section
variable {P P':RM}{O:UQ→Prop}{α β:Type}
theorem oZ(a:Twin P P')(b:Plain O)(e:Bool):∀ (n:Nat) (t:RO) (v:RB),St P P' O (U9 e n t v)
 |0,t,v=>aT _ rfl
 |n+1,t,v=>by
  have c:=oZ a b e n;unfold U9;refine af (aC a t) fun d=>?_
  split
  ·((try dsimp only);repeat' first|exact bD a _|exact aC a _|exact bH a _|exact au _|exact bE a b _|(refine aT _ ?_;rfl)|exact gh a _ _ _|exact c _ _|exact qY a _|assumption|(refine af ?_ (fun _=>?_))|(refine bI ?_ ?_)|intro _|split|(dsimp only)|exact trivial)
  ·((try dsimp only);repeat' first|exact bD a _|exact aC a _|exact bH a _|exact au _|exact bE a b _|(refine aT _ ?_;rfl)|exact gh a _ _ _|exact c _ _|assumption|(refine nN _ _ (fun _ _=>?_))|(refine pV _ _ (fun _ _=>?_))|(refine af ?_ (fun _=>?_))|(refine bI ?_ ?_)|intro _|split|(dsimp only)|exact trivial)
  ·((try dsimp only);repeat' first|exact bD a _|exact aC a _|exact bH a _|exact au _|exact bE a b _|(refine aT _ ?_;rfl)|exact gh a _ _ _|exact c _ _|assumption|(refine nN _ _ (fun _ _=>?_))|(refine pV _ _ (fun _ _=>?_))|(refine af ?_ (fun _=>?_))|(refine bI ?_ ?_)|intro _|split|(dsimp only)|exact trivial)
  all_goals first|exact trivial|exact au _
theorem qE(b:Twin P P')(a:Plain O)(t:RO)(k:RB):∀ (es:List Tv) (i:Nat),St P P' O (Instr.findAsking t k es i)
 | [],i=>trivial
 |e :: es,i=>by
  unfold Instr.findAsking;refine af (Ds b a _ _ _) fun c=>?_
  split
  ·exact trivial
  ·exact qE b a t k es (i+1)
theorem xV(a:Twin P P')(b:Plain O)(t:RO)(k:RB)(es:List Tv):St P P' O (Vz t k es):=by unfold Vz;((try dsimp only);repeat' first|exact aC a _|exact qE a b _ _ _ _|assumption|(refine af ?_ (fun _=>?_))|intro _|split|(dsimp only)|exact trivial)
theorem Jd(a:Twin P P')(b:Plain O)(t:RO)(x i:RB)(c:Bool):St P P' O (Instr.lookup t x i c):=by unfold Instr.lookup;((try dsimp only);repeat' first|exact aC a _|exact eO a _|exact au _|(refine iL _ (fun _ _=>?_) ?_)|exact oH rfl|exact xV a b _ _ _|exact oZ a b _ _ _ _|assumption|(refine af ?_ (fun _=>?_))|intro _|split|(dsimp only)|exact trivial)
theorem Bv(a:Twin P P')(b:Plain O)(d:∀ e c,O (.map e c))(t:RO)(m k v:RB):St P P' O (Instr.mapUpdate t m k v):=by unfold Instr.mapUpdate Instr.keyThatStays;((try dsimp only);repeat' first|exact aC a _|exact au _|exact bE a b _|exact cC _|(refine iL _ (fun _ _=>?_) ?_)|exact oH rfl|exact xV a b _ _ _|exact oZ a b _ _ _ _|exact k5 _ (d _ _)|assumption|(refine af ?_ (fun _=>?_))|(refine bI ?_ ?_)|intro _|split|(dsimp only)|exact trivial)
theorem tF(e:Twin P P')(d:Plain O)(x:RB):St P P' O (Conv.bytesToString x):=by
 unfold Conv.bytesToString
 split
 ·exact trivial
 ·refine af (nP _ _) fun c=>?_;dsimp only;refine af (nN _ _ fun b a=>?_) fun _=>trivial
  split
  ·exact trivial
  ·exact au _
 ·exact au _
theorem vA(b:Twin P P')(t:RO):Still P P' O (fun d=>P.underlying t=Ry d) (UK t):=by
 unfold UK;refine bX (by rw[b.so]) ?_
 split
 ·rename_i d a;exact a
 ·exact au _
def Es (P:RM)(s d:RO):Bool:=match P.underlying s,P.underlying d with
 |some (.int _),Ry (.int _)=>RF
 |some (.slice a),Ry .string=>match P.underlying a with|some (.int .u8)=>RF|_=>RE
 |some (.slice _),Ry (.slice _)=>RF
 |_,_=>RE
theorem Dy(x:RB):St P P' O (Vy x):=by unfold Vy;split<;>first|exact trivial|exact au _
theorem jT(s n:Nat)(x:RB):St P P' O (UF s n x):=by unfold UF;split<;>first|exact trivial|exact nP _ _|exact au _
theorem za(a:Sl)(c:Nat):St P P' O (UG a c):=by unfold UG;refine af (fW _) fun s=>?_;split<;>exact trivial
theorem DC(f:Twin P P')(e:Plain O)(a b c:Nat)(d:Option Sl)(x:RB):St P P' O (Vo a b c d x):=by unfold Vo;((try dsimp only);repeat' first|exact tI _|exact za _ _|assumption|(refine af ?_ (fun _=>?_))|(refine bI ?_ ?_)|intro _|split|(dsimp only)|exact trivial)
theorem NI(a:Twin P P')(c:Plain O)(b:Array RO)(t:RO)(as:Array RB):St P P' O (Builtin.copy_ b t as):=by unfold Builtin.copy_;((try dsimp only);repeat' first|exact aC a _|exact bH a _|exact au _|exact iB _ _ _|exact Dy _|exact jT _ _ _|assumption|(refine af ?_ (fun _=>?_))|intro _|split|(dsimp only)|exact trivial)
theorem Ps(a:Twin P P')(c:Plain O)(b:Array RO)(t:RO)(as:Array RB):St P P' O (Builtin.len_ b t as):=by unfold Builtin.len_;((try dsimp only);repeat' first|exact aC a _|exact au _|(refine iL _ (fun _ _=>?_) ?_)|exact oH rfl|assumption|(refine af ?_ (fun _=>?_))|intro _|split|(dsimp only)|exact trivial)
theorem NK(x y:RB):St P P' O (Builtin.min2 x y):=by
 unfold Builtin.min2
 repeat' first|exact au _|exact aT _ rfl|exact cC _|exact uF _ _ _|exact tE _|refine af ?_ (fun _=>?_)|split|dsimp only|exact trivial
theorem Pt(b:Array RO)(t:RO)(as:Array RB):St P P' O (Builtin.min_ b t as):=by
 unfold Builtin.min_
 split
 ·exact au _
 ·exact Du _ _ _ fun a c=>NK a c
theorem vh(a:Twin P P')(b:Plain O)(f:Array RO)(t:RO)(as:Array RB):St P P' O (Builtin.unsafeString_ f t as):=by
 have c:∀ s:String,St P P' O (stuck s:T1 RB):=fun s=>au s;unfold Builtin.unsafeString_;obtain⟨d⟩:=as;rcases d with _|⟨e,_|⟨g,_|⟨h,d⟩⟩⟩
 case cons.cons.nil=>
  cases e with
  |pointer i=>
   dsimp only
   ((try dsimp only);repeat' first|exact au _|exact bE a b _|exact z9 _ _|(refine aT _ ?_;rfl)|exact ki _|exact tG a _|exact yd a b _ _ _|exact Bt a b _ _ _|assumption|(refine af ?_ (fun _=>?_))|(refine bI ?_ ?_)|intro _|split|(dsimp only)|exact trivial)
  |_=>exact c _
 all_goals exact c _
end
end Cc
namespace Rl
section
structure k8 where
 g:Nat
 b:Nat→Bool
structure aN(G:k8) where
 f:Nat→Option Nat
 inj:∀ a b c,f a=Ry c→f b=Ry c→a=b
 MZ:∀ a b,f a=Ry b→(a<G.g↔b<G.g)
variable {G:k8}
def aN.le(ρ σ:aN G):Prop:=∀ a b,ρ.f a=Ry b→σ.f a=Ry b
theorem aN.le.refl(ρ:aN G):ρ.le ρ:=fun _ _ a=>a
theorem aN.le.trans{ρ σ a:aN G}(h:ρ.le σ)(b:σ.le a):ρ.le a:=fun d e c=>b _ _ (h _ _ c)
structure OB(ρ:aN G)(r r':Nat):Prop where
 left:ρ.f r=RA
 right:∀ b,ρ.f b≠Ry r'
 gl:G.g≤r
 gr:G.g≤r'
def aN.ext(ρ:aN G)(r r':Nat)(h:OB ρ r r'):aN G where
 f:=fun b=>if b=r then Ry r' else ρ.f b
 inj:=fun c b e a d=>by
  split at a<;>split at d
  ·omega
  ·cases a;exact absurd d (h.right b)
  ·cases d;exact absurd a (h.right c)
  ·exact ρ.inj c b e a d
 MZ:=fun c b a=>by
  have:=h.gl;have:=h.gr
  split at a
  ·cases a;omega
  ·exact ρ.MZ c b a
theorem aN.Kt{ρ:aN G}{r r':Nat}(h:OB ρ r r'):ρ.le (ρ.ext r r' h):=fun c d a=>by
 unfold aN.ext;dsimp only
 split
 ·rename_i b;subst b;rw[h.left] at a;cases a
 ·exact a
theorem aN.vp(ρ:aN G)(r r':Nat)(h:OB ρ r r'):(ρ.ext r r' h).f r=Ry r':=by simp[aN.ext]
def cy (ρ:aN G)(a a':Sl):Prop:=ρ.f a.block=Ry a'.block∧a.off=a'.off∧a.spot=a'.spot
theorem cy.mono{ρ σ:aN G}{a a':Sl}(b:ρ.le σ)(h:cy ρ a a'):cy σ a a':=⟨b _ _ h.1,h.2⟩
theorem cy.add{ρ:aN G}{a a':Sl}(h:cy ρ a a')(n:Nat):cy ρ (a.add n) (a'.add n):=by
 unfold VN
 split
 ·exact h
 ·exact⟨h.1,by show a.off+n=a'.off+n;rw[h.2.1],rfl⟩
def mC (ρ:aN G)(b:Fn)(c:Fn):Prop:=∀ a:Fn→Fn→Prop,(∀ (f:TH) (d:G.b f=RF),a (.func f) (.func f))→a b c
theorem mC.func{ρ:aN G}(f:TH)(h:G.b f=RF):mC ρ (.func f) (.func f):=fun b a=>a f h
theorem mC.ind{ρ:aN G}{c:∀ (a:Fn) (b:Fn),mC ρ a b→Prop}(func:∀ (f:TH) (h:G.b f=true),c _ _ (mC.func f h)){a:Fn}{b:Fn}(h:mC ρ a b):c a b h:=(h (fun a b=>mC ρ a b∧∀ h,c a b h) (fun f h=>⟨mC.func f h,fun _=>func f h⟩)).2 h
theorem mC.mono{ρ σ:aN G}{f f':Fn}(a:ρ.le σ)(h:mC ρ f f'):mC σ f f':=by
 cases h using mC.ind with
 |func f h=>exact .func f h
def aq (ρ:aN G)(y:RB)(z:RB):Prop:=∀ a:RB→RB→Prop,(∀ (p:Bool),a (.bool p) (.bool p))→(∀ (u:T3) (g:Int),a (.int u g) (.int u g))→(∀ (s:ByteArray),a (.string s) (.string s))→(a (.pointer RA) (.pointer RA))→(∀ {h i:Sl} (e:cy ρ h i),a (.pointer (Ry h)) (.pointer (Ry i)))→(∀ (g j:Nat),a (.slice RA g j) (.slice RA g j))→(∀ {h i:Sl} (e:cy ρ h i) (g j:Nat),a (.slice (Ry h) g j) (.slice (Ry i) g j))→(a (.map RA) (.map RA))→(∀ {k l:Nat} (e:ρ.f k=Ry l),a (.map (Ry k)) (.map (Ry l)))→(a (.chan RA) (.chan RA))→(∀ {k l:Nat} (e:ρ.f k=Ry l),a (.chan (Ry k)) (.chan (Ry l)))→(∀ {f q:Fn} {c d m n:Array RB} (A:mC ρ f q) (r:c.size=d.size) (t:∀ b (e:b<c.size) (o:b<d.size),a c[b] d[b]) (B:m.size=n.size) (C:∀ b (e:b<m.size) (o:b<n.size),a m[b] n[b]),a (.func f c m) (.func q d n))→(a .nilFunc .nilFunc)→(∀ (w:RO) {v x:RB} (e:a v x),a (.iface w v) (.iface w x))→(a .nilIface .nilIface)→(∀ {c d:Array RB} (r:c.size=d.size) (t:∀ b (e:b<c.size) (o:b<d.size),a c[b] d[b]),a (.agg c) (.agg d))→(∀ {c d:Array RB} (r:c.size=d.size) (t:∀ b (e:b<c.size) (o:b<d.size),a c[b] d[b]),a (.tuple c) (.tuple d))→a y z
theorem aq.bool{ρ:aN G}(b:Bool):aq ρ (.bool b) (.bool b):=fun c a l m n o p q r s d e f g h i j k=>a b
theorem aq.int{ρ:aN G}(k:T3)(n:Int):aq ρ (.int k n) (.int k n):=fun b c a m o p q r s t d e f g h i j l=>a k n
theorem aq.string{ρ:aN G}(s:ByteArray):aq ρ (.string s) (.string s):=fun b c l a m n o p q r d e f g h i j k=>a s
theorem aq.cG{ρ:aN G}:aq ρ (.pointer RA) (.pointer RA):=fun b c l m a n o p q r d e f g h i j k=>a
theorem aq.ptr{ρ:aN G}{a a':Sl}(h:cy ρ a a'):aq ρ (.pointer (Ry a)) (.pointer (Ry a')):=fun c d n o p b q r s t e f g i j k l m=>b h
theorem aq.ja{ρ:aN G}(n c:Nat):aq ρ (.slice RA n c) (.slice RA n c):=fun b d m o p q a r s t e f g h i j k l=>a n c
theorem aq.sl{ρ:aN G}{a a':Sl}(h:cy ρ a a')(n c:Nat):aq ρ (.slice (Ry a) n c) (.slice (Ry a') n c):=fun d e p q r s t b u v f g i j k l m o=>b h n c
theorem aq.jG{ρ:aN G}:aq ρ (.map RA) (.map RA):=fun b c l m n o p q a r d e f g h i j k=>a
theorem aq.map{ρ:aN G}{r r':Nat}(h:ρ.f r=Ry r'):aq ρ (.map (Ry r)) (.map (Ry r')):=fun b c m n o p q s t a d e f g i j k l=>a h
theorem aq.gS{ρ:aN G}:aq ρ (.chan RA) (.chan RA):=fun b c k l m n o p q r a d e f g h i j=>a
theorem aq.chan{ρ:aN G}{r r':Nat}(h:ρ.f r=Ry r'):aq ρ (.chan (Ry r)) (.chan (Ry r')):=fun b c l m n o p q s t d a e f g i j k=>a h
theorem aq.func{ρ:aN G}{f f':Fn}{x a y b:Array RB}(D:mC ρ f f')(E:x.size=a.size)(F:∀ i (h:i<x.size) (C:i<a.size),aq ρ x[i] a[i])(H:y.size=b.size)(I:∀ i (h:i<y.size) (C:i<b.size),aq ρ y[i] b[i]):aq ρ (.func f x y) (.func f' a b):=fun j k s t u v w z A B l m c n o p q r=>c D E (fun d e g=>F d e g j k s t u v w z A B l m c n o p q r) H (fun d e g=>I d e g j k s t u v w z A B l m c n o p q r)
theorem aq.nilFunc{ρ:aN G}:aq ρ .nilFunc .nilFunc:=fun b c k l m n o p q r d e f a g h i j=>a
theorem aq.iface{ρ:aN G}(t:RO){v b:RB}(h:aq ρ v b):aq ρ (.iface t v) (.iface t b):=fun c d m n o p q r s u e f g i a j k l=>a t (h c d m n o p q r s u e f g i a j k l)
theorem aq.nilIface{ρ:aN G}:aq ρ .nilIface .nilIface:=fun b c k l m n o p q r d e f g h a i j=>a
theorem aq.agg{ρ:aN G}{x a:Array RB}(v:x.size=a.size)(w:∀ i (h:i<x.size) (B:i<a.size),aq ρ x[i] a[i]):aq ρ (.agg x) (.agg a):=fun c d n o p q r s t u e f g j k l b m=>b v (fun y z A=>w y z A c d n o p q r s t u e f g j k l b m)
theorem aq.tuple{ρ:aN G}{x a:Array RB}(v:x.size=a.size)(w:∀ i (h:i<x.size) (B:i<a.size),aq ρ x[i] a[i]):aq ρ (.tuple x) (.tuple a):=fun c d n o p q r s t u e f g j k l m b=>b v (fun y z A=>w y z A c d n o p q r s t u e f g j k l m b)
theorem aq.ind{ρ:aN G}{j:∀ (p:RB) (q:RB),aq ρ p q→Prop}(bool:∀ (b:Bool),j _ _ (aq.bool b))(int:∀ (k:T3) (n:Int),j _ _ (aq.int k n))(string:∀ (s:ByteArray),j _ _ (aq.string s))(cG:j _ _ (aq.cG))(ptr:∀ {a a':Sl} (h:cy ρ a a'),j _ _ (aq.ptr h))(ja:∀ (n c:Nat),j _ _ (aq.ja n c))(sl:∀ {a a':Sl} (h:cy ρ a a') (n c:Nat),j _ _ (aq.sl h n c))(jG:j _ _ (aq.jG))(map:∀ {r r':Nat} (h:ρ.f r=some r'),j _ _ (aq.map h))(gS:j _ _ (aq.gS))(chan:∀ {r r':Nat} (h:ρ.f r=some r'),j _ _ (aq.chan h))(func:∀ {f f':Fn} {x o y B:Array RB} (w:mC ρ f f') (m:x.size=o.size) (l:∀ i (h:i<x.size) (A:i<o.size),aq ρ x[i] o[i]) (z:y.size=B.size) (u:∀ i (h:i<y.size) (A:i<B.size),aq ρ y[i] B[i]),(∀ d e g,j _ _ (l d e g))→(∀ d e g,j _ _ (u d e g))→j _ _ (aq.func w m l z u))(nilFunc:j _ _ (aq.nilFunc))(iface:∀ (t:RO) {v C:RB} (h:aq ρ v C),(j _ _ h)→j _ _ (aq.iface t h))(nilIface:j _ _ (aq.nilIface))(agg:∀ {x o:Array RB} (m:x.size=o.size) (l:∀ i (h:i<x.size) (A:i<o.size),aq ρ x[i] o[i]),(∀ d e g,j _ _ (l d e g))→j _ _ (aq.agg m l))(tuple:∀ {x o:Array RB} (m:x.size=o.size) (l:∀ i (h:i<x.size) (A:i<o.size),aq ρ x[i] o[i]),(∀ d e g,j _ _ (l d e g))→j _ _ (aq.tuple m l)){p:RB}{q:RB}(h:aq ρ p q):j p q h:=(h (fun p q=>aq ρ p q∧∀ h,j p q h) (fun b=>⟨aq.bool b,fun _=>bool b⟩) (fun k n=>⟨aq.int k n,fun _=>int k n⟩) (fun s=>⟨aq.string s,fun _=>string s⟩) (⟨aq.cG,fun _=>cG⟩) (fun h=>⟨aq.ptr h,fun _=>ptr h⟩) (fun n c=>⟨aq.ja n c,fun _=>ja n c⟩) (fun h n c=>⟨aq.sl h n c,fun _=>sl h n c⟩) (⟨aq.jG,fun _=>jG⟩) (fun h=>⟨aq.map h,fun _=>map h⟩) (⟨aq.gS,fun _=>gS⟩) (fun h=>⟨aq.chan h,fun _=>chan h⟩) (fun w m l z u=>⟨aq.func w m (fun d e g=>(l d e g).1) z (fun d e g=>(u d e g).1),fun _=>func w m (fun d e g=>(l d e g).1) z (fun d e g=>(u d e g).1) (fun d e g=>(l d e g).2 _) (fun d e g=>(u d e g).2 _)⟩) (⟨aq.nilFunc,fun _=>nilFunc⟩) (fun t {v} {C} h=>⟨aq.iface t h.1,fun _=>iface t h.1 (h.2 _)⟩) (⟨aq.nilIface,fun _=>nilIface⟩) (fun m l=>⟨aq.agg m (fun d e g=>(l d e g).1),fun _=>agg m (fun d e g=>(l d e g).1) (fun d e g=>(l d e g).2 _)⟩) (fun m l=>⟨aq.tuple m (fun d e g=>(l d e g).1),fun _=>tuple m (fun d e g=>(l d e g).1) (fun d e g=>(l d e g).2 _)⟩)).2 h
def aU (ρ:aN G)(x b:Array RB):Prop:=x.size=b.size∧∀ a (c:a<x.size) (d:a<b.size),aq ρ x[a] b[a]
theorem aq.mono{ρ σ:aN G}(c:ρ.le σ){v f:RB}(h:aq ρ v f):aq σ v f:=by
 induction h using aq.ind with
 |ptr h=>exact .ptr (h.mono c)
 |sl h m g=>exact .sl (h.mono c) m g
 |map h=>exact .map (c _ _ h)
 |chan h=>exact .chan (c _ _ h)
 |func i d _ j _ k l=>exact .func (i.mono c) d (fun b h a=>k b h a) j (fun b h a=>l b h a)
 |iface n _ e=>exact .iface n e
 |agg d _ e=>exact .agg d (fun b h a=>e b h a)
 |tuple d _ e=>exact .tuple d (fun b h a=>e b h a)
 |_=>first|exact .bool _|exact .int _ _|exact .string _|exact .cG|exact .ja _ _|exact .jG|exact .gS|exact .nilFunc|exact .nilIface
theorem aU.mono{ρ σ:aN G}(d:ρ.le σ){x a:Array RB}(h:aU ρ x a):aU σ x a:=⟨h.1,fun e b c=>(h.2 e b c).mono d⟩
theorem aU.nil(ρ:aN G):aU ρ #[] #[]:=⟨rfl,fun b a=>by simp at a⟩
theorem aU.push{ρ:aN G}{x b:Array RB}{v a:RB}(h:aU ρ x b)(c:aq ρ v a):aU ρ (x.push v) (b.push a):=by
 refine⟨by simp[h.1],fun d e f=>?_⟩;simp only[Array.getElem_push];have:=h.1
 split
 ·rw[dif_pos (by omega)];exact h.2 d _ _
 ·rw[dif_neg (by omega)];exact c
theorem aU.append{ρ:aN G}{x b y e:Array RB}(h:aU ρ x b)(d:aU ρ y e):aU ρ (x ++ y) (b ++ e):=by
 have c:=h.1;have f:=d.1;refine⟨by simp[c,f],fun a g i=>?_⟩;simp only[Array.getElem_append]
 split
 ·rw[dif_pos (by omega)];exact h.2 a _ _
 ·rw[dif_neg (by omega)];have:a - x.size=a - b.size:=by rw[c]
  simp only[this];exact d.2 (a - b.size) (by simp at g;omega) (by simp at i;omega)
theorem aU.get{ρ:aN G}{x a:Array RB}(h:aU ρ x a)(i:Nat):(x[i]? =RA∧a[i]? =RA)∨∃ v c,x[i]? =Ry v∧a[i]? =Ry c∧aq ρ v c:=by
 have d:=h.1;by_cases b:i<x.size
 ·exact .inr ⟨_,_,Sv b,Sv (by omega),h.2 i b (by omega)⟩
 ·exact .inl ⟨SZ (by omega),SZ (by omega)⟩
theorem aU.set{ρ:aN G}{x d:Array RB}(h:aU ρ x d){v c:RB}(g:aq ρ v c)(i:Nat):aU ρ (x.setIfInBounds i v) (d.setIfInBounds i c):=by
 refine⟨by simp[h.1],fun b e f=>?_⟩;by_cases a:i=b
 ·subst a;simp only[Array.getElem_setIfInBounds_self];exact g
 ·rw[Array.getElem_setIfInBounds_ne (by simpa using e) a,Array.getElem_setIfInBounds_ne (by simpa using f) a];exact h.2 b _ _
theorem aU.extract{ρ:aN G}{x a:Array RB}(h:aU ρ x a)(i j:Nat):aU ρ (x.extract i j) (a.extract i j):=by
 refine⟨by simp[h.1],fun d b c=>?_⟩;simp only[Array.getElem_extract];exact h.2 _ _ _
theorem aq.cells{ρ:aN G}{v a:RB}(h:aq ρ v a):aU ρ v.cells a.cells:=by
 cases h using aq.ind with
 |agg c d=>exact⟨c,d⟩
 |_=>exact⟨rfl,fun e b f=>by
  have:e=0:=by simp[Ub] at b;omega
  subst this
  first|exact .bool _|exact .int _ _|exact .string _|exact .cG|exact .ptr ‹_› |exact .ja _ _|exact .sl ‹_› _ _|exact .jG|exact .map ‹_› |exact .gS|exact .chan ‹_› |exact .func ‹_› ‹_› ‹_› ‹_› ‹_› |exact .nilFunc|exact .iface _ ‹_› |exact .nilIface|exact .tuple ‹_› ‹_›⟩
structure rj(ρ:aN G)(e e':Tv):Prop where
 key:aq ρ e.key e'.key
 val:aq ρ e.val e'.val
 born:e.born=e'.born
theorem rj.mono{ρ σ:aN G}(a:ρ.le σ){e e':Tv}(h:rj ρ e e'):rj σ e e':=⟨h.key.mono a,h.val.mono a,h.born⟩
def dg (ρ:aN G)(r:UQ)(t:UQ):Prop:=∀ a:UQ→UQ→Prop,(∀ {b l:Array RB} (g:aU ρ b l) (c:RO) (m:Nat×Nat),a (.cells b c m) (.cells l c m))→(∀ {d e:Array Tv} (w:d.size=e.size) (g:∀ f (u:f<d.size) (v:f<e.size),rj ρ d[f] e[f]) (n:Nat),a (.map d n) (.map e n))→(∀ (p:Nat) {j k:Array RB} (g:aU ρ j k) (b:Bool) (s q:Nat) (c:Bool),a (.chan p j b s q c) (.chan p k b s q c))→(∀ {h i:Sl} (g:cy ρ h i) (o:Bool),a (.number h o) (.number i o))→a r t
theorem dg.cells{ρ:aN G}{c b:Array RB}(h:aU ρ c b)(t:RO)(a:Nat×Nat):dg ρ (.cells c t a) (.cells b t a):=fun e d f g i=>d h t a
theorem dg.map{ρ:aN G}{es a:Array Tv}(c:es.size=a.size)(h:∀ i (h1:i<es.size) (j:i<a.size),rj ρ es[i] a[i])(k:Nat):dg ρ (.map es k) (.map a k):=fun d e b f g=>b c h k
theorem dg.chan{ρ:aN G}(n:Nat){b b':Array RB}(h:aU ρ b b')(c:Bool)(s r:Nat)(t:Bool):dg ρ (.chan n b c s r t) (.chan n b' c s r t):=fun d e f a g=>a n h c s r t
theorem dg.number{ρ:aN G}{a a':Sl}(h:cy ρ a a')(l:Bool):dg ρ (.number a l) (.number a' l):=fun c d e f b=>b h l
theorem dg.ind{ρ:aN G}{f:∀ (d:UQ) (e:UQ),dg ρ d e→Prop}(cells:∀ {c o:Array RB} (h:aU ρ c o) (t:RO) (g:Nat×Nat),f _ _ (dg.cells h t g))(map:∀ {es m:Array Tv} (j:es.size=m.size) (h:∀ i (h1:i<es.size) (p:i<m.size),rj ρ es[i] m[i]) (k:Nat),f _ _ (dg.map j h k))(chan:∀ (n:Nat) {b b':Array RB} (h:aU ρ b b') (c:Bool) (s r:Nat) (t:Bool),f _ _ (dg.chan n h c s r t))(number:∀ {a a':Sl} (h:cy ρ a a') (l:Bool),f _ _ (dg.number h l)){d:UQ}{e:UQ}(h:dg ρ d e):f d e h:=(h (fun d e=>dg ρ d e∧∀ h,f d e h) (fun h t g=>⟨dg.cells h t g,fun _=>cells h t g⟩) (fun j h k=>⟨dg.map j h k,fun _=>map j h k⟩) (fun n {b} {b'} h c s r t=>⟨dg.chan n h c s r t,fun _=>chan n h c s r t⟩) (fun h l=>⟨dg.number h l,fun _=>number h l⟩)).2 h
theorem dg.mono{ρ σ:aN G}(a:ρ.le σ){o o':UQ}(h:dg ρ o o'):dg σ o o':=by
 cases h using dg.ind with
 |cells h b d=>exact .cells (h.mono a) b d
 |map g h j=>exact .map g (fun i e f=>(h i e f).mono a) j
 |chan l h c s m b=>exact .chan l (h.mono a) c s m b
 |number h k=>exact .number (h.mono a) k
structure ea(ρ:aN G)(bu:Nat)(w w':RD):Prop where
 gl:G.g≤w.heap.size
 gr:G.g≤w'.heap.size
 at_:∀ b b',ρ.f b=Ry b'→∃ o o',w.heap[b]? =Ry o∧w'.heap[b']? =Ry o'∧dg ρ o o'
 tape:∀ i q,i<bu→w.tape (w.drawn+i) q=w'.tape (w'.drawn+i) q
def oD:Halt→Bool
 | .stuck _=>RF
 | .unsupported (.initOrder _)=>RE
 | .unsupported _=>RF
 |_=>RE
def kD (ρ:aN G)(d:Halt)(e:Halt):Prop:=∀ b:Halt→Halt→Prop,(∀ {v c:RB} (a:aq ρ v c),b (.panic v) (.panic c))→(∀ (a:Halt) (f:oD a=RF),b a a)→b d e
theorem kD.panic{ρ:aN G}{v a:RB}(h:aq ρ v a):kD ρ (.panic v) (.panic a):=fun c b d=>b h
theorem kD.same{ρ:aN G}(h:Halt)(b:oD h=RF):kD ρ h h:=fun c d a=>a h b
theorem kD.ind{ρ:aN G}{c:∀ (a:Halt) (b:Halt),kD ρ a b→Prop}(panic:∀ {v e:RB} (h:aq ρ v e),c _ _ (kD.panic h))(same:∀ (h:Halt) (d:oD h=true),c _ _ (kD.same h d)){a:Halt}{b:Halt}(h:kD ρ a b):c a b h:=(h (fun a b=>kD ρ a b∧∀ h,c a b h) (fun h=>⟨kD.panic h,fun _=>panic h⟩) (fun h d=>⟨kD.same h d,fun _=>same h d⟩)).2 h
end
section
variable {G:k8}{bu:Nat}
def an {α β:Type}(P P':RM)(A:aN G→α→β→Prop)(y:aN G)(z:T1 α)(C:T1 β):Prop:=∀ d:aN G→T1 α→T1 β→Prop,(∀ {a:aN G} {e:α} {l:β} (f:A a e l),d a (.pure e) (.pure l))→(∀ {a:aN G} {m:Mode} {e i:Sl} {b:RB→T1 α} {c:RB→T1 β} (p:cy a e i) (f:∀ v o,aq a v o→d a (b v) (c o)),d a (.load m e b) (.load m i c))→(∀ {a:aN G} {m:Mode} {e i:Sl} {v o:RB} {b:T1 α} {c:T1 β} (p:cy a e i) (D:aq a v o) (f:d a b c),d a (.store m e v b) (.store m i o c))→(∀ {a:aN G} {j k:UQ} {b:Nat→T1 α} {c:Nat→T1 β} (x:dg a j k) (f:∀ g h (w:OB a g h),d (a.ext g h w) (b g) (c h)),d a (.new j b) (.new k c))→(∀ {a:aN G} {g h:Nat} {b:Option (RO×Nat)→T1 α} {c:Option (RO×Nat)→T1 β} (q:a.f g=Ry h) (f:∀ s,d a (b s) (c s)),d a (.shape g b) (.shape h c))→(∀ {a:aN G} {e i:Sl} {n:Nat} {b:T1 α} {c:T1 β} (p:cy a e i) (f:d a b c),d a (.freeze e n b) (.freeze i n c))→(∀ {a:aN G} {e i:Sl} {b:Bool→T1 α} {c:Bool→T1 β} (p:cy a e i) (f:∀ l,d a (b l) (c l)),d a (.frozen e b) (.frozen i c))→(∀ {a:aN G} {g h:Nat} {b:UQ→T1 α} {c:UQ→T1 β} (q:a.f g=Ry h) (f:∀ j k,dg a j k→d a (b j) (c k)),d a (.getObj g b) (.getObj h c))→(∀ {a:aN G} {g h:Nat} {j k:UQ} {b:T1 α} {c:T1 β} (q:a.f g=Ry h) (x:dg a j k) (f:d a b c),d a (.setObj g j b) (.setObj h k c))→(∀ {a:aN G} {r:Question} {b:Nat→T1 α} {c:Nat→T1 β} (f:∀ n,d a (b n) (c n)),d a (.choose r b) (.choose r c))→(∀ {a:aN G} {b:RM→T1 α} {c:RM→T1 β} (f:d a (b P) (c P')),d a (.program b) (.program c))→(∀ {a:aN G} {b:T1 α} {c:T1 β} (f:d a b c),d a (.mark .noRoom b) (.mark .noRoom c))→(∀ {a:aN G} {t u:Halt} (f:kD a t u),d a (.halt t) (.halt u))→d y z C
theorem an.pure{α β:Type}{P P':RM}{A:aN G→α→β→Prop}{ρ:aN G}{a:α}{b:β}(h:A ρ a b):an P P' A ρ (.pure a) (.pure b):=fun d c j k l m n o p q e f g i=>c h
theorem an.load{α β:Type}{P P':RM}{A:aN G→α→β→Prop}{ρ:aN G}{m:Mode}{a a':Sl}{k:RB→T1 α}{k':RB→T1 β}(t:cy ρ a a')(h:∀ v c,aq ρ v c→an P P' A ρ (k v) (k' c)):an P P' A ρ (.load m a k) (.load m a' k'):=fun d e b l n o p q r s f g i j=>b t (fun u w x=>h u w x d e b l n o p q r s f g i j)
theorem an.store{α β:Type}{P P':RM}{A:aN G→α→β→Prop}{ρ:aN G}{m:Mode}{a a':Sl}{v c:RB}{k:T1 α}{k':T1 β}(t:cy ρ a a')(u:aq ρ v c)(h:an P P' A ρ k k'):an P P' A ρ (.store m a v k) (.store m a' c k'):=fun d e l b n o p q r s f g i j=>b t u (h d e l b n o p q r s f g i j)
theorem an.new{α β:Type}{P P':RM}{A:aN G→α→β→Prop}{ρ:aN G}{o o':UQ}{k:Nat→T1 α}{k':Nat→T1 β}(t:dg ρ o o')(h:∀ r r' (s:OB ρ r r'),an P P' A (ρ.ext r r' s) (k r) (k' r')):an P P' A ρ (.new o k) (.new o' k'):=fun b c i j a l m n p q d e f g=>a t (fun u v w=>h u v w b c i j a l m n p q d e f g)
theorem an.shape{α β:Type}{P P':RM}{A:aN G→α→β→Prop}{ρ:aN G}{r r':Nat}{k:Option (RO×Nat)→T1 α}{k':Option (RO×Nat)→T1 β}(q:ρ.f r=Ry r')(h:∀ s,an P P' A ρ (k s) (k' s)):an P P' A ρ (.shape r k) (.shape r' k'):=fun b c i j l a m n o p d e f g=>a q (fun t=>h t b c i j l a m n o p d e f g)
theorem an.freeze{α β:Type}{P P':RM}{A:aN G→α→β→Prop}{ρ:aN G}{a a':Sl}{n:Nat}{k:T1 α}{k':T1 β}(s:cy ρ a a')(h:an P P' A ρ k k'):an P P' A ρ (.freeze a n k) (.freeze a' n k'):=fun c d j l m o b p q r e f g i=>b s (h c d j l m o b p q r e f g i)
theorem an.frozen{α β:Type}{P P':RM}{A:aN G→α→β→Prop}{ρ:aN G}{a a':Sl}{k:Bool→T1 α}{k':Bool→T1 β}(s:cy ρ a a')(h:∀ b,an P P' A ρ (k b) (k' b)):an P P' A ρ (.frozen a k) (.frozen a' k'):=fun d e l m n o p c q r f g i j=>c s (fun t=>h t d e l m n o p c q r f g i j)
theorem an.getObj{α β:Type}{P P':RM}{A:aN G→α→β→Prop}{ρ:aN G}{r r':Nat}{k:UQ→T1 α}{k':UQ→T1 β}(s:ρ.f r=Ry r')(h:∀ o o',dg ρ o o'→an P P' A ρ (k o) (k' o')):an P P' A ρ (.getObj r k) (.getObj r' k'):=fun b c i j l m n p a q d e f g=>a s (fun t u v=>h t u v b c i j l m n p a q d e f g)
theorem an.setObj{α β:Type}{P P':RM}{A:aN G→α→β→Prop}{ρ:aN G}{r r':Nat}{o o':UQ}{k:T1 α}{k':T1 β}(t:ρ.f r=Ry r')(s:dg ρ o o')(h:an P P' A ρ k k'):an P P' A ρ (.setObj r o k) (.setObj r' o' k'):=fun b c i j l m n p q a d e f g=>a t s (h b c i j l m n p q a d e f g)
theorem an.choose{α β:Type}{P P':RM}{A:aN G→α→β→Prop}{ρ:aN G}{q:Question}{k:Nat→T1 α}{k':Nat→T1 β}(h:∀ n,an P P' A ρ (k n) (k' n)):an P P' A ρ (.choose q k) (.choose q k'):=fun b c g i j l m o p r a d e f=>a (fun s=>h s b c g i j l m o p r a d e f)
theorem an.program{α β:Type}{P P':RM}{A:aN G→α→β→Prop}{ρ:aN G}{k:RM→T1 α}{k':RM→T1 β}(h:an P P' A ρ (k P) (k' P')):an P P' A ρ (.program k) (.program k'):=fun b c g i j l m n o p d a e f=>a (h b c g i j l m n o p d a e f)
theorem an.room{α β:Type}{P P':RM}{A:aN G→α→β→Prop}{ρ:aN G}{k:T1 α}{k':T1 β}(h:an P P' A ρ k k'):an P P' A ρ (.mark .noRoom k) (.mark .noRoom k'):=fun b c g i j l m n o p d e a f=>a (h b c g i j l m n o p d e a f)
theorem an.halt{α β:Type}{P P':RM}{A:aN G→α→β→Prop}{ρ:aN G}{x a:Halt}(h:kD ρ x a):an P P' A ρ (.halt x) (.halt a):=fun c d i j k l m n o p e f g b=>b h
theorem an.ind{α β:Type}{P P':RM}{A:aN G→α→β→Prop}{d:∀ (l:aN G) (p:T1 α) (t:T1 β),an P P' A l p t→Prop}(pure:∀ {ρ:aN G} {a:α} {b:β} (h:A ρ a b),d ρ (.pure a) (.pure b) (an.pure h))(load:∀ {ρ:aN G} {m:Mode} {a a':Sl} {k:RB→T1 α} {k':RB→T1 β} (g:cy ρ a a') (h:∀ v u,aq ρ v u→an P P' A ρ (k v) (k' u)),(∀ c e f,d _ _ _ (h c e f))→d ρ (.load m a k) (.load m a' k') (an.load g h))(store:∀ {ρ:aN G} {m:Mode} {a a':Sl} {v u:RB} {k:T1 α} {k':T1 β} (g:cy ρ a a') (w:aq ρ v u) (h:an P P' A ρ k k'),(d _ _ _ h)→d ρ (.store m a v k) (.store m a' u k') (an.store g w h))(new:∀ {ρ:aN G} {o o':UQ} {k:Nat→T1 α} {k':Nat→T1 β} (j:dg ρ o o') (h:∀ r r' (z:OB ρ r r'),an P P' A (ρ.ext r r' z) (k r) (k' r')),(∀ c e f,d _ _ _ (h c e f))→d ρ (.new o k) (.new o' k') (an.new j h))(shape:∀ {ρ:aN G} {r r':Nat} {k:Option (RO×Nat)→T1 α} {k':Option (RO×Nat)→T1 β} (i:ρ.f r=some r') (h:∀ s,an P P' A ρ (k s) (k' s)),(∀ c,d _ _ _ (h c))→d ρ (.shape r k) (.shape r' k') (an.shape i h))(freeze:∀ {ρ:aN G} {a a':Sl} {n:Nat} {k:T1 α} {k':T1 β} (g:cy ρ a a') (h:an P P' A ρ k k'),(d _ _ _ h)→d ρ (.freeze a n k) (.freeze a' n k') (an.freeze g h))(frozen:∀ {ρ:aN G} {a a':Sl} {k:Bool→T1 α} {k':Bool→T1 β} (g:cy ρ a a') (h:∀ b,an P P' A ρ (k b) (k' b)),(∀ c,d _ _ _ (h c))→d ρ (.frozen a k) (.frozen a' k') (an.frozen g h))(getObj:∀ {ρ:aN G} {r r':Nat} {k:UQ→T1 α} {k':UQ→T1 β} (i:ρ.f r=some r') (h:∀ o o',dg ρ o o'→an P P' A ρ (k o) (k' o')),(∀ c e f,d _ _ _ (h c e f))→d ρ (.getObj r k) (.getObj r' k') (an.getObj i h))(setObj:∀ {ρ:aN G} {r r':Nat} {o o':UQ} {k:T1 α} {k':T1 β} (i:ρ.f r=some r') (j:dg ρ o o') (h:an P P' A ρ k k'),(d _ _ _ h)→d ρ (.setObj r o k) (.setObj r' o' k') (an.setObj i j h))(choose:∀ {ρ:aN G} {q:Question} {k:Nat→T1 α} {k':Nat→T1 β} (h:∀ n,an P P' A ρ (k n) (k' n)),(∀ c,d _ _ _ (h c))→d ρ (.choose q k) (.choose q k') (an.choose h))(program:∀ {ρ:aN G} {k:RM→T1 α} {k':RM→T1 β} (h:an P P' A ρ (k P) (k' P')),(d _ _ _ h)→d ρ (.program k) (.program k') (an.program h))(room:∀ {ρ:aN G} {k:T1 α} {k':T1 β} (h:an P P' A ρ k k'),(d _ _ _ h)→d ρ (.mark .noRoom k) (.mark .noRoom k') (an.room h))(halt:∀ {ρ:aN G} {x y:Halt} (h:kD ρ x y),d ρ (.halt x) (.halt y) (an.halt h)){l:aN G}{p:T1 α}{t:T1 β}(h:an P P' A l p t):d l p t h:=(h (fun l p t=>an P P' A l p t∧∀ h,d l p t h) (fun h=>⟨an.pure h,fun _=>pure h⟩) (fun g h=>⟨an.load g (fun c e f=>(h c e f).1),fun _=>load g (fun c e f=>(h c e f).1) (fun c e f=>(h c e f).2 _)⟩) (fun g w h=>⟨an.store g w h.1,fun _=>store g w h.1 (h.2 _)⟩) (fun j h=>⟨an.new j (fun c e f=>(h c e f).1),fun _=>new j (fun c e f=>(h c e f).1) (fun c e f=>(h c e f).2 _)⟩) (fun i h=>⟨an.shape i (fun c=>(h c).1),fun _=>shape i (fun c=>(h c).1) (fun c=>(h c).2 _)⟩) (fun g h=>⟨an.freeze g h.1,fun _=>freeze g h.1 (h.2 _)⟩) (fun g h=>⟨an.frozen g (fun c=>(h c).1),fun _=>frozen g (fun c=>(h c).1) (fun c=>(h c).2 _)⟩) (fun i h=>⟨an.getObj i (fun c e f=>(h c e f).1),fun _=>getObj i (fun c e f=>(h c e f).1) (fun c e f=>(h c e f).2 _)⟩) (fun i j h=>⟨an.setObj i j h.1,fun _=>setObj i j h.1 (h.2 _)⟩) (fun h=>⟨an.choose (fun c=>(h c).1),fun _=>choose (fun c=>(h c).1) (fun c=>(h c).2 _)⟩) (fun h=>⟨an.program h.1,fun _=>program h.1 (h.2 _)⟩) (fun h=>⟨an.room h.1,fun _=>room h.1 (h.2 _)⟩) (fun h=>⟨an.halt h,fun _=>halt h⟩)).2 h
section
variable {P P':RM}{α β γ δ:Type}{A:aN G→α→β→Prop}{B:aN G→γ→δ→Prop}
theorem an.bind{ρ:aN G}{s:T1 α}{s':T1 β}{f:α→T1 γ}{f':β→T1 δ}(h:an P P' A ρ s s')(d:∀ σ a b,ρ.le σ→A σ a b→an P P' B σ (f a) (f' b)):an P P' B ρ (s.bind f) (s'.bind f'):=by
 induction h using an.ind with
 |pure h=>exact d _ _ _ (aN.le.refl _) h
 |load g _ c=>exact .load g (fun v r j=>c v r j d)
 |store g j _ c=>exact .store g j (c d)
 |new i _ c=>exact .new i (fun p q e=>c p q e (fun σ a b l k=>d σ a b ((aN.Kt e).trans l) k))
 |shape e _ c=>exact .shape e (fun s=>c s d)
 |freeze g _ c=>exact .freeze g (c d)
 |frozen g _ c=>exact .frozen g (fun b=>c b d)
 |getObj e _ c=>exact .getObj e (fun n o i=>c n o i d)
 |setObj e i _ c=>exact .setObj e i (c d)
 |choose _ c=>exact .choose (fun m=>c m d)
 |program _ c=>exact .program (c d)
 |room _ c=>exact .room (c d)
 |halt h=>exact .halt h
end
def jx (σ:aN G)(e:SV):Prop:=match e.loc with
 | .cell b=>∃ a,σ.f a=Ry b.block
 | .obj c=>∃ a,σ.f a=Ry c
 | .mark .noRoom=>True
 |_=>False
theorem jx.mono{ρ σ:aN G}(c:ρ.le σ){e:SV}(h:jx ρ e):jx σ e:=by
 unfold jx at*
 split<;>simp_all
 ·obtain⟨a,b⟩:=h;exact⟨a,c _ _ b⟩
 ·obtain⟨a,b⟩:=h;exact⟨a,c _ _ b⟩
structure Fr(ρ σ:aN G)(w w1:RD):Prop where
 le:ρ.le σ
 os:w1.os=w.os
 output:w1.output=w.output
 tape:w1.tape=w.tape
 drawn:w.drawn≤w1.drawn
 size:w.heap.size≤w1.heap.size
 keep:∀ b',(∀ b,σ.f b≠Ry b')→b'<w.heap.size→w1.heap[b']? =w.heap[b']?
 fresh:∀ b b',σ.f b=Ry b'→ρ.f b=Ry b'∨w.heap.size≤b'
 all:∀ b',w.heap.size≤b'→b'<w1.heap.size→∃ b,σ.f b=Ry b'
theorem Fr.refl(ρ:aN G)(w:RD):Fr ρ ρ w w:=⟨aN.le.refl _,rfl,rfl,rfl,RG _,RG _,fun _ _ _=>rfl,fun _ _ a=>.inl a,fun _ c b=>absurd b (by omega)⟩
theorem Fr.trans{ρ σ k:aN G}{w g j:RD}(h:Fr ρ σ w g)(a:Fr σ k g j):Fr ρ k w j:=
 ⟨h.le.trans a.le,a.os.trans h.os,a.output.trans h.output,a.tape.trans h.tape,R4 h.drawn a.drawn,R4 h.size a.size,
  fun b d i=>(a.keep b d (RK i h.size)).trans (h.keep b (fun c l=>d c (a.le _ _ l)) i),
  fun c b d=>by
   rcases a.fresh c b d with e|e
   ·exact h.fresh c b e
   ·exact .inr (R4 h.size e),
  fun b e m=>by
   rcases Ts b g.heap.size with f|f
   ·obtain⟨c,d⟩:=h.all b e f;exact⟨c,a.le _ _ d⟩
   ·exact a.all b f m⟩
def Result.drawn{α:Type}:Vb α→Nat
 | .ok _ a=>a.drawn
 | .halt _ a=>a.drawn
theorem GU{α:Type}(a:Ask α):∀ w:RD,w.drawn≤(w.ask a).2.drawn:=by
 induction a with
 |done a=>intro w;exact RG _
 |ask e d c b=>
  intro w;unfold World.ask;dsimp only
  split
  ·exact b _ w
  ·exact R4 (Nat.le_succ _) (b _ {w with drawn:=w.drawn+1})
theorem Jh(w:RD)(c:Sys):w.drawn≤(w.sys c).2.drawn:=by
 have a:=GU (Kernel.perform c w.os) w;unfold World.sys;generalize w.ask (Kernel.perform c w.os)=d at a;obtain⟨⟨b,e⟩,f⟩:=d;cases b<;>first|exact a|exact RG _
theorem FJ{P:RM}{w c:RD}{a k:Sl}{u:RO}{v:RB}{b:Bool}{l:List Sl}(h:w.viewStore P a u k v b= .ok (c,l)):c.drawn=w.drawn:=by
 unfold World.viewStore at h;simp only[bind,Except.bind,pure,Except.pure,throw,throwThe,VW] at h
 repeat' split at h
 all_goals first
  |(cases h;rfl)
  |(cases h;done)
  |(simp at h;done)
theorem Hu{P:RM}{w c:RD}{a:Sl}{v:RB}{b:Bool}{l:List Sl}(h:w.farStore P a v b= .ok (c,l)):c.drawn=w.drawn:=by
 unfold UU at h
 split at h
 ·split at h
  ·rename_i d;cases h;exact FJ d
  ·cases h
 ·cases h
theorem IS{α:Type}(P:RM)(s:T1 α):∀ (w:RD) (es:Array SV),w.drawn≤Result.drawn (s.runT P w es).1:=by
 induction s with
 |pure c=>intro w es;exact RG _
 |load m c b a=>
  intro w es;simp only[SE]
  split
  ·exact a _ w _
  ·split
   ·exact a _ w _
   ·exact RG _
 |store m c v b a=>
  intro w es;have k:∀ d:RD,d.drawn=w.drawn→w.drawn≤Result.drawn (b.runT P d es).1:=fun d h=>by rw[← h];exact a d _
  cases v<;>simp only[SE]<;>first|exact RG _|skip
  all_goals
   split
   ·split
    ·exact RG _
    ·exact a (w.setCell c _) _
   ·split
    ·rename_i i;have:=Hu i;rw[← this];exact a _ _
    ·exact RG _
 |new e b a=>intro w es;simp only[SE];exact a _ {w with heap:=w.heap.push e} _
 |shape f b a=>intro w es;simp only[SE];exact a _ w _
 |freeze c j b a=>intro w es;simp only[SE];exact R4 (by unfold Tw;split<;>exact RG _) (a (w.freeze c j) _)
 |frozen c b a=>intro w es;simp only[SE];exact a _ w _
 |getObj f b a=>intro w es;simp only[SE];split<;>first|exact RG _|exact a _ w _
 |setObj f e b a=>intro w es;simp only[SE];split<;>first|exact RG _|exact a {w with heap:=w.heap.setIfInBounds f e} _
 |choose l b a=>
  intro w es;simp only[SE]
  split
  ·exact a _ w _
  ·exact R4 (Nat.le_succ _) (a _ {w with drawn:=w.drawn+1} _)
 |sys g b a=>intro w es;simp only[SE];exact R4 (Jh w g) (a _ (w.sys g).2 _)
 |program b a=>intro w es;simp only[SE];exact a _ w _
 |mark m b a=>intro w es;simp only[SE];exact a w _
 |halt h=>intro w es;exact RG _
def iG (es:Array SV):Prop:=∀ a∈es,a.loc≠.output
theorem iG.push{es:Array SV}(h:iG es){e:SV}(b:e.loc≠.output):iG (es.push e):=fun c a=>by
 rcases Array.mem_push.1 a with a|rfl
 ·exact h c a
 ·exact b
def fc {α β:Type}(A:aN G→α→β→Prop)(ρ:aN G)(t:Nat)(w':RD)(v:Vb α×Array SV)(w:Vb β×Array SV):Prop:=∀ e:Vb α×Array SV→Vb β×Array SV→Prop,(∀ {b:aN G} {g:Nat} {f:α} {j:β} {a d:RD} {c h:Array SV} (p:A b f j) (s:ea b g a d) (r:Fr ρ b w' d) (q:∀ l∈h,jx b l) (n:a.drawn+g=t) (m:iG c),e (.ok f a,c) (.ok j d,h))→(∀ {b:aN G} {g:Nat} {i k:Halt} {a d:RD} {c h:Array SV} (u:kD b i k) (s:ea b g a d) (r:Fr ρ b w' d) (q:∀ l∈h,jx b l) (n:a.drawn+g=t) (m:iG c),e (.halt i a,c) (.halt k d,h))→(∀ {b:aN G} {f:α} {j:β} {a:RD} {c:Array SV} {o:Vb β×Array SV} (p:A b f j) (n:t<a.drawn) (m:iG c),e (.ok f a,c) o)→(∀ {b:aN G} {i k:Halt} {a:RD} {c:Array SV} {o:Vb β×Array SV} (u:kD b i k) (n:t<a.drawn) (m:iG c),e (.halt i a,c) o)→e v w
theorem fc.ok{α β:Type}{A:aN G→α→β→Prop}{ρ:aN G}{t:Nat}{w':RD}{σ:aN G}{b1:Nat}{a:α}{b:β}{c w1':RD}{es d:Array SV}(g:A σ a b)(l:ea σ b1 c w1')(i:Fr ρ σ w' w1')(h:∀ e∈d,jx σ e)(k:c.drawn+b1=t)(j:iG es):fc A ρ t w' (.ok a c,es) (.ok b w1',d):=fun m f n o p=>f g l i h k j
theorem fc.halt{α β:Type}{A:aN G→α→β→Prop}{ρ:aN G}{t:Nat}{w':RD}{σ:aN G}{b1:Nat}{x c:Halt}{a w1':RD}{es b:Array SV}(k:kD σ x c)(j:ea σ b1 a w1')(g:Fr ρ σ w' w1')(f:∀ e∈b,jx σ e)(i:a.drawn+b1=t)(h:iG es):fc A ρ t w' (.halt x a,es) (.halt c w1',b):=fun l m d n o=>d k j g f i h
theorem fc.over{α β:Type}{A:aN G→α→β→Prop}{ρ:aN G}{t:Nat}{w':RD}{σ:aN G}{a:α}{b:β}{c:RD}{es:Array SV}{r:Vb β×Array SV}(e:A σ a b)(g:t<c.drawn)(f:iG es):fc A ρ t w' (.ok a c,es) r:=fun h i j d k=>d e g f
theorem fc.mX{α β:Type}{A:aN G→α→β→Prop}{ρ:aN G}{t:Nat}{w':RD}{σ:aN G}{x f:Halt}{a:RD}{es:Array SV}{r:Vb β×Array SV}(e:kD σ x f)(d:t<a.drawn)(c:iG es):fc A ρ t w' (.halt x a,es) r:=fun g h i j b=>b e d c
theorem fc.ind{α β:Type}{A:aN G→α→β→Prop}{ρ:aN G}{t:Nat}{w':RD}{o:∀ (m:Vb α×Array SV) (n:Vb β×Array SV),fc A ρ t w' m n→Prop}(ok:∀ {σ:aN G} {b1:Nat} {a:α} {b:β} {f w1':RD} {es p:Array SV} (g:A σ a b) (k:ea σ b1 f w1') (j:Fr ρ σ w' w1') (i:∀ e∈p,jx σ e) (d:f.drawn+b1=t) (c:iG es),o (.ok a f,es) (.ok b w1',p) (fc.ok g k j i d c))(halt:∀ {σ:aN G} {b1:Nat} {x q:Halt} {f w1':RD} {es p:Array SV} (l:kD σ x q) (k:ea σ b1 f w1') (j:Fr ρ σ w' w1') (i:∀ e∈p,jx σ e) (d:f.drawn+b1=t) (c:iG es),o (.halt x f,es) (.halt q w1',p) (fc.halt l k j i d c))(over:∀ {σ:aN G} {a:α} {b:β} {f:RD} {es:Array SV} {r:Vb β×Array SV} (g:A σ a b) (d:t<f.drawn) (c:iG es),o (.ok a f,es) r (fc.over g d c))(mX:∀ {σ:aN G} {x q:Halt} {f:RD} {es:Array SV} {r:Vb β×Array SV} (l:kD σ x q) (d:t<f.drawn) (c:iG es),o (.halt x f,es) r (fc.mX l d c)){m:Vb α×Array SV}{n:Vb β×Array SV}(h:fc A ρ t w' m n):o m n h:=(h (fun m n=>fc A ρ t w' m n∧∀ h,o m n h) (fun g k j i d c=>⟨fc.ok g k j i d c,fun _=>ok g k j i d c⟩) (fun l k j i d c=>⟨fc.halt l k j i d c,fun _=>halt l k j i d c⟩) (fun g d c=>⟨fc.over g d c,fun _=>over g d c⟩) (fun l d c=>⟨fc.mX l d c,fun _=>mX l d c⟩)).2 h
theorem fc.after{α β:Type}{A:aN G→α→β→Prop}{ρ σ:aN G}{t:Nat}{w' w1':RD}{r:Vb α×Array SV}{r':Vb β×Array SV}(i:Fr ρ σ w' w1')(h:fc A σ t w1' r r'):fc A ρ t w' r r':=by
 cases h using fc.ind with
 |ok c f e d b a=>exact .ok c f (i.trans e) d b a
 |halt g f e d b a=>exact .halt g f (i.trans e) d b a
 |over c b a=>exact .over c b a
 |mX g b a=>exact .mX g b a
theorem fc.left{α β:Type}{A:aN G→α→β→Prop}{ρ l:aN G}{t e:Nat}{w' k:RD}{r:Vb α×Array SV}{r' j:Vb β×Array SV}(h:fc A ρ t w' r r')(b:e<Result.drawn r.1):fc A l e k r j:=by
 cases h using fc.ind with
 |ok c i g f _ a=>exact .over c b a
 |halt d i g f _ a=>exact .mX d b a
 |over c _ a=>exact .over c b a
 |mX d _ a=>exact .mX d b a
theorem ea.lt{ρ:aN G}{w w':RD}(h:ea ρ bu w w'){b b':Nat}(d:ρ.f b=Ry b'):b<w.heap.size∧b'<w'.heap.size:=by
 obtain⟨e,f,a,c,-⟩:=h.at_ b b' d;exact⟨(RH.1 a).1,(RH.1 c).1⟩
structure Oh(w W:RD)(b:Nat)(o:UQ):Prop where
 at_:W.heap[b]? =Ry o
 other:∀ c,c≠b→W.heap[c]? =w.heap[c]?
 size:W.heap.size=w.heap.size
 tape:W.tape=w.tape
 drawn:W.drawn=w.drawn
 os:W.os=w.os
 output:W.output=w.output
theorem ea.upd{ρ:aN G}{w w' i W':RD}(h:ea ρ bu w w'){b b':Nat}(j:ρ.f b=Ry b'){o o':UQ}(r:dg ρ o o')(c:Oh w i b o)(d:Oh w' W' b' o'):ea ρ bu i W':=by
 refine⟨by rw[c.size];exact h.gl,by rw[d.size];exact h.gr,fun e a f=>?_,fun s v q=>by rw[c.tape,c.drawn,d.tape,d.drawn];exact h.tape s v q⟩;by_cases g:e=b
 ·subst g;have:a=b':=by rw[j] at f;cases f;rfl
  subst this;exact⟨o,o',c.at_,d.at_,r⟩
 ·have k:a≠b':=fun l=>g (ρ.inj e b a f (by rw[l];exact j));obtain⟨t,u,m,n,p⟩:=h.at_ e a f;exact⟨t,u,(c.other e g).trans m,(d.other a k).trans n,p⟩
theorem Oh.fr{ρ:aN G}{w' W':RD}{b b':Nat}(e:ρ.f b=Ry b'){o':UQ}(h:Oh w' W' b' o'):Fr ρ ρ w' W':=
 ⟨aN.le.refl _,h.os,h.output,h.tape,by rw[h.drawn];exact RG _,by rw[h.size];exact RG _,fun a f _=>h.other a (fun c=>f b (by rw[c];exact e)),fun _ _ h=>.inl h,fun _ g d=>absurd d (by rw[h.size];omega)⟩
theorem uI{w:RD}{a:Sl}{c:Array RB}{t:RO}{b:Nat×Nat}(h:w.heap[a.block]? =Ry (.cells c t b))(v:RB):Oh w (w.setCell a v) a.block (.cells (if a.spot.isSome then c else c.setIfInBounds a.off v) t b):=by
 refine⟨?_,fun c d=>?_,by simp[Vn],rfl,rfl,rfl,rfl⟩
 ·simp[Vn,TB,h]
 ·simp[Vn,TB,Ne.symm d]
theorem yj{w:RD}{a:Sl}{n:Nat}(b:n≠0){c:Array RB}{t:RO}{d:Nat×Nat}(h:w.heap[a.block]? =Ry (.cells c t d)):Oh w (w.freeze a n) a.block (.cells c t (if d.1 == d.2 then(a.off,a.off+n) else(min d.1 a.off,max d.2 (a.off+n)))):=by
 obtain⟨g,f⟩:=d;refine⟨?_,fun c e=>?_,by simp[Tw,b],by simp[Tw,b],by simp[Tw,b],by simp[Tw,b],by simp[Tw,b]⟩
 ·simp[Tw,b,TB,h]
 ·simp[Tw,b,TB,Ne.symm e]
theorem gW{w:RD}{a:Sl}{n:Nat}(b:n≠0){o:UQ}(h:w.heap[a.block]? =Ry o)(f:∀ c t d,o≠.cells c t d):Oh w (w.freeze a n) a.block o:=by
 refine⟨?_,fun c e=>?_,by simp[Tw,b],by simp[Tw,b],by simp[Tw,b],by simp[Tw,b],by simp[Tw,b]⟩
 ·simp only[Tw,b,if_false,TB,h];cases o<;>first|rfl|exact absurd rfl (f _ _ _)
 ·simp[Tw,b,TB,Ne.symm e]
theorem yl{w:RD}{r:Nat}(o:UQ)(h:r<w.heap.size):Oh w {w with heap:=w.heap.setIfInBounds r o} r o:=
 ⟨by simp[Ss,h],fun b a=>by simp[Ty (Ne.symm a)],by simp,rfl,rfl,rfl,rfl⟩
theorem mT {ρ:aN G} {w w':RD} (h:ea ρ bu w w') {a a':Sl} (n:cy ρ a a'):(w.cell? a=RA∧w'.cell? a'=RA∧(∀ P b,w.farLoad P a b= .error (.stuck "load: no such cell"))∧(∀ P b,w'.farLoad P a' b= .error (.stuck "load: no such cell"))∧(∀ P v b,w.farStore P a v b= .error (.stuck "store: no such cell"))∧(∀ P v b,w'.farStore P a' v b= .error (.stuck "store: no such cell")))∨
 ∃ c i t j v k,w.heap[a.block]? =Ry (.cells c t j)∧w'.heap[a'.block]? =Ry (.cells i t j)∧aU ρ c i∧w.cell? a=Ry v∧w'.cell? a'=Ry k∧aq ρ v k:=by
 obtain⟨s,u,d,e,r⟩:=h.at_ _ _ n.1;have o:=n.2.1;have f:=n.2.2;cases r using dg.ind with
 |cells p t j=>
  rename_i c i;cases g:a.spot with
  |some x=>
   rw[g] at f;exact .inl ⟨by simp[R2,d,g],by simp[R2,e,← f],fun P b=>by simp[Vm,Um,d],fun P b=>by simp[Vm,Um,e],fun P v b=>by simp[UU,Um,d],fun P v b=>by simp[UU,Um,e]⟩
  |none=>
   rw[g] at f;rcases p.get a.off with⟨l,m⟩|⟨v,k,l,m,q⟩
   ·exact .inl ⟨by simp[R2,d,g,l],by simp[R2,e,← f,← o,m],fun P b=>by simp[Vm,Um,d],fun P b=>by simp[Vm,Um,e],fun P v b=>by simp[UU,Um,d],fun P v b=>by simp[UU,Um,e]⟩
   ·exact .inr ⟨c,i,t,j,v,k,d,e,p,by simp[R2,d,g,l],by simp[R2,e,← f,← o,m],q⟩
 |_=>exact .inl ⟨by simp[R2,d],by simp[R2,e],fun P b=>by simp[Vm,Um,d],fun P b=>by simp[Vm,Um,e],fun P v b=>by simp[UU,Um,d],fun P v b=>by simp[UU,Um,e]⟩
theorem wz{ρ:aN G}{w w':RD}(h:ea ρ bu w w'){a a':Sl}(d:cy ρ a a'):w.frozen? a=w'.frozen? a':=by
 obtain⟨j,k,b,c,f⟩:=h.at_ _ _ d.1;have e:=d.2.1;cases f using dg.ind with
 |cells i l g=>simp[SH,b,c,e]
 |_=>simp[SH,b,c]
theorem I7{ρ:aN G}{w w':RD}(h:ea ρ bu w w'){r r':Nat}(e:ρ.f r=Ry r'):w.shape? r=w'.shape? r':=by
 obtain⟨g,i,a,b,c⟩:=h.at_ _ _ e;cases c using dg.ind with
 |cells d j f=>simp[World.shape?,a,b,d.1]
 |_=>simp[World.shape?,a,b]
theorem ea.fresh{ρ:aN G}{w w':RD}(h:ea ρ bu w w'):OB ρ w.heap.size w'.heap.size:=by
 refine⟨?_,fun c a=>?_,h.gl,h.gr⟩
 ·cases b:ρ.f w.heap.size with
  |none=>rfl
  |some d=>have:=(h.lt b).1;omega
 ·have:=(h.lt a).2;omega
theorem ea.new{ρ:aN G}{w w':RD}(h:ea ρ bu w w'){o o':UQ}(j:dg ρ o o'):ea (ρ.ext w.heap.size w'.heap.size h.fresh) bu {w with heap:=w.heap.push o} {w' with heap:=w'.heap.push o'}∧Fr ρ (ρ.ext w.heap.size w'.heap.size h.fresh) w' {w' with heap:=w'.heap.push o'}:=by
 have e:=aN.Kt h.fresh;refine⟨⟨by have:=h.gl;simp;omega,by have:=h.gr;simp;omega,fun f b a=>?_,h.tape⟩,⟨e,rfl,rfl,rfl,RG _,by simp,fun b a k=>by simp[Sp,Nat.ne_of_lt k],fun f b a=>?_,fun b g d=>⟨w.heap.size,by
  have c:b=w'.heap.size:=by simp at d;omega
  rw[c];exact aN.vp _ _ _ _⟩⟩⟩
 ·unfold aN.ext at a;dsimp only at a
  split at a
  ·rename_i c;cases a;subst c;exact⟨o,o',by simp,by simp,j.mono e⟩
  ·obtain⟨l,m,g,d,i⟩:=h.at_ f b a;have:=h.lt a;exact⟨l,m,by simp[Sp,Nat.ne_of_lt this.1];simpa using g,by simp[Sp,Nat.ne_of_lt this.2];simpa using d,i.mono e⟩
 ·unfold aN.ext at a;dsimp only at a
  split at a
  ·cases a;exact .inr (RG _)
  ·exact .inl a
theorem lH{σ:aN G}{es:Array SV}(h:∀ e∈es,jx σ e){e:SV}(b:jx σ e):∀ x∈es.push e,jx σ x:=fun x a=>by
 rcases Array.mem_push.1 a with a|rfl
 ·exact h x a
 ·exact b
theorem an.runs{P P':RM}{α β:Type}{A:aN G→α→β→Prop}{ρ:aN G}{s:T1 α}{s':T1 β}(h:an P P' A ρ s s'):∀ (w w':RD) (es g:Array SV) (bu:Nat),ea ρ bu w w'→(∀ e∈g,jx ρ e)→iG es→fc A ρ (w.drawn+bu) w' (s.runT P w es) (s'.runT P' w' g):=by
 induction h using an.ind with
 |pure h=>intro w w' es g bu a b c;exact .ok h a (Fr.refl _ _) b rfl c
 |load i _ d=>
  intro w w' es g bu a b c;rcases mT a i with⟨j,f,o,Q,-⟩|⟨D,N,r,t,v,n,-,-,-,j,f,o⟩
  ·simp only[SE,j,f,o,Q];exact .halt (.same _ rfl) a (Fr.refl _ _) b rfl c
  ·simp only[SE,j,f];exact d v n o w w' _ _ _ a (lH b ⟨_,i.1⟩) (c.push (by simp))
 |store i al _ d=>
  intro w w' es g bu a b c;rename_i ρ m k y v n q C _;have U:(∀ x,v≠.agg x)→(∀ x,v≠.tuple x)→(∀ x,n≠.agg x)→(∀ x,n≠.tuple x)→fc A ρ (w.drawn+bu) w' ((Sem.store m k v q).runT P w es) ((Sem.store m y n C).runT P' w' g):=by
   intro a4 a5 a6 a7;have ab:=wz a i;rcases mT a i with⟨j,f,-,-,o,Q⟩|⟨D,N,r,t,bc,bd,ao,ar,Y,j,f,o⟩
   ·have H:(Sem.store m k v q).runT P w es=(.halt (.stuck "store: no such cell") w,es):=by cases v<;>first|exact absurd rfl (a4 _)|exact absurd rfl (a5 _)|simp only[SE,j,o]
    have I:(Sem.store m y n C).runT P' w' g=(.halt (.stuck "store: no such cell") w',g):=by cases n<;>first|exact absurd rfl (a6 _)|exact absurd rfl (a7 _)|simp only[SE,f,Q]
    rw[H,I];exact .halt (.same _ rfl) a (Fr.refl _ _) b rfl c
   ·cases am:w.frozen? k with
    |true=>
     rw[am] at ab;have H:(Sem.store m k v q).runT P w es=(.halt (.unsupported (.unsafePointer "a write to bytes that a string shares")) w,es):=by cases v<;>simp_all [SE]
     have I:(Sem.store m y n C).runT P' w' g=(.halt (.unsupported (.unsafePointer "a write to bytes that a string shares")) w',g):=by cases n<;>simp_all [SE]
     rw[H,I];exact .halt (.same _ rfl) a (Fr.refl _ _) b rfl c
    |false=>
     rw[am] at ab;have H:(Sem.store m k v q).runT P w es=q.runT P (w.setCell k v) (es.push ⟨.cell k,RF,m == .atomic⟩):=by cases v<;>simp_all [SE]
     have I:(Sem.store m y n C).runT P' w' g=C.runT P' (w'.setCell y n) (g.push ⟨.cell y,RF,m == .atomic⟩):=by cases n<;>simp_all [SE]
     rw[H,I];have K:dg ρ (.cells (if k.spot.isSome then D else D.setIfInBounds k.off v) r t) (.cells (if y.spot.isSome then N else N.setIfInBounds y.off n) r t):=by
      rw[← i.2.1,← i.2.2];refine .cells ?_ r t
      split
      ·exact Y
      ·exact Y.set al _
     have z:=uI ar n;exact fc.after (z.fr i.1) (d _ _ _ _ _ (a.upd i.1 K (uI ao v) z) (lH b ⟨_,i.1⟩) (c.push (by simp)))
  cases al using aq.ind with
  |agg a1 a2=>simp only[SE];exact .halt (.same _ rfl) a (Fr.refl _ _) b rfl c
  |tuple a1 a2=>simp only[SE];exact .halt (.same _ rfl) a (Fr.refl _ _) b rfl c
  |_=>exact U (by simp) (by simp) (by simp) (by simp)
 |new S _ d=>
  intro w w' es g bu a b c;obtain⟨j,f⟩:=a.new S;simp only[SE];exact fc.after f (d _ _ a.fresh _ _ _ _ _ j (fun e a0=>(b e a0).mono f.le) c)
 |shape l _ d=>
  intro w w' es g bu a b c;simp only[SE];rw[I7 a l];exact d _ w w' _ _ _ a b c
 |freeze i _ d=>
  intro w w' es g bu a b c;rename_i ρ k y F q C _;simp only[SE];by_cases p:F=0
  ·subst p;simp only[Tw,if_pos];exact d w w' _ _ _ a b c
  ·obtain⟨W,X,j,f,o⟩:=a.at_ _ _ i.1;have aw:w.drawn=(w.freeze k F).drawn:=by unfold Tw;split<;>rfl
   rw[aw];cases o using dg.ind with
   |cells R r t=>
    have z:=yj (n:=F) p f;have K:dg ρ _ _:=.cells R r (if t.1 == t.2 then(k.off,k.off+F) else(min t.1 k.off,max t.2 (k.off+F)));have ae:=yj (n:=F) p j;rw[i.2.1] at ae K;exact fc.after (z.fr i.1) (d _ _ _ _ _ (a.upd i.1 K ae z) b c)
   |map T J a3=>exact fc.after ((gW p f (fun _ _ _ e=>by cases e)).fr i.1) (d _ _ _ _ _ (a.upd i.1 (.map T J a3) (gW p j (fun _ _ _ e=>by cases e)) (gW p f (fun _ _ _ e=>by cases e))) b c)
   |chan D E O s M r=>exact fc.after ((gW p f (fun _ _ _ e=>by cases e)).fr i.1) (d _ _ _ _ _ (a.upd i.1 (.chan D E O s M r) (gW p j (fun _ _ _ e=>by cases e)) (gW p f (fun _ _ _ e=>by cases e))) b c)
   |number E V=>exact fc.after ((gW p f (fun _ _ _ e=>by cases e)).fr i.1) (d _ _ _ _ _ (a.upd i.1 (.number E V) (gW p j (fun _ _ _ e=>by cases e)) (gW p f (fun _ _ _ e=>by cases e))) b c)
 |frozen i _ d=>
  intro w w' es g bu a b c;simp only[SE];rw[wz a i];exact d _ w w' _ _ _ a b c
 |getObj l _ d=>
  intro w w' es g bu a b c;obtain⟨W,X,j,f,o⟩:=a.at_ _ _ l;cases o using dg.ind with
  |cells R r t=>
   simp only[SE,j,f];exact .halt (.same _ rfl) a (Fr.refl _ _) b rfl c
  |map T J q=>
   simp only[SE,j,f];exact d _ _ (.map T J q) w w' _ _ _ a (lH b ⟨_,l⟩) (c.push (by simp))
  |chan D E O s M r=>
   simp only[SE,j,f];exact d _ _ (.chan D E O s M r) w w' _ _ _ a (lH b ⟨_,l⟩) (c.push (by simp))
  |number E V=>
   simp only[SE,j,f];exact d _ _ (.number E V) w w' _ _ _ a (lH b ⟨_,l⟩) (c.push (by simp))
 |setObj l S _ d=>
  intro w w' es g bu a b c;rename_i ρ M bb W X q C _;obtain⟨a9,ba,j,f,o⟩:=a.at_ _ _ l;cases o using dg.ind with
  |cells R r t=>
   simp only[SE,j,f];exact .halt (.same _ rfl) a (Fr.refl _ _) b rfl c
  |_=>
   simp only[SE,j,f];have ad:=a.lt l;have z:=yl (w:=w') X ad.2;exact fc.after (z.fr l) (d _ _ _ _ _ (a.upd l S (yl W ad.1) z) (lH b ⟨_,l⟩) (c.push (by simp)))
 |choose _ d=>
  intro w w' es g bu a b c;rename_i ρ u q C _;simp only[SE]
  split
  ·exact d 0 w w' _ _ _ a b c
  ·cases bu with
   |zero=>
    have J:=IS P (q (u.cut (w.tape w.drawn u))) {w with drawn:=w.drawn+1} es;have l:=d (u.cut (w.tape w.drawn u)) {w with drawn:=w.drawn+1} {w' with tape:=fun L x=>w.tape (w.drawn+1+(L - w'.drawn)) x} es g (Result.drawn ((q (u.cut (w.tape w.drawn u))).runT P {w with drawn:=w.drawn+1} es).1) ⟨a.gl,a.gr,a.at_,fun L x _=>by simp⟩ b c;exact l.left J
   |succ bu=>
    have Z:=a.tape 0 u (by omega);simp only[Nat.add_zero] at Z;rw[Z];have U:=d (u.cut (w'.tape w'.drawn u)) {w with drawn:=w.drawn+1} {w' with drawn:=w'.drawn+1} es g bu ⟨a.gl,a.gr,a.at_,fun L u a8=>by
     have:=a.tape (1+L) u (by omega);simpa [SL] using this⟩ b c
    have e:w.drawn+(bu+1)=w.drawn+1+bu:=by omega
    rw[e];exact fc.after (σ:=ρ) (w1':={w' with drawn:=w'.drawn+1}) ⟨aN.le.refl _,rfl,rfl,rfl,by simp,RG _,fun _ _ _=>rfl,fun _ _ h=>.inl h,fun _ j f=>absurd f (by simp;omega)⟩ U
 |program _ d=>intro w w' es g bu a b c;simp only[SE];exact d w w' _ _ _ a b c
 |room _ d=>intro w w' es g bu a b c;simp only[SE];exact d w w' _ _ _ a (lH b trivial) (c.push (by simp))
 |halt h=>intro w w' es g bu a b c;exact .halt h a (Fr.refl _ _) b rfl c
end
section
variable {G:k8}
structure uN(P P':RM):Prop where
 info:∀ t,P'.info? t=P.info? t
 so:∀ t,P'.underlying t=P.underlying t
 rt:P'.rt=P.rt
 zero:∀ t i v,P.info? t=Ry i→i.zero=Ry v→∀ (G:k8) (ρ:aN G),aq ρ v v
def ir (ρ:aN G)(e:List RB)(f:List RB):Prop:=∀ a:List RB→List RB→Prop,(a [] [])→(∀ {v d:RB} {b c:List RB} (g:aq ρ v d) (h:a b c),a (v :: b) (d :: c))→a e f
theorem ir.nil{ρ:aN G}:ir ρ [] []:=fun b a c=>a
theorem ir.cons{ρ:aN G}{v c:RB}{l b:List RB}(h:aq ρ v c)(f:ir ρ l b):ir ρ (v :: l) (c :: b):=fun d e a=>a h (f d e a)
theorem ir.ind{ρ:aN G}{d:∀ (a:List RB) (b:List RB),ir ρ a b→Prop}(nil:d _ _ (ir.nil))(cons:∀ {v f:RB} {l e:List RB} (h:aq ρ v f) (c:ir ρ l e),(d _ _ c)→d _ _ (ir.cons h c)){a:List RB}{b:List RB}(h:ir ρ a b):d a b h:=(h (fun a b=>ir ρ a b∧∀ h,d a b h) (⟨ir.nil,fun _=>nil⟩) (fun h c=>⟨ir.cons h c.1,fun _=>cons h c.1 (c.2 _)⟩)).2 h
theorem Gd{ρ:aN G}:∀ (l a:List RB),l.length=a.length→(∀ i (h:i<l.length) (e:i<a.length),aq ρ l[i] a[i])→ir ρ l a
 | [],[],_,_=>.nil
 | [],_ :: _,h,_=>by simp at h
 |_ :: _,[],h,_=>by simp at h
 |v :: l,f :: a,h,b=>.cons (b 0 (by simp) (by simp)) (Gd l a (by simpa using h) (fun i c d=>b (i+1) (by simpa using c) (by simpa using d)))
theorem aU.toList{ρ:aN G}{x a:Array RB}(h:aU ρ x a):ir ρ x.toList a.toList:=
 Gd _ _ (by simpa using h.1) (fun d b c=>by simpa using h.2 d (by simpa using b) (by simpa using c))
theorem ir.toArray{ρ:aN G}{l c:List RB}(h:ir ρ l c):aU ρ l.toArray c.toArray:=by
 induction h using ir.ind with
 |nil=>exact aU.nil _
 |cons f _ b=>
  refine⟨by simpa using b.1,fun a d e=>?_⟩;cases a with
  |zero=>exact f
  |succ a=>exact b.2 a (by simpa using d) (by simpa using e)
def ig {α:Type}(_:aN G)(a b:α):Prop:=a=b
section
variable {P P':RM}{α β γ δ:Type}{A:aN G→α→β→Prop}{B:aN G→γ→δ→Prop}{ρ:aN G}
theorem an.bindM{s:T1 α}{s':T1 β}{f:α→T1 γ}{f':β→T1 δ}(h:an P P' A ρ s s')(c:∀ σ a b,ρ.le σ→A σ a b→an P P' B σ (f a) (f' b)):an P P' B ρ (s >>= f) (s' >>= f'):=h.bind c
theorem an.av{a:α}{b:β}(h:A ρ a b):an P P' A ρ (Pure.pure a) (Pure.pure b):=.pure h
theorem an.stuck{w:String}:an P P' A ρ (Go.stuck w) (Go.stuck w):=.halt (.same _ rfl)
theorem an.cS{u:Unsupported}(a:oD (.unsupported u)=RF:=by rfl):an P P' A ρ (Go.unsupported u) (Go.unsupported u):=.halt (.same _ a)
theorem an.panics{v a:RB}(h:aq ρ v a):an P P' A ρ (Go.goPanic v) (Go.goPanic a):=.halt (.panic h)
theorem an.asks{k:RM→T1 α}{k':RM→T1 β}(h:an P P' A ρ (k P) (k' P')):an P P' A ρ (Go.program >>= k) (Go.program >>= k'):=.program h
theorem eV(S:uN P P')(t:RO):an P P' (fun _ (i a:Ur)=>i=a∧P.info? t=Ry i) ρ (UE t) (UE t):=by
 unfold UE;refine .asks ?_;rw[S.info];cases b:P.info? t with
 |none=>exact .stuck
 |some i=>exact .av ⟨rfl,rfl⟩
theorem aO(S:uN P P')(t:RO):an P P' (fun _ (i a:TypeDesc)=>i=a∧P.underlying t=Ry i) ρ (UK t) (UK t):=by
 unfold UK;refine .asks ?_;rw[S.so];cases b:P.underlying t with
 |none=>exact .stuck
 |some i=>exact .av ⟨rfl,rfl⟩
theorem cF(S:uN P P')(t:RO):an P P' (ig (α:=Nat)) ρ (VH t) (VH t):=by
 unfold VH;exact(eV S t).bindM (fun d b c _ a=>.av (by rw[a.1];rfl))
theorem iS(S:uN P P')(t:RO):an P P' aq ρ (TO t) (TO t):=by
 unfold TO;refine(eV S t).bindM (fun e a f _ b=>?_);obtain⟨rfl,c⟩:=b;cases d:a.zero with
 |none=>exact .cS
 |some v=>exact .av (S.zero t a v c d _ e)
theorem Gn(S:uN P P')(t:RO):an P P' (ig (α:=Bool)) ρ (isAgg t) (isAgg t):=by
 unfold isAgg;refine(aO S t).bindM (fun e b c _ a=>?_);obtain⟨rfl,d⟩:=a
 split<;>exact .av rfl
theorem n9:∀ (n:Nat) {ρ:aN G} {a a':Sl} (i:Nat) {b c:Array RB},cy ρ a a'→aU ρ b c→an P P' aU ρ (loadCellsFrom a i n b) (loadCellsFrom a' i n c)
 |0,ρ,a,a',i,b,c,e,d=>.av d
 |n+1,ρ,a,a',i,b,c,e,d=>.load (e.add i) (fun v g f=>n9 n (i+1) e (d.push f))
theorem um{a a':Sl}(n:Nat)(b:cy ρ a a'):an P P' aU ρ (loadCells a n) (loadCells a' n):=n9 n 0 b (aU.nil _)
theorem jg:∀ (vs d:List RB) {ρ:aN G} {a a':Sl} (i:Nat),cy ρ a a'→ir ρ vs d→an P P' (ig (α:=Unit)) ρ (storeCells a vs i) (storeCells a' d i)
 | [],[],ρ,a,a',i,c,b=>.av rfl
 | [],_ :: _,ρ,a,a',i,c,b=>by cases b using ir.ind
 |_ :: _,[],ρ,a,a',i,c,b=>by cases b using ir.ind
 |v :: g,j :: h,ρ,a,a',i,c,b=>by
  cases b using ir.ind with
  |cons f e=>exact .store (c.add i) f (jg g h (i+1) c e)
theorem zS(S:uN P P'){a a':Sl}(t:RO)(d:cy ρ a a'):an P P' aq ρ (loadVar t a) (loadVar t a'):=by
 unfold loadVar;refine(Gn S t).bindM (fun k c f e b=>?_);cases b;cases c
 ·exact .load (d.mono e) (fun v j h=>.pure h)
 ·refine(cF S t).bindM (fun i c f g b=>?_);cases b;exact(um _ (d.mono (e.trans g))).bindM (fun i c f _ b=>.av (.agg b.1 b.2))
theorem EY(S:uN P P'){a a':Sl}(t:RO){v g:RB}(e:cy ρ a a')(h:aq ρ v g):an P P' (ig (α:=Unit)) ρ (storeVar t a v) (storeVar t a' g):=by
 unfold storeVar;refine(cF S t).bindM (fun k i j b d=>?_);cases d;have c:=h.cells;rw[← c.1]
 split
 ·exact an.stuck.bindM (A:=ig (α:=PUnit)) (fun l i j f d=>jg _ _ 0 (e.mono (b.trans f)) (c.mono (b.trans f)).toList)
 ·exact jg _ _ 0 (e.mono b) (c.mono b).toList
theorem oS(t:RO){c a:Array RB}(h:aU ρ c a):an P P' cy ρ (newRow t c) (newRow t a):=by
 unfold newRow;exact .new (.cells h t (0,0)) (fun d e b=>.pure ⟨aN.vp _ _ _ b,rfl,rfl⟩)
theorem C3(t:RO){v a:RB}(h:aq ρ v a):an P P' cy ρ (newVar t v) (newVar t a):=oS t h.cells
theorem kI(S:uN P P')(t:RO){c f:Array RB}(h:aU ρ c f)(off:Nat):an P P' aq ρ (part t c off) (part t f off):=by
 unfold part;refine(Gn S t).bindM (fun m e k g d=>?_);cases d;cases e
 ·rcases(h.mono g).get off with⟨a,b⟩|⟨v,l,a,b,i⟩
  ·simp only[a,b];exact .stuck
  ·simp only[a,b];exact .av i
 ·refine(cF S t).bindM (fun n e k j d=>?_);cases d;have:=(h.mono (g.trans j)).extract off (off+e);exact .av (.agg this.1 this.2)
theorem pO{v a:RB}(h:aq ρ v a):an P P' (ig (α:=T3×Int)) ρ (asIntOf v) (asIntOf a):=by
 cases h using aq.ind with
 |int b c=>exact .av rfl
 |ptr h=>exact .cS
 |_=>exact .stuck
theorem nF{v a:RB}(h:aq ρ v a):an P P' (ig (α:=Int)) ρ (asInt v) (asInt a):=by
 unfold asInt;exact(pO h).bindM (fun d b c _ h=>by cases h;exact .av rfl)
theorem Lh{v a:RB}(h:aq ρ v a):an P P' (ig (α:=Bool)) ρ (asBool v) (asBool a):=by
 cases h using aq.ind with
 |bool b=>exact .av rfl
 |_=>exact .stuck
theorem dZ(S:uN P P'){A:aN G→α→β→Prop}(e:RuntimeError)(d:∀ i c a m,e≠.typeAssertion i c a m)(f:∀ t,e≠.unhashable t)(g:e≠.panicNil):an P P' A ρ (runtimePanic e) (runtimePanic e):=by
 unfold runtimePanic;refine .asks ?_;rw[S.rt];cases e with
 |typeAssertion i c a m=>exact absurd rfl (d _ _ _ _)
 |unhashable t=>exact absurd rfl (f _)
 |panicNil=>exact absurd rfl g
 |bounds j k s c=>exact .panics (.iface _ (.agg rfl (fun i b h=>by
  have:i=0∨i=1∨i=2∨i=3:=by simp at b;omega
  rcases this with rfl|rfl|rfl|rfl<;>first|exact .bool _|exact .int _ _)))
 |error m=>exact .panics (.iface _ (.string _))
 |plain m=>exact .panics (.iface _ (.string _))
 |nilDeref=>exact .panics (.iface _ (.string _))
theorem mY(S:uN P P'){A:aN G→α→β→Prop}(k:T3)(x y:Int)(c:BoundsCode):an P P' A ρ (boundsPanic k x y c) (boundsPanic k x y c):=by
 unfold boundsPanic
 split
 ·refine an.bindM (A:=ig (α:=Bool)) ?_ (fun e b d _ a=>by cases a;exact dZ S _ (by simp) (by simp) (by simp));exact an.bind (A:=ig (α:=Nat)) (an.choose (fun f=>.pure rfl)) (fun e b d _ a=>by cases a;exact .pure rfl)
 ·refine an.bindM (A:=ig (α:=Bool)) (.av rfl) (fun e b d _ a=>by cases a;exact dZ S _ (by simp) (by simp) (by simp))
end
end
section
variable {G:k8}
structure Alike(G:k8)(P P':RM):Prop where
 S:uN P P'
 cells:∀ t,P'.cellsOf t=P.cellsOf t
 bytes:∀ t,P'.bytesOf t=P.bytesOf t
 depth:P'.depth=P.depth
 nt:∀ d e c o u n,liesAt P' d e c o u n=liesAt P d e c o u n
 cellAt:∀ d e c o b,cellAtBytes P' d e c o b=cellAtBytes P d e c o b
 AD:∀ d t o,byteOfCell P' d t o=byteOfCell P d t o
 QC:∀ d t,P'.eqGuardType d t=P.eqGuardType d t
 Gz:∀ t,P'.stoodInHeld t=P.stoodInHeld t
 Lb:∀ d t,P'.holdsPacked d t=P.holdsPacked d t
 wD:P.globals.size=G.g
 KD:P'.globals.size=G.g
 OG:∀ f:Nat,G.b f=RF→∃ fn,P.funcs[f]? =Ry fn∧fn.body.isNone=RE∧(fn.name == "runtime.NumGoroutine")=RE
 OP:∀ f:Nat,(P'.funcs[f]?).map (fun(x:Uj)=>(x.name,x.body.isNone))=(P.funcs[f]?).map (fun(x:Uj)=>(x.name,x.body.isNone))
section
variable {P P':RM}{ρ:aN G}
theorem lQ{v a:RB}(h:aq ρ v a):an P P' cy ρ (Ux v) (Ux a):=by
 cases h using aq.ind with
 |ptr h=>exact .av h
 |_=>exact .stuck
theorem Ll(L:Alike G P P')(t:RO){v a:RB}(h:aq ρ v a):an P P' aq ρ (Instr.loadAt t v) (Instr.loadAt t a):=
 (lQ h).bindM (fun d b c _ h=>zS L.S t h)
theorem IK(L:Alike G P P')(t:RO){v a x b:RB}(h:aq ρ v a)(d:aq ρ x b):an P P' (ig (α:=Unit)) ρ (Instr.storeAt t v x) (Instr.storeAt t a b):=
 (lQ h).bindM (fun g e f c h=>EY L.S t h (d.mono c))
theorem C4{r r':Nat}(h:ρ.f r=Ry r'):an P P' (fun _ (x y:Option (Sl×RO))=>x=RA∧y=RA) ρ (viewAt r) (viewAt r'):=by
 unfold viewAt;refine an.bindM (A:=ig (α:=Option (RO×Nat))) (.shape h (fun s=>.pure rfl)) (fun j f g c b=>?_);cases b
 split
 ·exact .av ⟨rfl,rfl⟩
 ·refine an.bindM (A:=dg) (.getObj (c _ _ h) (fun d e a=>.pure a)) (fun k d e i a=>?_);cases a using dg.ind<;>exact .av ⟨rfl,rfl⟩
theorem xm{a a':Sl}(h:cy ρ a a'):an P P' (ig (α:=Unit)) ρ (noView a) (noView a'):=by
 unfold noView;refine(C4 h.1).bindM (fun f d e c b=>?_);obtain⟨rfl,rfl⟩:=b;exact .av rfl
theorem lP(L:Alike G P P'){a a':Sl}(h:cy ρ a a'):an P P' (ig (α:=Nat)) ρ (byteOf a) (byteOf a'):=by
 unfold byteOf;rw[← h.2.2];cases g:a.spot with
 |some s=>exact .av rfl
 |none=>
  refine .asks ?_;refine(xm h).bindM (fun j c e d b=>?_);refine an.bindM (A:=ig (α:=Option (RO×Nat))) (.shape (d _ _ h.1) (fun s=>.pure rfl)) (fun k c e f b=>?_);cases b;cases c with
  |none=>exact .stuck
  |some i=>
   simp only[L.cells,L.bytes,L.AD,L.depth,← h.2.1]
   split
   ·exact .av rfl
   ·split
    ·exact .av rfl
    ·exact .stuck
theorem Lo(L:Alike G P P'){a a':Sl}(h:cy ρ a a')(c b:Nat):an P P' cy ρ (partAt a c b) (partAt a' c b):=by
 unfold partAt;refine(lP L h).bindM (fun k i j g e=>?_);cases e;have d:cy k {block:=a.block,off:=a.off+c} {block:=a'.block,off:=a'.off+c}:=⟨g _ _ h.1,by show a.off+c=a'.off+c;rw[h.2.1],rfl⟩;refine(lP L d).bindM (fun l i j f e=>?_);cases e;refine .av ?_
 split
 ·exact d.mono f
 ·exact⟨f _ _ d.1,d.2.1,rfl⟩
theorem A9(L:Alike G P P'){a a':Sl}(h:cy ρ a a')(f:Field):an P P' cy ρ (fieldPlace a f) (fieldPlace a' f):=by
 unfold fieldPlace;refine(cF L.S _).bindM (fun g d e b c=>?_);cases c
 split
 ·exact Lo L (h.mono b) _ _
 ·exact .av ((h.mono b).add _)
theorem IE(L:Alike G P P')(s:RO){v a:RB}(h:aq ρ v a)(f:Nat):an P P' aq ρ (Instr.fieldAt s v f) (Instr.fieldAt s a f):=by
 unfold Instr.fieldAt;refine(aO L.S s).bindM (fun m j l i g=>?_);obtain⟨rfl,-⟩:=g;cases j with
 |struct e=>
  simp only;cases e[f]? with
  |none=>exact .stuck
  |some d=>exact(lQ (h.mono i)).bindM (fun k b c _ h=>(A9 L h d).bindM (fun k b c _ h=>.av (.ptr h)))
 |_=>exact .stuck
theorem Nu(L:Alike G P P')(t:RO):an P P' aq ρ (Instr.alloc t RF (.tuple #[])) (Instr.alloc t RF (.tuple #[])):=by
 unfold Instr.alloc;exact(iS L.S t).bindM (fun g e f d a=>(C3 t a).bindM (fun h b c _ a=>.av (.ptr a)))
theorem Qn(t:RO){v a:RB}(h:aq ρ v a):an P P' aq ρ (Instr.box t v) (Instr.box t a):=by
 unfold Instr.box;exact(C3 t h).bindM (fun d b c _ h=>.av (.ptr h))
theorem IF(L:Alike G P P')(t:RO){x n i l:RB}(u:aq ρ x n)(q:aq ρ i l):an P P' aq ρ (Instr.indexAt t x i) (Instr.indexAt t n l):=by
 unfold Instr.indexAt;refine(pO q).bindM (fun E k z r b=>?_);cases b;obtain⟨B,D⟩:=k;refine(aO L.S t).bindM (fun F d j s a=>?_);obtain⟨rfl,a⟩:=a;have h:=u.mono (r.trans s);cases d with
 |array C e=>
  refine(lQ h).bindM (fun H k y A f=>?_);refine(aO L.S t).bindM (fun o d j c a=>?_);obtain⟨rfl,-⟩:=a;dsimp only
  split
  ·exact(cF L.S e).bindM (fun w x v g b=>by cases b;exact .av (.ptr ((f.mono (c.trans g)).add _)))
  ·(repeat' split)<;>first|exact an.cS|exact mY L.S _ _ _ _
 |slice e=>
  cases h using aq.ind with
  |ja m p=>
   refine(aO L.S t).bindM (fun o d j c a=>?_);exact mY L.S _ _ _ _
  |sl f m p=>
   refine(aO L.S t).bindM (fun o d j c a=>?_);obtain⟨rfl,-⟩:=a;dsimp only
   split
   ·exact(cF L.S e).bindM (fun w x v g b=>by cases b;exact .av (.ptr ((f.mono (c.trans g)).add _)))
   ·(repeat' split)<;>first|exact an.cS|exact mY L.S _ _ _ _
  |_=>exact an.stuck
 |_=>cases h using aq.ind<;>exact an.stuck
theorem zQ(n:Nat):an P P' (ig (α:=Unit)) ρ (askRoom n) (askRoom n):=by
 unfold askRoom
 split
 ·exact .room (.pure rfl)
 ·exact .av rfl
theorem gT(L:Alike G P P'){v a:RB}(h:aq ρ v a)(y:Nat)(c:BoundsCode):an P P' (ig (α:=Nat)) ρ (Instr.sliceBound v y c) (Instr.sliceBound a y c):=by
 unfold Instr.sliceBound;refine(pO h).bindM (fun i b e _ d=>?_);cases d;obtain⟨g,f⟩:=b;dsimp only
 split
 ·exact .av rfl
 ·exact mY L.S _ _ _ _
def dM (ρ:aN G)(c:Option RB)(d:Option RB):Prop:=∀ a:Option RB→Option RB→Prop,(a RA RA)→(∀ {v b:RB} (e:aq ρ v b),a (Ry v) (Ry b))→a c d
theorem dM.none{ρ:aN G}:dM ρ RA RA:=fun b a c=>a
theorem dM.some{ρ:aN G}{v a:RB}(h:aq ρ v a):dM ρ (Ry v) (Ry a):=fun c d b=>b h
theorem dM.ind{ρ:aN G}{c:∀ (a:Option RB) (b:Option RB),dM ρ a b→Prop}(none:c _ _ (dM.none))(some:∀ {v d:RB} (h:aq ρ v d),c _ _ (dM.some h)){a:Option RB}{b:Option RB}(h:dM ρ a b):c a b h:=(h (fun a b=>dM ρ a b∧∀ h,c a b h) (⟨dM.none,fun _=>none⟩) (fun h=>⟨dM.some h,fun _=>some h⟩)).2 h
theorem dM.mono{σ:aN G}(a:ρ.le σ){o o':Option RB}(h:dM ρ o o'):dM σ o o':=by
 cases h using dM.ind with
 |none=>exact .none
 |some h=>exact .some (h.mono a)
theorem iA(L:Alike G P P')(b:Bool)(len cap:Nat){k l i j m n:Option RB}(h1:dM ρ k l)(h:dM ρ i j)(o:dM ρ m n):an P P' (ig (α:=Nat×Nat×Nat)) ρ (Instr.sliceBounds b len cap k i m) (Instr.sliceBounds b len cap l j n):=by
 unfold Instr.sliceBounds;cases o using dM.ind with
 |none=>
  cases h using dM.ind with
  |none=>
   cases h1 using dM.ind with
   |none=>exact .av rfl
   |some d=>exact(gT L d _ _).bindM (fun f c b _ a=>by cases a;exact .av rfl)
  |some g=>
   refine(gT L g _ _).bindM (fun f c b e a=>?_);cases a;cases h1 using dM.ind with
   |none=>exact .av rfl
   |some d=>exact(gT L (d.mono e) _ _).bindM (fun f c b _ a=>by cases a;exact .av rfl)
 |some q=>
  refine(gT L q _ _).bindM (fun f c b e a=>?_);cases a;cases h using dM.ind with
  |none=>exact an.stuck
  |some g=>
   refine(gT L (g.mono e) _ _).bindM (fun r c b p a=>?_);cases a;cases h1 using dM.ind with
   |none=>exact .av rfl
   |some d=>exact(gT L (d.mono (e.trans p)) _ _).bindM (fun f c b _ a=>by cases a;exact .av rfl)
theorem NC(L:Alike G P P')(t:RO){x u:RB}{B C w y p q:Option RB}(f:aq ρ x u)(h1:dM ρ B C)(c:dM ρ w y)(d:dM ρ p q):an P P' aq ρ (Instr.slice t x B w p) (Instr.slice t u C y q):=by
 unfold Instr.slice;refine(aO L.S t).bindM (fun K r J k o=>?_);obtain⟨rfl,-⟩:=o;have f:=f.mono k;have h1:=h1.mono k;have c:=c.mono k;have d:=d.mono k;cases r with
 |string=>
  cases f using aq.ind with
  |string s=>
   dsimp only;have F:p.isSome=q.isSome:=by cases d using dM.ind<;>rfl
   rw[F]
   split
   ·exact an.stuck
   ·exact(iA L RE s.size s.size h1 c .none).bindM (fun l i m _ a=>by cases a;exact .av (.string _))
  |_=>exact an.stuck
 |slice j=>
  cases f using aq.ind with
  |ja g n=>
   refine(iA L RF g n h1 c d).bindM (fun l i m _ a=>?_);cases a;refine(cF L.S j).bindM (fun v x D _ a=>?_);cases a;refine .av ?_
   split
   ·exact .ja _ _
   ·exact .ja _ _
  |sl h g n=>
   refine(iA L RF g n h1 c d).bindM (fun l i m e a=>?_);cases a;refine(cF L.S j).bindM (fun v x D b a=>?_);cases a;refine .av ?_
   split
   ·exact .sl (h.mono (e.trans b)) _ _
   ·exact .sl ((h.mono (e.trans b)).add _) _ _
  |_=>exact an.stuck
 |pointer E=>
  have I:an P P' cy K (asAddr x) (asAddr u):=by
   cases f using aq.ind with
   |ptr H=>exact .av H
   |cG=>exact dZ L.S .nilDeref (by simp) (by simp) (by simp)
   |_=>exact an.stuck
  refine I.bindM (fun l i M e h=>?_);refine(aO L.S E).bindM (fun v r J b o=>?_);obtain⟨rfl,-⟩:=o;cases r with
  |array g j=>
   refine(iA L RE g g (h1.mono (e.trans b)) (c.mono (e.trans b)) (d.mono (e.trans b))).bindM (fun l i m z a=>?_);cases a;refine(cF L.S j).bindM (fun v x D A a=>?_);cases a;refine .av ?_
   split
   ·exact .sl (h.mono (b.trans (z.trans A))) _ _
   ·exact .sl ((h.mono (b.trans (z.trans A))).add _) _ _
  |_=>exact an.stuck
 |_=>cases f using aq.ind<;>exact an.stuck
theorem IJ(L:Alike G P P')(t:RO){x q:RB}{l m g h n o:Option RB}(k:aq ρ x q)(h1:dM ρ l m)(d:dM ρ g h)(e:dM ρ n o):an P P' aq ρ (Instr.sliceAt t x l g n) (Instr.sliceAt t q m h o):=by
 unfold Instr.sliceAt;refine(aO L.S t).bindM (fun C w A a v=>?_);obtain⟨rfl,-⟩:=v;cases w with
 |array p s=>
  refine(lQ (k.mono a)).bindM (fun D r y u f=>?_);have c:=a.trans u;refine(iA L RE p p (h1.mono c) (d.mono c) (e.mono c)).bindM (fun E r z i b=>?_);cases b;refine(cF L.S s).bindM (fun F x B j b=>?_);cases b;refine .av ?_
  split
  ·exact .sl (f.mono (i.trans j)) _ _
  ·exact .sl ((f.mono (i.trans j)).add _) _ _
 |_=>exact NC L t (k.mono a) (h1.mono a) (d.mono a) (e.mono a)
end
end
section
variable {G:k8}
section
variable {P P':RM}{ρ:aN G}
theorem kV{z a:Array RB}(h:aU ρ z a)(n:Nat):aU ρ ((Vg n).map (z[· % z.size]!)) ((Vg n).map (a[· % a.size]!)):=by
 refine⟨by simp,fun d f g=>?_⟩;simp only[Array.getElem_map,Array.getElem_range];have c:=h.1;by_cases e:0<z.size
 ·have b:d % z.size<z.size:=Nat.mod_lt _ e;rw[getElem!_pos z _ b,getElem!_pos a _ (by rw[← c];exact b)];have:d % a.size=d % z.size:=by rw[c]
  simp only[this];exact h.2 _ b (by rw[← c];exact b)
 ·rw[getElem!_neg z _ (by omega),getElem!_neg a _ (by omega)];exact .bool _
theorem tj(L:Alike G P P'){α k γ b:Type}{B:aN G→γ→b→Prop}(e:RuntimeError)(g:∀ i c a m,e≠.typeAssertion i c a m)(h:∀ t,e≠.unhashable t)(j:e≠.panicNil){f:α→T1 γ}{f':k→T1 b}:an P P' B ρ (runtimePanic e >>= f) (runtimePanic e >>= f'):=
 (dZ (A:=fun _ _ _=>False) L.S e g h j).bindM (fun _ _ _ _ d=>d.elim)
theorem oP{γ a:Type}{B:aN G→γ→a→Prop}(q:Question){f:Nat→T1 γ}{f':Nat→T1 a}(h:∀ n,an P P' B ρ (f n) (f' n)):an P P' B ρ (choose q >>= f) (choose q >>= f'):=.choose (fun n=>h n)
theorem CY(L:Alike G P P')(t:RO){l j c h:RB}(m:aq ρ l j)(hc:aq ρ c h):an P P' aq ρ (Vd t l c) (Vd t j h):=by
 unfold Vd;refine(aO L.S t).bindM (fun w p v i n=>?_);obtain⟨rfl,-⟩:=n;cases p with
 |slice e=>
  refine(nF (m.mono i)).bindM (fun x b d k a=>?_);cases a;refine(nF (hc.mono (i.trans k))).bindM (fun y b d q a=>?_);cases a;refine(eV L.S e).bindM (fun z b d r a=>?_);obtain⟨rfl,-⟩:=a;dsimp only
  split
  ·split
   ·exact tj L _ (by simp) (by simp) (by simp)
   ·split
    ·exact tj L _ (by simp) (by simp) (by simp)
    ·exact oP _ (fun u=>tj L _ (by simp) (by simp) (by simp))
  ·refine(zQ _).bindM (fun A b d s a=>?_);refine(cF L.S e).bindM (fun g b d _ a=>?_);cases a
   split
   ·exact(oS e (kV (aU.nil _) _)).bindM (fun g b d _ f=>.av (.sl f _ _))
   ·refine(iS L.S e).bindM (fun g b d _ o=>?_);exact(oS e (kV o.cells _)).bindM (fun g b d _ f=>.av (.sl f _ _))
 |_=>exact an.stuck
def om (ρ:aN G)(f:List (RB×Nat))(g:List (RB×Nat)):Prop:=∀ a:List (RB×Nat)→List (RB×Nat)→Prop,(a [] [])→(∀ {v e:RB} (b:Nat) {c d:List (RB×Nat)} (h:aq ρ v e) (i:a c d),a ((v,b) :: c) ((e,b) :: d))→a f g
theorem om.nil{ρ:aN G}:om ρ [] []:=fun b a c=>a
theorem om.cons{ρ:aN G}{v c:RB}(j:Nat){l b:List (RB×Nat)}(h:aq ρ v c)(f:om ρ l b):om ρ ((v,j) :: l) ((c,j) :: b):=fun d e a=>a j h (f d e a)
theorem om.ind{ρ:aN G}{d:∀ (a:List (RB×Nat)) (b:List (RB×Nat)),om ρ a b→Prop}(nil:d _ _ (om.nil))(cons:∀ {v f:RB} (j:Nat) {l e:List (RB×Nat)} (h:aq ρ v f) (c:om ρ l e),(d _ _ c)→d _ _ (om.cons j h c)){a:List (RB×Nat)}{b:List (RB×Nat)}(h:om ρ a b):d a b h:=(h (fun a b=>om ρ a b∧∀ h,d a b h) (⟨om.nil,fun _=>nil⟩) (fun {v} {f} j {l} {e} h c=>⟨om.cons j h c.1,fun _=>cons j h c.1 (c.2 _)⟩)).2 h
def gz (ρ:aN G)(f:List (Nat×RB))(g:List (Nat×RB)):Prop:=∀ a:List (Nat×RB)→List (Nat×RB)→Prop,(a [] [])→(∀ {v e:RB} (b:Nat) {c d:List (Nat×RB)} (h:aq ρ v e) (i:a c d),a ((b,v) :: c) ((b,e) :: d))→a f g
theorem gz.nil{ρ:aN G}:gz ρ [] []:=fun b a c=>a
theorem gz.cons{ρ:aN G}{v c:RB}(j:Nat){l b:List (Nat×RB)}(h:aq ρ v c)(f:gz ρ l b):gz ρ ((j,v) :: l) ((j,c) :: b):=fun d e a=>a j h (f d e a)
theorem gz.ind{ρ:aN G}{d:∀ (a:List (Nat×RB)) (b:List (Nat×RB)),gz ρ a b→Prop}(nil:d _ _ (gz.nil))(cons:∀ {v f:RB} (j:Nat) {l e:List (Nat×RB)} (h:aq ρ v f) (c:gz ρ l e),(d _ _ c)→d _ _ (gz.cons j h c)){a:List (Nat×RB)}{b:List (Nat×RB)}(h:gz ρ a b):d a b h:=(h (fun a b=>gz ρ a b∧∀ h,d a b h) (⟨gz.nil,fun _=>nil⟩) (fun {v} {f} j {l} {e} h c=>⟨gz.cons j h c.1,fun _=>cons j h c.1 (c.2 _)⟩)).2 h
theorem gz.mono{σ:aN G}(b:ρ.le σ){l a:List (Nat×RB)}(h:gz ρ l a):gz σ l a:=by
 induction h using gz.ind with
 |nil=>exact .nil
 |cons d h _ c=>exact .cons d (h.mono b) c
theorem ir.zip{l a:List RB}(h:ir ρ l a):∀ k,om ρ (l.zipIdx k) (a.zipIdx k):=by
 induction h using ir.ind with
 |nil=>exact fun _=>.nil
 |cons b _ c=>exact fun k=>.cons k b (c (k+1))
theorem NV(off:Nat){l b:List (RB×Nat)}(h:om ρ l b):∀ {cs a:Array RB},aU ρ cs a→aU ρ (l.foldl (fun cs (c,j)=>cs.setIfInBounds (off+j) c) cs) (b.foldl (fun cs (c,j)=>cs.setIfInBounds (off+j) c) a):=by
 induction h using om.ind with
 |nil=>exact fun h=>h
 |cons j d _ e=>exact fun h=>e (h.set d _)
theorem BI(a:Nat→Option (Nat×Nat)){ps d:List (Nat×RB)}(g:gz ρ ps d):∀ {cs b:Array RB},aU ρ cs b→(UZ a cs ps=RA∧UZ a b d=RA)∨∃ x f,UZ a cs ps=Ry x∧UZ a b d=Ry f∧aU ρ x f:=by
 induction g using gz.ind with
 |nil=>exact fun c=>.inr ⟨_,_,rfl,rfl,c⟩
 |cons i h _ j=>
  intro cs b c;have e:=h.cells;simp only[UZ];cases a i with
  |none=>exact .inl ⟨rfl,rfl⟩
  |some l=>
   obtain⟨k,m⟩:=l;simp only[e.1,c.1]
   split
   ·exact .inl ⟨rfl,rfl⟩
   ·refine j ?_;rw[← Array.foldl_toList,← Array.foldl_toList,Array.toList_zipIdx,Array.toList_zipIdx];exact NV k (e.toList.zip 0) c
theorem Ln{α c:Type}(g:α→T1 c):∀ (l:List α) {ρ:aN G},(∀ σ,ρ.le σ→∀ x∈l,an P P' (ig (α:=c)) σ (g x) (g x))→an P P' (ig (α:=List c)) ρ (l.mapM g) (l.mapM g)
 | [],ρ,a=>by rw[List.mapM_nil];exact .av rfl
 |x :: l,ρ,a=>by
  rw[List.mapM_cons];refine(a ρ (aN.le.refl _) x (by simp)).bindM (fun σ e f h b=>?_);cases b;refine(Ln g l (fun d i k j=>a d (h.trans i) k (by simp[j]))).bindM (fun d e f _ b=>?_);cases b;exact .av rfl
theorem Pn{α a:Type}(g:α→T1 a)(l:Array α)(h:∀ σ,ρ.le σ→∀ x∈l.toList,an P P' (ig (α:=a)) σ (g x) (g x)):an P P' (ig (α:=Array a)) ρ (l.mapM g) (l.mapM g):=by
 rw[Array.mapM_eq_mapM_toList];exact an.bind (A:=ig (α:=List a)) (Ln g l.toList h) (fun σ c d _ b=>by cases b;exact .pure rfl)
theorem Nw(L:Alike G P P')(t:RO){ps n:Array (Nat×RB)}(h:gz ρ ps.toList n.toList):an P P' aq ρ (Instr.build t ps) (Instr.build t n):=by
 unfold Instr.build;refine(iS L.S t).bindM (fun y C D r i=>?_);refine(aO L.S t).bindM (fun p w B l u=>?_);obtain⟨rfl,-⟩:=u;have m:=h.mono (r.trans l);have i:=i.cells.mono l;cases w with
 |struct k=>
  have s:an P P' (ig (α:=Array (Nat×Nat))) p (k.mapM fun f=>do pure (f.offset,← VH f.type)) (k.mapM fun f=>do pure (f.offset,← VH f.type)):=
   Pn _ _ (fun y _ o _=>(cF L.S _).bindM (fun p c j _ e=>by cases e;exact .av rfl))
  refine s.bindM (fun z c j g e=>?_);cases e;rcases BI (c[·]?) (m.mono g) (i.mono g) with⟨a,b⟩|⟨o,x,a,b,d⟩
  ·rw[a,b];exact an.stuck
  ·rw[a,b];exact .av (.agg d.1 d.2)
 |array A q=>
  refine(cF L.S q).bindM (fun z c j g e=>?_);cases e;rcases BI (fun v=>Ry (v*c,c)) (m.mono g) (i.mono g) with⟨a,b⟩|⟨o,x,a,b,d⟩
  ·rw[a,b];exact an.stuck
  ·rw[a,b];exact .av (.agg d.1 d.2)
 |_=>exact an.stuck
theorem A7(L:Alike G P P')(t:RO)(n:Nat){ps m:Array (Nat×RB)}(h:gz ρ ps.toList m.toList):an P P' aq ρ (Uq t n ps) (Uq t n m):=by
 unfold Uq;refine(aO L.S t).bindM (fun q y A u x=>?_);obtain⟨rfl,-⟩:=x;cases y with
 |slice b=>
  refine(cF L.S b).bindM (fun z a o v s=>?_);cases s;have w:=h.mono (u.trans v);dsimp only;have p:∀ {f:aN G} {d e:Array RB},z.le f→aU f d e→an P P' aq f (match UZ (fun c=>Ry (c*a,a)) ((Vg (n*a)).map (d[· % d.size]!)) ps.toList with|some g=>do pure (.slice (Ry (← newRow b g)) n n)|_=>stuck "buildSlice: a part of the wrong size") (match UZ (fun c=>Ry (c*a,a)) ((Vg (n*a)).map (e[· % e.size]!)) m.toList with|some g=>do pure (.slice (Ry (← newRow b g)) n n)|_=>stuck "buildSlice: a part of the wrong size"):=by
   intro f d e k l;rcases BI (fun c=>Ry (c*a,a)) (w.mono k) (kV l (n*a)) with⟨i,j⟩|⟨B,C,i,j,r⟩
   ·rw[i,j];exact an.stuck
   ·rw[i,j];exact(oS b r).bindM (fun q a o _ h=>.av (.sl h _ _))
  split
  ·exact an.cS
  ·split
   ·exact p (aN.le.refl _) (aU.nil _)
   ·exact(iS L.S b).bindM (fun q a o k l=>p k l.cells)
 |_=>exact an.stuck
theorem uT(L:Alike G P P')(t:RO){v a:RB}(h:aq ρ v a):an P P' aq ρ (Instr.makeInterface t v) (Instr.makeInterface t a):=by
 unfold Instr.makeInterface;refine(aO L.S t).bindM (fun f d e b c=>?_);obtain⟨rfl,-⟩:=c
 split
 ·exact an.stuck
 ·exact .av (.iface t (h.mono b))
theorem II(L:Alike G P P')(t:RO){o o':Option RB}(h:dM ρ o o'):an P P' aq ρ (Instr.makeMap t o) (Instr.makeMap t o'):=by
 unfold Instr.makeMap;have a:∀ {g:aN G},an P P' aq g (do pure (.map (Ry (← newObj (.map #[] 0))))) (do pure (.map (Ry (← newObj (.map #[] 0))))):=.new (.map rfl (fun n b=>by simp at b) 0) (fun q r d=>.pure (.map (aN.vp _ _ _ d)));cases h using dM.ind with
 |none=>exact a
 |some h=>
  refine(aO L.S t).bindM (fun i f s c e=>?_);obtain⟨rfl,-⟩:=e;cases f with
  |map p l=>exact(nF (h.mono c)).bindM (fun i j k _ m=>a)
  |_=>exact an.stuck
theorem Nx(L:Alike G P P')(t:RO){v a:RB}(h:aq ρ v a)(i:Nat):an P P' aq ρ (Instr.field t v i) (Instr.field t a i):=by
 unfold Instr.field;refine(aO L.S t).bindM (fun l j k c d=>?_);obtain⟨rfl,-⟩:=d;cases j with
 |struct b=>
  dsimp only;cases b[i]? with
  |none=>exact an.stuck
  |some f=>
   have h:=h.mono c;cases h using aq.ind with
   |agg e g=>exact kI L.S _ ⟨e,g⟩ _
   |_=>exact an.stuck
 |_=>exact an.stuck
theorem NA(L:Alike G P P')(t:RO){v d i c:RB}(h:aq ρ v d)(g:aq ρ i c):an P P' aq ρ (Instr.index t v i) (Instr.index t d c):=by
 unfold Instr.index;refine(pO g).bindM (fun x b e j a=>?_);cases a;obtain⟨q,u⟩:=b;refine(aO L.S t).bindM (fun y p w k m=>?_);obtain⟨rfl,-⟩:=m;have h:=h.mono (j.trans k);cases p with
 |array r f=>
  cases h using aq.ind with
  |agg n o=>
   dsimp only
   split
   ·exact(cF L.S f).bindM (fun z b e l a=>by cases a;exact kI L.S _ (aU.mono l ⟨n,o⟩) _)
   ·exact mY L.S _ _ _ _
  |_=>exact an.stuck
 |string=>
  cases h using aq.ind with
  |string s=>
   dsimp only
   split
   ·exact .av (.int _ _)
   ·exact mY L.S _ _ _ _
  |_=>exact an.stuck
 |_=>cases h using aq.ind<;>exact an.stuck
theorem ID{v c:RB}(h:aq ρ v c)(i:Nat):an P P' aq ρ (Instr.extract v i) (Instr.extract c i):=by
 cases h using aq.ind with
 |tuple e f=>
  simp only[Instr.extract];rcases aU.get ⟨e,f⟩ i with⟨a,b⟩|⟨v,c,a,b,d⟩
  ·rw[a,b];exact an.stuck
  ·rw[a,b];exact .av d
 |_=>exact an.stuck
theorem ND(a:UnOp){v b:RB}(h:aq ρ v b):an P P' aq ρ (Op.unary a v) (Op.unary a b):=by
 cases h using aq.ind<;>cases a<;>simp only[Op.unary,Op.intArith,Op.intBits]<;>first|exact an.stuck|exact an.cS|exact .av (.int _ _)|exact .av (.bool _)
end
end
section
variable {G:k8}
section
variable {P P':RM}{ρ:aN G}
theorem qN{a a' b b':Sl}(e:cy ρ a a')(f:cy ρ b b'):(a.block == b.block)=(a'.block == b'.block):=by
 rw[Bool.eq_iff_iff];simp only[beq_iff_eq];constructor
 ·intro c;have d:=e.1;rw[c,f.1] at d;exact(Vx d).symm
 ·intro c;exact ρ.inj _ _ _ e.1 (by rw[c];exact f.1)
theorem addr_eq{a a' b b':Sl}(f:cy ρ a a')(g:cy ρ b b'):(a == b)=(a' == b'):=by
 have c:=qN f g;have d:=f.2;have e:=g.2;obtain⟨h,i,j⟩:=a;obtain⟨k,l,m⟩:=a';obtain⟨n,o,p⟩:=b;obtain⟨u1,u2,u3⟩:=b';simp only at c d e;obtain⟨rfl,rfl⟩:=d;obtain⟨rfl,rfl⟩:=e;rw[Bool.eq_iff_iff] at c ⊢;simp only[beq_iff_eq] at c;simp only[beq_iff_eq,UO,c]
theorem oR{a a':Sl}(h:cy ρ a a'):an P P' (ig (α:=Bool)) ρ (frozen a) (frozen a'):=.frozen h (fun b=>.pure rfl)
theorem nH{r r':Nat}(h:ρ.f r=Ry r'):an P P' (ig (α:=Option (RO×Nat))) ρ (shape r) (shape r'):=.shape h (fun a=>.pure rfl)
theorem us{a a':Sl}(h:cy ρ a a'):an P P' (ig (α:=Bool)) ρ (stringish a) (stringish a'):=by
 unfold stringish;refine(oR h).bindM (fun i d f c b=>?_);cases b
 split
 ·exact .av rfl
 ·refine(nH (c _ _ h.1)).bindM (fun j d f e b=>?_);cases b;cases d with
  |none=>exact .av rfl
  |some g=>exact oR ⟨e _ _ (c _ _ h.1),rfl,rfl⟩
theorem EW{a a' b b':Sl}(h:cy ρ a a')(g:cy ρ b b'):an P P' (ig (α:=Bool)) ρ (mayBeOne a b) (mayBeOne a' b'):=by
 unfold mayBeOne;have k:∀ {f:aN G} {d l:Sl},cy f d l→an P P' (ig (α:=Bool)) f (do pure ((← shape d.block) matches Ry (_,0))) (do pure ((← shape l.block) matches Ry (_,0))):=fun n=>(nH n.1).bindM (fun q d m _ c=>by cases c;exact .av rfl);refine(us h).bindM (fun f d m e c=>?_);cases c;refine(us (g.mono e)).bindM (fun q m s i c=>?_);cases c;refine(k (h.mono (e.trans i))).bindM (fun r o p j c=>?_);cases c;refine(k (g.mono (e.trans (i.trans j)))).bindM (fun r o p j c=>?_);cases c;exact .av rfl
theorem xq{a a' b b':Sl}(h:cy ρ a a')(d:cy ρ b b'):an P P' (ig (α:=Bool)) ρ (sameAddr a b) (sameAddr a' b'):=by
 unfold sameAddr;rw[qN h d,addr_eq h d]
 split
 ·exact .av rfl
 ·refine(oR h).bindM (fun r p m e c=>?_);cases c;refine(oR (d.mono e)).bindM (fun s m q f c=>?_);cases c
  split
  ·exact an.cS
  ·refine(xm (h.mono (e.trans f))).bindM (fun t j k g c=>?_);refine(xm (d.mono (e.trans (f.trans g)))).bindM (fun u j k l c=>?_);have i:=e.trans (f.trans (g.trans l));refine(EW (h.mono i) (d.mono i)).bindM (fun v j k n c=>?_);cases c
   split
   ·exact oP _ (fun o=>.av rfl)
   ·exact .av rfl
theorem rP{α a:Type}{f f':α→a→T1 (ForInStep a)}:∀ (l:List α) {ρ:aN G} (b:a),(∀ σ,ρ.le σ→∀ x∈l,∀ b,an P P' (ig (α:=ForInStep a)) σ (f x b) (f' x b))→an P P' (ig (α:=a)) ρ (forIn l b f) (forIn l b f')
 | [],ρ,b,c=>by simp only[List.forIn_nil];exact .av rfl
 |x :: l,ρ,b,c=>by
  simp only[List.forIn_cons];refine(c ρ (aN.le.refl _) x (by simp) b).bindM (fun σ d m h g=>?_);cases g;cases d with
  |done b=>exact .av rfl
  |yield b=>exact rP l b (fun k i d j e=>c k (h.trans i) d (by simp[j]) e)
theorem EU{α a:Type}{f f':α→a→T1 (ForInStep a)}(l:Array α)(b:a)(h:∀ σ,ρ.le σ→∀ x∈l.toList,∀ b,an P P' (ig (α:=ForInStep a)) σ (f x b) (f' x b)):an P P' (ig (α:=a)) ρ (forIn l b f) (forIn l b f'):=by
 rw[← Array.forIn_toList,← Array.forIn_toList];exact rP _ _ h
theorem eN{α c γ a:Type}{B:aN G→γ→a→Prop}{u:Unsupported}{f:α→T1 γ}{f':c→T1 a}(b:oD (.unsupported u)=RF:=by rfl):an P P' B ρ (unsupported u >>= f) (unsupported u >>= f'):=.halt (.same _ b)
theorem IL(L:Alike G P P')(t:RO):an P P' (ig (α:=String)) ρ (typeStr t) (typeStr t):=by
 unfold typeStr;refine(eV L.S t).bindM (fun d b c _ a=>?_);obtain⟨rfl,-⟩:=a;dsimp only
 split
 ·exact an.cS
 ·exact .av rfl
theorem xp{r r':Nat}(h:ρ.f r=Ry r'):an P P' (fun σ (x y:Option (Sl×Bool))=>(x=RA∧y=RA)∨∃ a a' l,x=Ry (a,l)∧y=Ry (a',l)∧cy σ a a') ρ (numberAt r) (numberAt r'):=by
 unfold numberAt;refine(nH h).bindM (fun σ a i e d=>?_);cases d
 split
 ·exact .av (.inl ⟨rfl,rfl⟩)
 ·refine an.bindM (A:=dg) (.getObj (e _ _ h) (fun f g b=>.pure b)) (fun k f g j b=>?_);cases b using dg.ind with
  |number c l=>exact .av (.inr ⟨_,_,_,rfl,rfl,c⟩)
  |_=>exact .av (.inl ⟨rfl,rfl⟩)
theorem je{a a':Sl}(h:cy ρ a a'):an P P' (fun σ (x y:Sl×Bool)=>cy σ x.1 y.1∧x.2=y.2) ρ (T7 a) (T7 a'):=by
 unfold T7;refine(xp h.1).bindM (fun σ x y d b=>?_);rcases b with⟨rfl,rfl⟩|⟨e,f,g,rfl,rfl,c⟩
 ·exact .av ⟨h.mono d,rfl⟩
 ·exact .av ⟨c,rfl⟩
theorem pP(L:Alike G P P'):∀ (d:Nat) {ρ:aN G} (t:RO) {x u y w:RB},aq ρ x u→aq ρ y w→an P P' (ig (α:=Bool)) ρ (Op.equalIn d t x y) (Op.equalIn d t u w)
 |0,ρ,t,x,u,y,w,c,a=>by unfold Op.equalIn;exact an.cS
 |d+1,ρ,t,x,u,y,w,c,a=>by
  unfold Op.equalIn;refine(aO L.S t).bindM (fun X T ar H I=>?_);obtain⟨rfl,I⟩:=I;have c:=c.mono H;have a:=a.mono H;cases T with
  |struct M=>
   cases c using aq.ind with
   |agg k o=>
    cases a using aq.ind with
    |agg B C=>
     dsimp only;refine .asks ?_;rw[L.Gz]
     split
     ·exact eN
     ·refine an.bindM (A:=ig) (EU M _ (fun p e f _ h=>?_)) (fun p g h e b=>?_)
      ·split
       ·refine(kI L.S f.type (aU.mono e ⟨k,o⟩) _).bindM (fun z v U q s=>?_);refine(kI L.S f.type (aU.mono (e.trans q) ⟨B,C⟩) _).bindM (fun A V W i D=>?_);refine(pP L d f.type (s.mono i) D).bindM (fun Y g h _ b=>?_);cases b
        split<;>exact .av rfl
       ·exact .av rfl
      ·cases b
       split<;>exact .av rfl
    |_=>exact an.stuck
   |_=>cases a using aq.ind<;>exact an.stuck
  |array al j=>
   cases c using aq.ind with
   |agg k o=>
    cases a using aq.ind with
    |agg B C=>
     dsimp only;refine(cF L.S j).bindM (fun p r S e b=>?_);cases b;rw[S9,S9];refine an.bindM (A:=ig) (rP _ _ (fun z q ad _ h=>?_)) (fun p g h e b=>?_)
     ·refine(kI L.S j (aU.mono (e.trans q) ⟨k,o⟩) _).bindM (fun z v U i s=>?_);refine(kI L.S j (aU.mono (e.trans (q.trans i)) ⟨B,C⟩) _).bindM (fun A V W i D=>?_);refine(pP L d j (s.mono i) D).bindM (fun Y g h _ b=>?_);cases b
      split<;>exact .av rfl
     ·cases b
      split<;>exact .av rfl
    |_=>exact an.stuck
   |_=>cases a using aq.ind<;>exact an.stuck
  |interface am=>
   cases c using aq.ind with
   |nilIface=>cases a using aq.ind<;>first|exact an.stuck|exact .av rfl
   |iface F s=>
    cases a using aq.ind with
    |nilIface=>exact .av rfl
    |iface ao Q=>
     dsimp only
     split
     ·exact .av rfl
     ·refine(eV L.S F).bindM (fun p g h e b=>?_);obtain⟨rfl,-⟩:=b
      split
      ·refine .asks ?_;refine .asks ?_;rw[L.Lb,L.depth]
       split
       ·exact eN
       ·exact(IL L F).bindM (fun p g h _ b=>by cases b;exact dZ L.S _ (by simp) (by simp) (by simp))
      ·exact pP L d F (s.mono e) (Q.mono e)
    |_=>exact an.stuck
   |_=>cases a using aq.ind<;>exact an.stuck
  |pointer j=>
   cases c using aq.ind with
   |cG=>cases a using aq.ind<;>first|exact an.stuck|exact .av rfl
   |ptr l=>
    cases a using aq.ind with
    |cG=>exact .av rfl
    |ptr n=>
     dsimp only;refine(cF L.S j).bindM (fun p r S e b=>?_);cases b;rw[addr_eq l n]
     split
     ·exact xq (l.mono e) (n.mono e)
     ·split
      ·exact .av rfl
      ·exact oP _ (fun r=>.av rfl)
    |_=>exact an.stuck
   |_=>cases a using aq.ind<;>exact an.stuck
  |unsafePointer=>
   cases c using aq.ind with
   |cG=>cases a using aq.ind<;>first|exact an.stuck|exact .av rfl
   |ptr l=>
    cases a using aq.ind with
    |cG=>exact .av rfl
    |ptr n=>exact xq l n
    |_=>exact an.stuck
   |_=>cases a using aq.ind<;>exact an.stuck
  |chan Z j=>
   cases c using aq.ind with
   |gS=>cases a using aq.ind<;>first|exact an.stuck|exact .av rfl
   |chan l=>
    cases a using aq.ind with
    |gS=>exact .av rfl
    |chan n=>
     refine .av ?_;have:=qN (ρ:=X) (a:=⟨_,0,RA⟩) (a':=⟨_,0,RA⟩) (b:=⟨_,0,RA⟩) (b':=⟨_,0,RA⟩) ⟨l,rfl,rfl⟩ ⟨n,rfl,rfl⟩;simpa [ig] using this
    |_=>exact an.stuck
   |_=>cases a using aq.ind<;>exact an.stuck
  |int E=>
   cases c using aq.ind with
   |int R g=>
    rcases g with(_|r)|r
    all_goals
     cases a using aq.ind with
     |int ae h=>
      rcases h with(_|m)|m
      all_goals
       dsimp only
       split
       ·exact .av rfl
       ·exact an.stuck
     |ptr ab=>first|exact .av rfl|exact an.cS
     |cG=>exact an.cS
     |_=>exact an.stuck
   |cG=>cases a using aq.ind<;>exact an.cS
   |ptr l=>
    cases a using aq.ind with
    |ptr n=>
     dsimp only;refine(je l).bindM (fun p g h e b=>?_);refine(je (n.mono e)).bindM (fun z J K q N=>?_);have k:=b.1.mono q;have o:=N.1;refine .asks ?_;rw[qN k o,L.wD,L.KD];have O:decide (g.1.block<G.g)=decide (h.1.block<G.g):=by
      rw[decide_eq_decide];exact z.MZ _ _ k.1
     rw[O]
     split
     ·refine(lP L k).bindM (fun A x y i b=>?_);cases b;refine(lP L (o.mono i)).bindM (fun A x y i b=>?_);cases b;exact .av rfl
     ·refine(eV L.S t).bindM (fun A x y i b=>?_);obtain⟨rfl,-⟩:=b;rw[addr_eq k o]
      (repeat' split)<;>first|exact an.cS|exact .av rfl
    |int R g=>
     rcases g with(_|r)|r
     ·exact .av rfl
     ·exact an.cS
     ·exact an.cS
    |_=>exact an.cS
   |_=>cases a using aq.ind<;>first|exact an.stuck|exact an.cS
  |slice j=>cases c using aq.ind<;>first|exact an.stuck|(cases a using aq.ind<;>first|exact an.stuck|exact .av rfl)
  |map E K=>cases c using aq.ind<;>first|exact an.stuck|(cases a using aq.ind<;>first|exact an.stuck|exact .av rfl)
  |func g h J=>cases c using aq.ind<;>first|exact an.stuck|(cases a using aq.ind<;>first|exact an.stuck|exact .av rfl)
  |bool=>cases c using aq.ind<;>first|exact an.stuck|(cases a using aq.ind<;>first|exact an.stuck|exact .av rfl)
  |string=>cases c using aq.ind<;>first|exact an.stuck|(cases a using aq.ind<;>first|exact an.stuck|exact .av rfl)
  |float E=>cases c using aq.ind<;>first|exact an.stuck|(cases a<;>first|exact an.stuck|(dsimp only;split<;>first|exact .av rfl|exact an.stuck))
  |complex E=>cases c using aq.ind<;>first|exact an.stuck|(cases a<;>first|exact an.stuck|(dsimp only;split<;>first|exact .av rfl|exact an.stuck))
  |_=>cases c using aq.ind<;>first|exact an.stuck|(cases a<;>exact an.stuck)
end
end
section
variable {G:k8}
section
variable {P P':RM}{ρ:aN G}
theorem A8(L:Alike G P P')(t:RO){x a y b:RB}(c:aq ρ x a)(d:aq ρ y b):an P P' (ig (α:=Bool)) ρ (Op.equal t x y) (Op.equal t a b):=pP L _ t c d
theorem oQ(L:Alike G P P'):∀ (d:Nat) {ρ:aN G} (t:RO) {x k y l:RB},aq ρ x k→aq ρ y l→an P P' (ig (α:=Bool)) ρ (Op.eqGuardIn d t x y) (Op.eqGuardIn d t k l)
 |0,ρ,t,x,k,y,l,e,b=>by unfold Op.eqGuardIn;exact an.cS
 |d+1,ρ,t,x,k,y,l,e,b=>by
  unfold Op.eqGuardIn;refine(aO L.S t).bindM (fun R C Q w z=>?_);obtain⟨rfl,z⟩:=z;have e:=e.mono w;have b:=b.mono w;cases C with
  |struct B=>
   cases e using aq.ind with
   |agg n o=>
    cases b using aq.ind with
    |agg p q=>
     dsimp only;refine an.bindM (A:=ig) (EU B _ (fun u c f _ g=>?_)) (fun u m g c a=>?_)
     ·split
      ·refine(kI L.S f.type (aU.mono c ⟨n,o⟩) _).bindM (fun A v D j r=>?_);refine(kI L.S f.type (aU.mono (c.trans j) ⟨p,q⟩) _).bindM (fun H E F h s=>?_);refine(oQ L d f.type (r.mono h) s).bindM (fun I m g _ a=>?_);cases a
       split<;>exact .av rfl
      ·exact .av rfl
     ·cases a
      split<;>exact .av rfl
    |_=>exact .av rfl
   |_=>cases b using aq.ind<;>exact .av rfl
  |array K i=>
   cases e using aq.ind with
   |agg n o=>
    cases b using aq.ind with
    |agg p q=>
     dsimp only;refine(cF L.S i).bindM (fun u N O c a=>?_);cases a;rw[S9,S9];refine an.bindM (A:=ig) (rP _ _ (fun A j J _ g=>?_)) (fun u m g c a=>?_)
     ·refine(kI L.S i (aU.mono (c.trans j) ⟨n,o⟩) _).bindM (fun A v D h r=>?_);refine(kI L.S i (aU.mono (c.trans (j.trans h)) ⟨p,q⟩) _).bindM (fun H E F h s=>?_);refine(oQ L d i (r.mono h) s).bindM (fun I m g _ a=>?_);cases a
      split<;>exact .av rfl
     ·cases a
      split<;>exact .av rfl
    |_=>exact .av rfl
   |_=>cases b using aq.ind<;>exact .av rfl
  |interface M=>cases e using aq.ind<;>first|exact .av rfl|(cases b using aq.ind<;>exact .av rfl)
  |_=>cases e using aq.ind<;>first|exact .av rfl|(cases b<;>exact .av rfl)
theorem IC(L:Alike G P P')(f:VJ)(t:RO)(x y:SG){a a' b b':RB}(e:aq ρ a a')(c:aq ρ b b'):an P P' (ig (α:=Unit)) ρ (eqGuard f t x y a b) (eqGuard f t x y a' b'):=by
 have h:∀ {d:aN G} {s:String} {a a' b b':RB},aq d a a'→aq d b b'→an P P' (ig (α:=Unit)) d (do if ← Op.eqGuardIn Op.maxDepth t a b then unsupported (.noEntry s)) (do if ← Op.eqGuardIn Op.maxDepth t a' b' then unsupported (.noEntry s)):=fun e c=>
  (oQ L _ t e c).bindM (fun d a b _ n=>by
    cases n
    split
    ·exact an.cS
    ·exact .av rfl)
 have i:an P P' (ig (α:=Unit)) ρ (eqGuard .eql t x y a b) (eqGuard .eql t x y a' b'):=by
  unfold eqGuard;cases e using aq.ind with
  |nilIface=>
   cases c using aq.ind with
   |nilIface=>cases x<;>cases y<;>first|exact an.av (A:=ig (α:=Unit)) rfl|exact h .nilIface .nilIface
   |_=>exact an.av (A:=ig (α:=Unit)) rfl
  |agg j k=>
   cases c using aq.ind with
   |agg l m=>
    refine an.asks (k:=fun g=>_) (k':=fun g=>_) ?_;refine an.asks (k:=fun g=>_) (k':=fun g=>_) ?_;rw[L.QC,L.depth]
    split
    ·exact .av rfl
    ·exact h (.agg j k) (.agg l m)
   |_=>exact an.av (A:=ig (α:=Unit)) rfl
  |_=>cases c using aq.ind<;>exact an.av (A:=ig (α:=Unit)) rfl
 cases f<;>first|exact an.av (A:=ig (α:=Unit)) rfl|exact i
theorem mz(L:Alike G P P')(e:Array RO)(t:RO){x f:RB}(k:T3)(n:Int)(i:aq ρ x f):an P P' aq ρ (UH e t #[x,.int k n]) (UH e t #[f,.int k n]):=by
 unfold UH;cases i using aq.ind with
 |cG=>
  dsimp only;refine(nF (.int k n)).bindM (fun l g h c a=>?_);cases a
  split
  ·exact an.cS
  ·split<;>exact an.cS
 |ptr b=>
  dsimp only;refine(nF (.int k n)).bindM (fun l g h c a=>?_);cases a
  split
  ·refine(C4 (c _ _ b.1)).bindM (fun m x j d a=>?_);obtain⟨rfl,rfl⟩:=a;exact .av (.ptr (b.mono (c.trans d)))
  ·split
   ·exact an.cS
   ·refine(nH (c _ _ b.1)).bindM (fun m x j d a=>?_);cases a;cases x with
    |none=>exact an.cS
    |some o=>
     dsimp only;refine .asks ?_;rw[L.cells,L.cellAt,L.depth,← b.2.1]
     split
     ·exact .av (.ptr ⟨(c.trans d) _ _ b.1,rfl,b.2.2⟩)
     ·exact an.cS
 |_=>exact an.stuck
theorem iz(L:Alike G P P')(t:RO){o o':Option Sl}(k:T3)(n:Int)(e:aq ρ (.pointer o) (.pointer o')):an P P' aq ρ (movedNumber t (.pointer o) (.int k n)) (movedNumber t (.pointer o') (.int k n)):=by
 unfold movedNumber;refine(aO L.S t).bindM (fun j i y q d=>?_);obtain⟨rfl,d⟩:=d;have e:=e.mono q;clear d;cases e using aq.ind with
 |ptr m=>
  rename_i g l;have f:an P P' aq j (T7 g >>= fun a=>UH #[] t #[.pointer (Ry a.1),.int k n] >>= fun c=>match c with| .pointer (Ry b)=>asNumber b a.2|v=>pure v) (T7 l >>= fun a=>UH #[] t #[.pointer (Ry a.1),.int k n] >>= fun c=>match c with| .pointer (Ry b)=>asNumber b a.2|v=>pure v):=by
   refine(je m).bindM (fun A g b u h=>?_);refine(mz L _ _ k n (.ptr h.1)).bindM (fun B v z w s=>?_);rw[h.2];cases s using aq.ind with
   |ptr p=>exact .new (.number p _) (fun c x r=>.pure (.ptr ⟨aN.vp _ _ _ r,rfl,rfl⟩))
   |_=>exact .av (by first|exact .bool _|exact .int _ _|exact .string _|exact .cG|exact .ptr ‹_› |exact .ja _ _|exact .sl ‹_› _ _|exact .jG|exact .map ‹_› |exact .gS|exact .chan ‹_› |exact .nilFunc|exact .nilIface|exact .iface _ ‹_› |exact .agg ‹_› ‹_› |exact .tuple ‹_› ‹_› |exact .func ‹_› ‹_› ‹_› ‹_› ‹_›)
  cases i<;>first|exact eN|exact f
 |cG=>
  have f:=mz L (ρ:=j) #[] t k n .cG;cases i<;>first|exact eN|exact f
theorem xk(L:Alike G P P')(t:RO){o o':Option Sl}(k:T3)(n:Int)(d:aq ρ (.pointer o) (.pointer o')):an P P' aq ρ (movedPointer t (.pointer o) (.int k n)) (movedPointer t (.pointer o') (.int k n)):=by
 unfold movedPointer;cases d using aq.ind with
 |cG=>exact mz L _ _ k n .cG
 |ptr a=>
  refine(xp a.1).bindM (fun l i j c b=>?_);rcases b with⟨rfl,rfl⟩|⟨e,f,h,rfl,rfl,g⟩
  ·exact mz L #[] t k n (.ptr (a.mono c))
  ·exact eN
theorem uu(L:Alike G P P'){a a' b b':Sl}(c:cy ρ a a')(e:cy ρ b b'):an P P' (ig (α:=Nat×Nat)) ρ (Op.twoPlaces a b) (Op.twoPlaces a' b'):=by
 unfold Op.twoPlaces;refine .asks ?_;have g:decide (a.block≥G.g)=decide (a'.block≥G.g):=by
  rw[decide_eq_decide];have:=ρ.MZ _ _ c.1;omega
 have h:(a.block != b.block)=(a'.block != b'.block):=by
  have:=qN c e;simp only[bne,this]
 rw[L.wD,L.KD,h,g]
 split
 ·exact eN
 ·refine(lP L c).bindM (fun k i j f d=>?_);cases d;refine(lP L (e.mono f)).bindM (fun k i j f d=>?_);cases d;exact .av rfl
theorem zP(L:Alike G P P')(k:T3){a a':Sl}(n:Int)(d:cy ρ a a'):an P P' aq ρ (Op.addrMod k a n) (Op.addrMod k a' n):=by
 unfold Op.addrMod;refine(nH d.1).bindM (fun h c f e b=>?_);cases b;cases c with
 |none=>exact an.cS
 |some i=>
  refine(eV L.S _).bindM (fun j c f g b=>?_);obtain⟨rfl,-⟩:=b;dsimp only
  split
  ·exact eN
  ·refine(lP L (d.mono (e.trans g))).bindM (fun h c f e b=>?_);cases b;exact .av (.int _ _)
theorem EV(c:VJ)(k:T3)(a b:Int):an P P' (aq (ρ:=·)) ρ (Op.intArith c k a b) (Op.intArith c k a b):=by
 cases c<;>first|exact .av (.int _ _)|exact an.stuck
theorem IG(c:VJ)(k:T3)(a b:Int):an P P' (aq (ρ:=·)) ρ (Op.intBits c k a b) (Op.intBits c k a b):=by
 cases c<;>first|exact .av (.int _ _)|exact an.stuck
theorem Lj(c:VJ)(a b:Int):an P P' (aq (ρ:=·)) ρ (Op.intCmp c a b) (Op.intCmp c a b):=by
 cases c<;>first|exact .av (.bool _)|exact an.stuck
theorem Lk(L:Alike G P P')(c:VJ)(k:T3)(a b:Int):an P P' (aq (ρ:=·)) ρ (Op.intDiv c k a b) (Op.intDiv c k a b):=by
 unfold Op.intDiv
 split
 ·exact dZ L.S _ (by simp) (by simp) (by simp)
 ·cases c<;>first|exact .av (.int _ _)|exact an.stuck
theorem NB(L:Alike G P P')(c:VJ)(k:T3)(a:Int)(d:T3)(b:Int):an P P' (aq (ρ:=·)) ρ (Op.shift c k a d b) (Op.shift c k a d b):=by
 unfold Op.shift
 split
 ·exact dZ L.S _ (by simp) (by simp) (by simp)
 ·cases c<;>first|exact .av (.int _ _)|exact an.stuck
theorem EZ(c:VJ)(a b:ByteArray):an P P' (aq (ρ:=·)) ρ (Op.stringOp c a b) (Op.stringOp c a b):=by
 cases c
 all_goals
  unfold Op.stringOp;dsimp only
  first
  |exact .av (.bool _)
  |exact an.stuck
  |(split
    ·exact an.cS
    ·exact .av (.string _))
theorem Pj(L:Alike G P P')(c:VJ)(t:RO)(k:T3)(a:Int)(d:T3)(b:Int):an P P' (aq (ρ:=·)) ρ (binOp c t (.int k a) (.int d b)) (binOp c t (.int k a) (.int d b)):=by
 cases c
 all_goals
  unfold binOp;dsimp only
  first
  |exact NB L _ _ _ _ _
  |(split
    ·exact an.stuck
    ·first|exact EV _ _ _ _|exact Lk L _ _ _ _|exact IG _ _ _ _|exact Lj _ _ _)
theorem Nv(L:Alike G P P')(c:VJ)(t:RO){x l y m:RB}(p:aq ρ x l)(k:aq ρ y m):an P P' aq ρ (binOp c t x y) (binOp c t l m):=by
 have f:∀ {x l y m:RB},aq ρ x l→aq ρ y m→an P P' aq ρ (do pure (.bool (← Op.equal t x y))) (do pure (.bool (← Op.equal t l m))):=fun p k=>(A8 L t p k).bindM (fun q h i _ j=>by cases j;exact .av (.bool _));have g:∀ {x l y m:RB},aq ρ x l→aq ρ y m→an P P' aq ρ (do pure (.bool (!(← Op.equal t x y)))) (do pure (.bool (!(← Op.equal t l m)))):=fun p k=>(A8 L t p k).bindM (fun q h i _ j=>by cases j;exact .av (.bool _));have a:=p;have b:=k;have B:∀ {w z:Option Sl} (d:T3) (o:Int),aq ρ (.pointer w) (.pointer z)→an P P' aq ρ (do if (← UK t) matches .unsafePointer then movedPointer t (.pointer w) (.int d o) else movedNumber t (.pointer w) (.int d o)) (do if (← UK t) matches .unsafePointer then movedPointer t (.pointer z) (.int d o) else movedNumber t (.pointer z) (.int d o)):=fun d o e=>by
  refine(aO L.S t).bindM (fun q K O n H=>?_);obtain⟨rfl,-⟩:=H;have e:=e.mono n;cases K<;>first|exact xk L t d o e|exact iz L t d o e
 cases p using aq.ind with
 |int d h=>
  cases k using aq.ind with
  |int I i=>exact Pj L c t d h I i
  |ptr e=>
   cases c<;>first
    |exact f (.int d h) (.ptr e)
    |exact g (.int d h) (.ptr e)
    |exact iz L t d h (.ptr e)
    |exact(je e).bindM (fun q h i n j=>zP L _ _ j.1)
    |exact an.cS
  |cG=>
   cases c<;>first
    |exact f (.int d h) .cG
    |exact g (.int d h) .cG
    |exact iz L t d h .cG
    |exact an.cS
  |_=>cases c<;>first|exact f a b|exact g a b|exact an.stuck
 |string s=>
  cases k using aq.ind with
  |string J=>cases c<;>(unfold binOp;exact EZ _ s J)
  |ptr e=>cases c<;>first|exact f a b|exact g a b|exact an.cS
  |cG=>cases c<;>first|exact f a b|exact g a b|exact an.cS
  |_=>cases c<;>first|exact f a b|exact g a b|exact an.stuck
 |ptr e=>
  cases k using aq.ind with
  |int d i=>
   cases c<;>first
    |exact f a b
    |exact g a b
    |exact B d i a
    |exact iz L t d (-i) a
    |exact(je e).bindM (fun q h i n j=>zP L _ _ j.1)
    |exact an.cS
  |ptr A=>
   have F:an P P' aq ρ (do Op.addrSub .u64 (← T7 _).1 (← T7 _).1) (do Op.addrSub .u64 (← T7 _).1 (← T7 _).1):=
    (je e).bindM (fun q h i n j=>(je (A.mono n)).bindM (fun M C D u r=>(uu L (j.1.mono u) r.1).bindM (fun N x y _ v=>by cases v;exact .av (.int _ _))))
   have E:∀ c,an P P' aq ρ (do Op.addrCmp c (← T7 _).1 (← T7 _).1) (do Op.addrCmp c (← T7 _).1 (← T7 _).1):=fun c=>
    (je e).bindM (fun q h i n j=>(je (A.mono n)).bindM (fun M C D u r=>(uu L (j.1.mono u) r.1).bindM (fun N x y _ v=>by cases v;cases c<;>first|exact .av (.bool _)|exact an.cS)))
   cases c<;>first
    |exact f a b
    |exact g a b
    |exact F
    |exact E _
    |exact an.cS
  |_=>cases c<;>first|exact f a b|exact g a b|exact an.cS
 |cG=>
  cases k using aq.ind with
  |int d i=>
   cases c<;>first
    |exact f a b
    |exact g a b
    |exact B d i a
    |exact iz L t d (-i) a
    |exact an.cS
  |_=>cases c<;>first|exact f a b|exact g a b|exact an.cS
 |_=>
  cases k using aq.ind with
  |ptr e=>cases c<;>first|exact f a b|exact g a b|exact an.cS
  |cG=>cases c<;>first|exact f a b|exact g a b|exact an.cS
  |_=>cases c<;>first|exact f a b|exact g a b|exact an.stuck
end
end
section
variable {G:k8}
def eK (ρ:aN G)(f:List Tv)(g:List Tv):Prop:=∀ a:List Tv→List Tv→Prop,(a [] [])→(∀ {b c:Tv} {d e:List Tv} (h:rj ρ b c) (i:a d e),a (b :: d) (c :: e))→a f g
theorem eK.nil{ρ:aN G}:eK ρ [] []:=fun b a c=>a
theorem eK.cons{ρ:aN G}{e e':Tv}{l b:List Tv}(h:rj ρ e e')(f:eK ρ l b):eK ρ (e :: l) (e' :: b):=fun c d a=>a h (f c d a)
theorem eK.ind{ρ:aN G}{d:∀ (a:List Tv) (b:List Tv),eK ρ a b→Prop}(nil:d _ _ (eK.nil))(cons:∀ {e e':Tv} {l f:List Tv} (h:rj ρ e e') (c:eK ρ l f),(d _ _ c)→d _ _ (eK.cons h c)){a:List Tv}{b:List Tv}(h:eK ρ a b):d a b h:=(h (fun a b=>eK ρ a b∧∀ h,d a b h) (⟨eK.nil,fun _=>nil⟩) (fun h c=>⟨eK.cons h c.1,fun _=>cons h c.1 (c.2 _)⟩)).2 h
theorem eK.mono{ρ σ:aN G}(b:ρ.le σ){l a:List Tv}(h:eK ρ l a):eK σ l a:=by
 induction h using eK.ind with
 |nil=>exact .nil
 |cons h _ c=>exact .cons (h.mono b) c
theorem Cs{ρ:aN G}:∀ (l a:List Tv),l.length=a.length→(∀ i (h:i<l.length) (e:i<a.length),rj ρ l[i] a[i])→eK ρ l a
 | [],[],_,_=>.nil
 | [],_ :: _,h,_=>by simp at h
 |_ :: _,[],h,_=>by simp at h
 |v :: l,f :: a,h,b=>.cons (b 0 (by simp) (by simp)) (Cs l a (by simpa using h) (fun i c d=>b (i+1) (by simpa using c) (by simpa using d)))
def mL (ρ:aN G)(es b:Array Tv):Prop:=es.size=b.size∧∀ a (c:a<es.size) (d:a<b.size),rj ρ es[a] b[a]
theorem mL.mono{ρ σ:aN G}(d:ρ.le σ){l a:Array Tv}(h:mL ρ l a):mL σ l a:=⟨h.1,fun e b c=>(h.2 e b c).mono d⟩
theorem mL.toList{ρ:aN G}{es a:Array Tv}(h:mL ρ es a):eK ρ es.toList a.toList:=
 Cs _ _ (by simpa using h.1) (fun d b c=>by simpa using h.2 d (by simpa using b) (by simpa using c))
def plainKey(P:RM):Nat→RO→Bool
 |0,_=>RF
 |d+1,c=>match P.underlying c with
  |some (.interface _)=>RE
  |some (.array _ a)=>plainKey P d a
  |some (.struct b)=>b.toList.all fun f=>plainKey P d f.type
  |_=>RF
section
variable {P P':RM}{ρ:aN G}
theorem nG(L:Alike G P P')(j k:Bool):∀ (d:Nat) {ρ:aN G} (t:RO) {v c:RB},plainKey P d t=RF→aq ρ v c→an P P' (ig (α:=Unit)) ρ (U9 j d t v) (U9 k d t c)
 |0,ρ,t,v,c,a,b=>by unfold U9;exact an.cS
 |d+1,ρ,t,v,c,a,b=>by
  unfold U9;refine(aO L.S t).bindM (fun J z I y o=>?_);obtain⟨rfl,o⟩:=o;have b:=b.mono y;unfold plainKey at a;rw[o] at a;cases z with
  |interface E=>simp at a
  |struct u=>
   cases b using aq.ind with
   |agg l m=>
    dsimp only;refine an.bindM (A:=ig) (EU u _ (fun q g f w e=>?_)) (fun q h e g n=>.av rfl);have x:plainKey P d f.type=RF:=by
     simp only at a;exact Sf.1 a f w
    split
    ·refine(kI L.S f.type (aU.mono g ⟨l,m⟩) _).bindM (fun A v c r p=>?_);exact(nG L j k d f.type x p).bindM (fun s h e _ _=>.av rfl)
    ·exact .av rfl
   |_=>exact an.stuck
  |array D i=>
   cases b using aq.ind with
   |agg l m=>
    dsimp only;rw[S9,S9];refine an.bindM (A:=ig) (rP _ _ (fun q g C _ e=>?_)) (fun q h e g n=>.av rfl);refine(cF L.S i).bindM (fun A F H r n=>?_);cases n;refine(kI L.S i (aU.mono (g.trans r) ⟨l,m⟩) _).bindM (fun s v c B p=>?_);exact(nG L j k d i (by simpa using a) p).bindM (fun s h e _ _=>.av rfl)
   |_=>exact an.stuck
  |_=>cases b using aq.ind<;>exact .av rfl
def jX (ρ:aN G)(d:Option (Nat×RB))(e:Option (Nat×RB)):Prop:=∀ a:Option (Nat×RB)→Option (Nat×RB)→Prop,(a RA RA)→(∀ (b:Nat) {v c:RB} (f:aq ρ v c),a (Ry (b,v)) (Ry (b,c)))→a d e
theorem jX.none{ρ:aN G}:jX ρ RA RA:=fun b a c=>a
theorem jX.some{ρ:aN G}(i:Nat){v a:RB}(h:aq ρ v a):jX ρ (Ry (i,v)) (Ry (i,a)):=fun c d b=>b i h
theorem jX.ind{ρ:aN G}{c:∀ (a:Option (Nat×RB)) (b:Option (Nat×RB)),jX ρ a b→Prop}(none:c _ _ (jX.none))(some:∀ (i:Nat) {v d:RB} (h:aq ρ v d),c _ _ (jX.some i h)){a:Option (Nat×RB)}{b:Option (Nat×RB)}(h:jX ρ a b):c a b h:=(h (fun a b=>jX ρ a b∧∀ h,c a b h) (⟨jX.none,fun _=>none⟩) (fun i {v} {d} h=>⟨jX.some i h,fun _=>some i h⟩)).2 h
theorem rO(L:Alike G P P')(t:RO):∀ (es c:List Tv) {ρ:aN G} {k k':RB} (i:Nat),aq ρ k k'→eK ρ es c→an P P' jX ρ (Instr.findAsking t k es i) (Instr.findAsking t k' c i)
 | [],[],ρ,k,k',i,b,a=>.av .none
 | [],_ :: _,ρ,k,k',i,b,a=>by cases a using eK.ind
 |_ :: _,[],ρ,k,k',i,b,a=>by cases a using eK.ind
 |e :: es,m :: c,ρ,k,k',i,b,a=>by
  cases a using eK.ind with
  |cons f h=>
   unfold Instr.findAsking;refine(A8 L t b f.key).bindM (fun n j l d g=>?_);cases g
   split
   ·exact .av (.some _ (f.val.mono d))
   ·exact rO L t es c _ (b.mono d) (h.mono d)
theorem Ly(d:TypeDesc){x a y b:RB}(c:aq ρ x a)(e:aq ρ y b):Instr.sameNow d x y=Instr.sameNow d a b:=by
 cases c using aq.ind<;>cases e using aq.ind<;>first|rfl|(cases d<;>rfl)
theorem Cv(d:TypeDesc){k k':RB}(f:aq ρ k k'):∀ (es b:List Tv) (i:Nat),eK ρ es b→(Instr.findNow d k es i=RA∧Instr.findNow d k' b i=RA)∨∃ x g,Instr.findNow d k es i=Ry x∧Instr.findNow d k' b i=Ry g∧jX ρ x g
 | [],[],i,a=>.inr ⟨_,_,rfl,rfl,.none⟩
 | [],_ :: _,i,a=>by cases a using eK.ind
 |_ :: _,[],i,a=>by cases a using eK.ind
 |e :: es,j :: b,i,a=>by
  cases a using eK.ind with
  |cons c h=>
   unfold Instr.findNow;rw[Ly d f c.key]
   split
   ·exact .inr ⟨_,_,rfl,rfl,.some _ c.val⟩
   ·exact Cv d f es b (i+1) h
   ·exact .inl ⟨rfl,rfl⟩
theorem zR(L:Alike G P P')(t:RO){k k':RB}{es a:List Tv}(e:aq ρ k k')(h:eK ρ es a):an P P' jX ρ (Vz t k es) (Vz t k' a):=by
 unfold Vz;refine(aO L.S t).bindM (fun n i j b g=>?_);obtain⟨rfl,-⟩:=g;rcases Cv i (e.mono b) es a 0 (h.mono b) with⟨c,d⟩|⟨l,m,c,d,f⟩
 ·rw[c,d];exact rO L t es a 0 (e.mono b) (h.mono b)
 ·rw[c,d];exact .av f
theorem Lm(L:Alike G P P')(t:RO){x z k k':RB}(ok:Bool)(C:∀ a b,P.underlying t=Ry (.map a b)→plainKey P 10000 a=RF)(s:aq ρ x z)(h:aq ρ k k'):an P P' aq ρ (Instr.lookup t x k ok) (Instr.lookup t z k' ok):=by
 unfold Instr.lookup;refine(aO L.S t).bindM (fun Q J O p r=>?_);obtain⟨rfl,r⟩:=r;cases J with
 |map e n=>
  have u:∀ {d:aN G} {f g:Array Tv},ρ.le d→mL d f g→an P P' aq d (do
   U9 f.isEmpty 10000 e k
   let (v,c) ← match ← Vz e k f.toList with
    |some (_,v)=>pure (v,RF)
    |none=>pure (← TO n,RE)
   pure (if ok then .tuple #[v,.bool c] else v)) (do
   U9 g.isEmpty 10000 e k'
   let (v,c) ← match ← Vz e k' g.toList with
    |some (_,v)=>pure (v,RF)
    |none=>pure (← TO n,RE)
   pure (if ok then .tuple #[v,.bool c] else v)):=by
   intro d f g y B;have w:∀ {d:aN G} {v m:RB} (c:Bool),aq d v m→aq d (if ok then .tuple #[v,.bool c] else v) (if ok then .tuple #[m,.bool c] else m):=by
    intro d v m c j;cases ok
    ·exact j
    ·exact .tuple rfl (fun l o M=>by
      have:l=0∨l=1:=by simp at o;omega
      rcases this with rfl|rfl
      ·exact j
      ·exact .bool _)
   refine(nG L _ _ _ e (C _ _ r) (h.mono y)).bindM (fun R a b i _=>?_);refine(zR L e (h.mono (y.trans i)) (B.mono i).toList).bindM (fun S a b N A=>?_);cases A using jX.ind with
   |none=>exact(iS L.S n).bindM (fun T a b _ H=>.av (w _ H))
   |some l j=>exact .av (w _ j)
  have s:=s.mono p;cases s using aq.ind with
  |jG=>exact u p ⟨rfl,fun l o=>by simp at o⟩
  |map E=>
   refine an.bindM (A:=dg) (.getObj E (fun c I q=>.pure q)) (fun d c I i q=>?_);cases q using dg.ind with
   |map F D K=>exact u (p.trans i) ⟨F,D⟩
   |_=>exact an.stuck
  |_=>exact an.stuck
 |_=>exact an.stuck
theorem N8(f:RB→RB→Bool){l c:List RB}(h:ir ρ l c):∀ {m m':List RB},ir ρ m m'→(∀ x d y e,aq ρ x d→aq ρ y e→f x y=f d e)→((l.zip m).all fun(x,y)=>f x y)=((c.zip m').all fun(x,y)=>f x y):=by
 induction h using ir.ind with
 |nil=>intro m m' _ _;simp
 |cons g _ j=>
  intro m m' a b;cases a using ir.ind with
  |nil=>simp
  |cons i a=>
   simp only[List.zip_cons_cons,List.all_cons];rw[b _ _ _ _ g i,j a b]
theorem K7{a a' b b':Nat}(c:ρ.f a=Ry a')(d:ρ.f b=Ry b'):(a == b)=(a' == b'):=by
 have:=qN (ρ:=ρ) (a:=⟨a,0,RA⟩) (a':=⟨a',0,RA⟩) (b:=⟨b,0,RA⟩) (b':=⟨b',0,RA⟩) ⟨c,rfl,rfl⟩ ⟨d,rfl,rfl⟩;simpa using this
theorem tD:∀ (n:Nat) {x c y d:RB},aq ρ x c→aq ρ y d→UT n x y=UT n c d
 |0,x,c,y,d,e,f=>by
  cases e using aq.ind<;>cases f using aq.ind<;>first
   |rfl
   |(rename_i a _ _ b;simp only[UT];have:=addr_eq a b;simpa using this)
   |(rename_i a _ _ b;simp only[UT];have:=K7 a b;simpa using this)
 |n+1,x,c,y,d,e,f=>by
  cases e using aq.ind<;>cases f using aq.ind<;>first
   |rfl
   |(rename_i a _ _ b;simp only[UT];have:=addr_eq a b;simpa using this)
   |(rename_i a _ _ b;simp only[UT];have:=K7 a b;simpa using this)
   |(rename_i a _ _ _ b _ _;simp only[UT];rw[tD n a b])
   |(rename_i a b _ _ g h _ _;simp only[UT,a,g];rw[N8 (UT n) (aU.toList ⟨a,b⟩) (aU.toList ⟨g,h⟩) (fun _ _ _ _ i j=>tD n i j)])
end
end
section
variable {G:k8}
section
variable {P P':RM}{ρ:aN G}
theorem mL.push{es a:Array Tv}(h:mL ρ es a){e e':Tv}(b:rj ρ e e'):mL ρ (es.push e) (a.push e'):=by
 refine⟨by simp[h.1],fun c d f=>?_⟩;simp only[Array.getElem_push];have:=h.1
 split
 ·rw[dif_pos (by omega)];exact h.2 c _ _
 ·rw[dif_neg (by omega)];exact b
theorem mL.modify{es a:Array Tv}(h:mL ρ es a)(i:Nat){f f':Tv→Tv}(c:∀ e e',rj ρ e e'→rj ρ (f e) (f' e')):mL ρ (es.modify i f) (a.modify i f'):=by
 refine⟨by simp[h.1],fun b d g=>?_⟩;simp only[Array.getElem_modify]
 split
 ·exact c _ _ (h.2 b _ _)
 ·exact h.2 b _ _
theorem xj{a a' b b':RB}(d:aq ρ a a')(c:aq ρ b b'):an P P' aq ρ (Instr.keyThatStays a b) (Instr.keyThatStays a' b'):=by
 unfold Instr.keyThatStays;rw[tD _ d c]
 split
 ·exact .av c
 ·refine oP _ (fun e=>.av ?_)
  split
  ·exact c
  ·exact d
theorem uq(L:Alike G P P')(t:RO){m m' k k' v j:RB}(K:∀ a b,P.underlying t=Ry (.map a b)→plainKey P 10000 a=RF)(q:aq ρ m m')(d:aq ρ k k')(C:aq ρ v j):an P P' (ig (α:=Unit)) ρ (Instr.mapUpdate t m k v) (Instr.mapUpdate t m' k' j):=by
 unfold Instr.mapUpdate;refine(aO L.S t).bindM (fun Y Q X y s=>?_);obtain⟨rfl,s⟩:=s;cases Q with
 |map E W=>
  have q:=q.mono y;cases q using aq.ind with
  |jG=>exact dZ L.S _ (by simp) (by simp) (by simp)
  |map A=>
   refine an.bindM (A:=dg) (.getObj A (fun N O r=>.pure r)) (fun T N O z r=>?_);cases r using dg.ind with
   |map M I u=>
    rename_i l w;have x:mL T l w:=⟨M,I⟩;have p:=y.trans z;refine(nG L _ _ _ E (K _ _ s) (d.mono p)).bindM (fun Z _ _ e _=>?_);refine(zR L E (d.mono (p.trans e)) (x.mono e).toList).bindM (fun U a b n H=>?_);have c:=x.mono (e.trans n);have f:=p.trans (e.trans n);have B:=(z.trans (e.trans n)) _ _ A;cases H using jX.ind with
    |none=>
     have:=c.push (e:=⟨k,v,u⟩) (e':=⟨k',j,u⟩) ⟨d.mono f,C.mono f,rfl⟩;exact .setObj B (.map this.1 this.2 _) (.pure rfl)
    |some g D=>
     have J:aq U ((l[g]?.map (·.key)).getD k) ((w[g]?.map (·.key)).getD k'):=by
      by_cases i:g<l.size
      ·rw[Sv i,Sv (by rw[← c.1];exact i)];exact(c.2 g i (by rw[← c.1];exact i)).key
      ·rw[SZ (by omega),SZ (by have:=c.1;omega)];exact d.mono f
     refine(xj J (d.mono f)).bindM (fun ab R S o D=>?_);have:=(c.mono o).modify g (f:=fun h=>{h with key:=R,val:=v}) (f':=fun h=>{h with key:=S,val:=j}) (fun h V F=>⟨D,C.mono (f.trans o),F.born⟩);exact .setObj (o _ _ B) (.map this.1 this.2 _) (.pure rfl)
   |_=>exact an.stuck
  |_=>exact an.stuck
 |_=>exact an.stuck
theorem Ba{v a:RB}(h:aq ρ v a):an P P' (ig (α:=Nat)) ρ (Vy v) (Vy a):=by
 cases h using aq.ind<;>first|exact .av rfl|exact an.stuck
theorem Mh(s:ByteArray):aU ρ (s.data.map fun b=>.int .u8 b.toNat) (s.data.map fun b=>.int .u8 b.toNat):=
 ⟨rfl,fun d a c=>by simp only[Array.getElem_map];exact .int _ _⟩
theorem jf(a n:Nat){v b:RB}(h:aq ρ v b):an P P' aU ρ (UF a n v) (UF a n b):=by
 cases h using aq.ind with
 |sl d m c=>exact um _ d
 |ja m c=>exact .av (aU.nil _)
 |string s=>exact .av (Mh _)
 |_=>exact an.stuck
theorem Qo(L:Alike G P P')(j:Array RO)(t:RO){vs m:Array RB}(h:aU ρ vs m):an P P' aq ρ (Builtin.len_ j t vs) (Builtin.len_ j t m):=by
 unfold Builtin.len_;cases j[0]? with
 |none=>rcases h.get 0 with⟨b,c⟩|⟨v,A,b,c,d⟩<;>(rw[b,c];exact an.stuck)
 |some y=>
  rcases h.get 0 with⟨b,c⟩|⟨v,A,b,c,d⟩
  ·rw[b,c];exact an.stuck
  ·rw[b,c];dsimp only;refine(aO L.S y).bindM (fun B k z l e=>?_);obtain⟨rfl,e⟩:=e;have d:=d.mono l;cases k with
   |pointer o=>
    refine(aO L.S o).bindM (fun B k z l e=>?_);obtain⟨rfl,e⟩:=e;cases k<;>first|exact .av (.int _ _)|exact an.stuck
   |array x D=>exact .av (.int _ _)
   |map n p=>
    cases d using aq.ind with
    |map f=>
     refine an.bindM (A:=dg) (.getObj f (fun g i a=>.pure a)) (fun C g i u a=>?_);cases a using dg.ind with
     |map w E q=>dsimp only;rw[w];exact .av (.int _ _)
     |_=>exact an.stuck
    |jG=>exact .av (.int _ _)
    |_=>exact an.stuck
   |chan n p=>
    cases d using aq.ind with
    |chan f=>
     refine an.bindM (A:=dg) (.getObj f (fun g i a=>.pure a)) (fun C g i u a=>?_);cases a using dg.ind with
     |chan x r q s F H=>dsimp only;rw[r.1];exact .av (.int _ _)
     |_=>exact an.stuck
    |gS=>exact .av (.int _ _)
    |_=>exact an.stuck
   |_=>cases d using aq.ind<;>first|exact .av (.int _ _)|exact an.stuck
theorem Pf(L:Alike G P P')(n:Array RO)(t:RO){vs q:Array RB}(h:aU ρ vs q):an P P' aq ρ (Builtin.copy_ n t vs) (Builtin.copy_ n t q):=by
 unfold Builtin.copy_;cases n[0]? with
 |none=>exact an.stuck
 |some x=>
  rcases h.get 0 with⟨k,l⟩|⟨v,D,k,l,m⟩
  ·rw[k,l];exact an.stuck
  ·rw[k,l];rcases h.get 1 with⟨i,j⟩|⟨E,F,i,j,e⟩
   ·rw[i,j];exact an.stuck
   ·rw[i,j];dsimp only;refine(aO L.S x).bindM (fun H y C d p=>?_);obtain⟨rfl,p⟩:=p;cases y with
    |slice o=>
     have m:=m.mono d;cases m using aq.ind with
     |ja w r=>
      refine(Ba (e.mono d)).bindM (fun z b c f a=>?_);cases a;refine(cF L.S o).bindM (fun A b c g a=>?_);cases a;exact(jf _ _ (e.mono (d.trans (f.trans g)))).bindM (fun B b c _ _=>.av (.int _ _))
     |sl s w r=>
      refine(Ba (e.mono d)).bindM (fun z b c f a=>?_);cases a;refine(cF L.S o).bindM (fun A b c g a=>?_);cases a;refine(jf _ _ (e.mono (d.trans (f.trans g)))).bindM (fun B b c u a=>?_);exact(jg _ _ 0 (s.mono (f.trans (g.trans u))) a.toList).bindM (fun I b c _ _=>.av (.int _ _))
     |_=>exact an.stuck
    |_=>exact an.stuck
theorem rQ{a a':Sl}(n:Nat)(h:cy ρ a a'):an P P' (ig (α:=Bool)) ρ (UG a n) (UG a' n):=by
 unfold UG;refine(nH h.1).bindM (fun f d e c b=>?_);cases b;rw[h.2.1,h.2.2]
 split<;>exact .av rfl
def eX (ρ:aN G)(d:Option Sl)(e:Option Sl):Prop:=∀ a:Option Sl→Option Sl→Prop,(a RA RA)→(∀ {b c:Sl} (f:cy ρ b c),a (Ry b) (Ry c))→a d e
theorem eX.none{ρ:aN G}:eX ρ RA RA:=fun b a c=>a
theorem eX.some{ρ:aN G}{a a':Sl}(h:cy ρ a a'):eX ρ (Ry a) (Ry a'):=fun c d b=>b h
theorem eX.ind{ρ:aN G}{d:∀ (b:Option Sl) (c:Option Sl),eX ρ b c→Prop}(none:d _ _ (eX.none))(some:∀ {a a':Sl} (h:cy ρ a a'),d _ _ (eX.some h)){b:Option Sl}{c:Option Sl}(h:eX ρ b c):d b c h:=(h (fun b c=>eX ρ b c∧∀ h,d b c h) (⟨eX.none,fun _=>none⟩) (fun h=>⟨eX.some h,fun _=>some h⟩)).2 h
theorem ur(k:Nat){o o':Option Sl}(g:eX ρ o o'):∀ {σ:aN G} {x a:RB},ρ.le σ→aq σ x a→an P P' (ig (α:=Bool)) σ (match x with| .slice (Ry b) _ _=>do pure (!(← UG b k) || o.any (·.block == b.block))|_=>pure RE) (match a with| .slice (Ry b) _ _=>do pure (!(← UG b k) || o'.any (·.block == b.block))|_=>pure RE):=by
 intro σ x a f h;cases h using aq.ind with
 |sl c m i=>
  refine(rQ _ c).bindM (fun n x l j e=>?_);cases e;cases g using eX.ind with
  |none=>exact .av rfl
  |some d=>
   refine .av ?_;simp only[Option.any_some,qN (d.mono f) c];rfl
 |_=>exact .av rfl
theorem EX(h sl n:Nat){o o':Option Sl}{x i:RB}(e:eX ρ o o')(g:aq ρ x i):an P P' (ig (α:=Bool)) ρ (Vo h sl n o x) (Vo h sl n o' i):=by
 unfold Vo;have f:=e;cases e using eX.ind with
 |none=>exact ur _ f (aN.le.refl _) g
 |some c=>
  refine(rQ _ c).bindM (fun p j l b a=>?_);cases a;refine(oR ((c.mono b).add _)).bindM (fun q k m d a=>?_);cases a;cases j<;>cases k<;>first|exact an.av (A:=ig (α:=Bool)) rfl|exact ur _ f (b.trans d) (g.mono (b.trans d))
theorem Mi{z a:Array RB}(h:aU ρ z a)(n:Nat):aU ρ (Builtin.zeroCells z n) (Builtin.zeroCells a n):=by
 unfold Builtin.zeroCells;rw[← h.1];have:=kV h (n*z.size);rw[← h.1] at this;exact this
end
end
section
variable {G:k8}
section
variable {P P':RM}{ρ:aN G}
def wF (a:RO)(d m n c:Nat)(o:Option Sl)(x:RB):T1 RB:=do
 let b ← choose (Question.appendCap (m+n) c a);let f ← UE a
 askRoom (b*f.bytes)
 let h ← UF d m (SS o m c);let g ← UF d n x;let i ← TO a;let e ← newRow a (h ++ g ++ Builtin.zeroCells i.cells (b - (m+n)))
 pure (SS (Ry e) (m+n) b)
def wE (a:RO)(b m n c:Nat)(o:Option Sl)(x:RB):T1 RB:=do
 let e ← UE a
 if Builtin.nextslicecap (m+n) c*e.bytes > 2 ^ 48 then
  (do
    let d ← Vo b m n o x
    if (!d)=RF then do
     mark Mark.noRoom
     unsupported (VY "append: a slice or a string whose bytes no memory bears")
    else unsupported (VY "append: a slice or a string whose bytes no memory bears"):T1 PUnit) >>= fun _=>wF a b m n c o x
 else wF a b m n c o x
def me (b:RO)(a m n c:Nat)(o:Option Sl)(x:RB):T1 RB:=
 if m+n≤c then do
  let f ← UF a n x
  match o with
   |some d=>do
    storeCells (d.add (m*a)) f.toList
    pure (SS o (m+n) c)
   |_=>pure (SS o (m+n) c)
 else do
  let e ← UE b
  if ((m+n:Nat):Int) > VQ.max∧(False∨e.bytes=0) then do
   runtimePanic (Wo "growslice: len out of range")
   wE b a m n c o x
  else wE b a m n c o x
theorem eX.mono{σ:aN G}(a:ρ.le σ){o o':Option Sl}(h:eX ρ o o'):eX σ o o':=by
 cases h using eX.ind with
 |none=>exact .none
 |some h=>exact .some (h.mono a)
theorem eX.slice{o o':Option Sl}(h:eX ρ o o')(m c:Nat):aq ρ (.slice o m c) (.slice o' m c):=by
 cases h using eX.ind with
 |none=>exact .ja _ _
 |some h=>exact .sl h _ _
theorem Nz(L:Alike G P P')(a:RO)(b m n c:Nat){o o':Option Sl}{x f:RB}(t:eX ρ o o')(u:aq ρ x f):an P P' aq ρ (wF a b m n c o x) (wF a b m n c o' f):=by
 unfold wF;refine oP _ (fun B=>?_);refine(eV L.S a).bindM (fun E z A p l=>?_);obtain⟨rfl,-⟩:=l;refine(zQ _).bindM (fun F _ _ q _=>?_);have e:=p.trans q;refine(jf b m ((t.mono e).slice m c)).bindM (fun H g w r j=>?_);refine(jf b n (u.mono (e.trans r))).bindM (fun I h y s k=>?_);refine(iS L.S a).bindM (fun J C D d v=>?_);exact(oS a (((j.mono (s.trans d)).append (k.mono d)).append (Mi v.cells _))).bindM (fun K g h _ i=>.av (.sl i _ _))
theorem Ny(L:Alike G P P')(a:RO)(d m n c:Nat){o o':Option Sl}{x g:RB}(e:eX ρ o o')(f:aq ρ x g):an P P' aq ρ (wE a d m n c o x) (wE a d m n c o' g):=by
 unfold wE;refine(eV L.S a).bindM (fun s q r b k=>?_);obtain⟨rfl,-⟩:=k
 split
 ·refine an.bindM (A:=fun _ (_ _:PUnit)=>False) ?_ (fun _ _ _ _ i=>i.elim);refine(EX _ _ _ (e.mono b) (f.mono b)).bindM (fun t h l p j=>?_);cases j;cases h
  ·exact an.room (.halt (.same _ rfl))
  ·exact an.cS
 ·exact Nz L a d m n c (e.mono b) (f.mono b)
theorem Iz(L:Alike G P P')(b:RO)(d m n c:Nat){o o':Option Sl}{x h:RB}(f:eX ρ o o')(g:aq ρ x h):an P P' aq ρ (me b d m n c o x) (me b d m n c o' h):=by
 unfold me
 split
 ·refine(jf d n g).bindM (fun l p q a i=>?_);cases f using eX.ind with
  |none=>exact .av (.ja _ _)
  |some e=>exact(jg _ _ 0 ((e.mono a).add _) i.toList).bindM (fun t _ _ k _=>.av (.sl (e.mono (a.trans k)) _ _))
 ·refine(eV L.S b).bindM (fun l r s a j=>?_);obtain⟨rfl,-⟩:=j
  split
  ·exact tj L _ (by simp) (by simp) (by simp)
  ·exact Ny L b d m n c (f.mono a) (g.mono a)
theorem Lg(L:Alike G P P')(e:Array RO)(t:RO){vs D:Array RB}(O:∀ f,e[1]? =Ry f→∀ k,P.underlying f≠Ry (.int k))(h:aU ρ vs D):an P P' aq ρ (Vc e t vs) (Vc e t D):=by
 unfold Vc;cases e[0]? with
 |none=>exact an.stuck
 |some Q=>
  rcases h.get 0 with⟨p,q⟩|⟨v,C,p,q,j⟩
  ·rw[p,q];exact an.stuck
  ·rw[p,q];rcases h.get 1 with⟨n,o⟩|⟨E,F,n,o,i⟩
   ·rw[n,o];exact an.stuck
   ·rw[n,o];dsimp only;refine(aO L.S Q).bindM (fun H R V x A=>?_);obtain⟨rfl,A⟩:=A;cases R with
    |slice g=>
     have j:=j.mono x;have i:=i.mono x;obtain⟨b,l,m,a,rfl,rfl,M⟩|K:(∃ b l m a,v= .slice b m a∧C= .slice l m a∧eX H b l)∨((∀ b m a,v≠.slice b m a)∧∀ b m a,C≠.slice b m a):=by
      cases j using aq.ind with
      |ja m a=>exact .inl ⟨_,_,_,_,rfl,rfl,.none⟩
      |sl J m a=>exact .inl ⟨_,_,_,_,rfl,rfl,.some J⟩
      |_=>exact .inr ⟨by simp,by simp⟩
     ·dsimp only;refine(cF L.S g).bindM (fun W u S y r=>?_);cases r;have B:∀ {w:aN G},H.le w→an P P' aq w (Vy E >>= fun d=>me g u m d a b E) (Vy F >>= fun d=>me g u m d a l F):=fun c=>
       (Ba (i.mono c)).bindM (fun X d U z r=>by
         cases r;exact Iz L g u m d a (M.mono (c.trans z)) (i.mono (c.trans z)))
      cases N:e[1]? with
      |none=>
       simp only[pure_bind,Sa,if_false,Bool.not_false,if_true];exact B y
      |some f=>
       refine(aO L.S f).bindM (fun w I T c s=>?_);obtain⟨rfl,s⟩:=s;cases I with
       |int k=>exact absurd s (O f N k)
       |_=>
        simp only[pure_bind,Sa,if_false,Bool.not_false,if_true];exact B (y.trans c)
     ·cases j using aq.ind<;>first|exact an.stuck|exact absurd rfl (K.1 _ _ _)
    |_=>exact an.stuck
end
end
end Rl
namespace Cc
open Go
section
variable {P P':RM}{O:UQ→Prop}{α β:Type}
theorem y9(s:FloatKind)(b:Nat)(d:T3):St P P' O (Conv.floatToInt s b d):=by
 unfold Conv.floatToInt
 (try dsimp only)
 repeat' first|exact au _|exact cC _|refine af ?_ (fun _=>?_)|split|dsimp only|exact trivial
theorem xX(n:Int):St P P' O (Conv.intToString n):=by
 unfold Conv.intToString;exact trivial
theorem tL(b:Twin P P')(a:Plain O)(e:RO)(s:ByteArray):St P P' O (Conv.stringToBytes e s):=by unfold Conv.stringToBytes;((try dsimp only);repeat' first|exact cC _|exact iT a _ _|exact m6 b a _|assumption|(refine af ?_ (fun _=>?_))|intro _|split|(dsimp only)|exact trivial)
theorem tM(b:Twin P P')(a:Plain O)(e:RO)(s:ByteArray):St P P' O (Conv.stringToRunes e s):=by unfold Conv.stringToRunes;((try dsimp only);repeat' first|exact cC _|exact iT a _ _|assumption|(refine af ?_ (fun _=>?_))|intro _|split|(dsimp only)|exact trivial)
theorem Fp(a:Twin P P')(b:Plain O)(s d:RO)(x:RB)(h:Es P s d=RF):St P P' O (convert s d x):=by
 unfold convert;refine gU (vA a s) fun m i=>?_;refine gU (vA a d) fun f k=>?_;unfold Es at h;rw[i,k] at h;cases m<;>first|(simp at h;done)|skip
 ·rename_i p;cases f<;>first|(simp at h;done)|skip
  cases x<;>first|exact trivial|exact aT _ rfl|(rename_i c;cases c<;>exact aT _ rfl)|skip
  exact y9 _ _ _
 ·rename_i g;cases f<;>first|(simp at h;done)|skip
  ·cases x<;>first|exact trivial|skip
   all_goals first
    |exact xX _
    |(refine gU (vA a g) fun e j=>?_;dsimp only at h;rw[j] at h;cases e<;>first|(simp at h;done)|skip
      rename_i l;cases l<;>first|(simp at h;done)|exact tF a b _)
  ·cases x with
   |string s=>
    refine af (aC a _) fun e=>?_
    split
    ·exact tL a b _ _
    ·exact tM a b _ _
    ·exact au _
   |slice c q o=>
    cases c with
    |none=>exact aT _ rfl
    |some n=>
     refine af (aC a _) fun e=>?_
     split
     ·exact af (m6 a b _) fun _=>trivial
     ·exact aT _ rfl
   |_=>exact aT _ rfl
theorem Dw(a:Twin P P')(b:Plain O)(e:RO)(s m n c:Nat)(o:Option Sl)(x:RB):St P P' O (Rl.wF e s m n c o x):=by
 unfold Rl.wF;exact af (cC _) fun _=>af (bD a _) fun _=>af (xS _) fun _=>af (jT _ _ _) fun _=>af (jT _ _ _) fun _=>af (eO a _) fun _=>af (iT b _ _) fun _=>trivial
theorem Dv(a:Twin P P')(b:Plain O)(e:RO)(s m n c:Nat)(o:Option Sl)(x:RB):St P P' O (Rl.wE e s m n c o x):=by
 unfold Rl.wE;refine af (bD a _) fun f=>?_
 split
 ·refine af (af (DC a b _ _ _ _ _) fun d=>?_) fun _=>Dw a b _ _ _ _ _ _ _
  split
  ·exact af Ac fun _=>aT _ rfl
  ·exact aT _ rfl
 ·exact Dw a b _ _ _ _ _ _ _
theorem Fj(a:Twin P P')(b:Plain O)(e:RO)(s m n c:Nat)(o:Option Sl)(x:RB):St P P' O (Rl.me e s m n c o x):=by
 unfold Rl.me
 split
 ·refine af (jT _ _ _) fun d=>?_
  split
  ·exact af (iB _ _ _) fun _=>trivial
  ·exact trivial
 ·refine af (bD a _) fun f=>?_
  split
  ·exact af (bE a b _) fun _=>Dv a b _ _ _ _ _ _ _
  ·exact Dv a b _ _ _ _ _ _ _
def JP (P:RM)(a:Array RO):Bool:=match a[1]? with
 |some b=>match P.underlying b with|some (.int _)=>RE|_=>RF
 |none=>RF
theorem I9(a:Twin P P')(j:Plain O)(b:Array RO)(t:RO)(as:Array RB)(h:JP P b=RF):St P P' O (Vc b t as):=by
 unfold Vc
 split
 ·refine af (aC a _) fun r=>?_
  split
  ·split
   ·rename_i e _ i _ n m f _;refine af (bH a _) fun o=>?_;have d:St P P' O (Vy e >>= fun c=>Rl.me i o m c f n e):=af (Dy _) fun c=>Fj a j _ _ _ _ _ _ _;unfold JP at h;cases l:b[1]? with
    |none=>
     simp only[pure_bind,Sa,if_false,Bool.not_false,if_true];exact d
    |some p=>
     rw[l] at h;refine gU (vA a p) fun g k=>?_;dsimp only at h;rw[k] at h;cases g with
     |int q=>simp at h
     |_=>
      simp only[pure_bind,Sa,if_false,Bool.not_false,if_true];exact d
   ·exact au _
  ·exact au _
 ·exact au _
end
def Ca (P:RM)(b:Builtin)(a:Array RO):Bool:=match b with
 | .len| .copy| .min| .unsafeString=>RF
 | .append=>JP P a
 |_=>RE
def lC (P:RM)(b:Bool):Op→Bool
 | .move _| .assign _| .pick _ _ _| .alloc _| .box _ _| .build _ _| .buildSlice _ _ _| .load _ _| .store _ _ _| .nilCheck _| .binOp _ _ _ _ _| .unOp _ _ _| .makeInterface _ _| .makeFunc _ _ _| .makeMap _ _| .makeSlice _ _ _| .slice _ _ _ _ _| .fieldAddr _ _ _| .field _ _ _| .indexAddr _ _ _| .index _ _ _| .lookup _ _ _ _| .mapUpdate _ _ _ _| .extract _ _| .panic _=>RF
 | .convert s d _=>Es P s d
 | .call a=>match a.callee with
  | .builtin .recover=> !b
  | .builtin c=>Ca P c a.argTypes
  |_=>RF
 | .defer a=> !b && (match a.callee with| .builtin _=>RE|_=>RF)
 |_=>RE
def aW (P:RM)(b:Bool):UR→Bool
 | .region _ e _=>e.toList.all fun d=>lC P b d.op
 | .seq a c=>aW P b a && aW P b c
 | .cond _ a c=>aW P b a && aW P b c
 | .block _ a| .loop a=>aW P b a
 | .rangeFunc _ _ a c=>aW P RF a && aW P RF c
 | .skip| .exit _| .ret| .refuse _=>RF
 | .goto _| .label _| .scope _=>RE
def kK:Target→Bool
 | .nil| .fn _ _| .collected _=>RF
 |_=>RE
def aV (P:RM):UQ→Prop
 | .loop a=>aW P RF a.assign=RF∧aW P RF a.body=RF∧∀ b,a.pending=Ry b→aW P RF b=RF
 | .deferred (Ry d)=>∀ c∈d,kK c.target=RF
 | .pending _ _=>False
 | .coro _=>False
 |_=>True
theorem dS(P:RM):Plain (aV P):=⟨fun _ _ _=>trivial,fun _ _ a=>a,fun a=>a,⟨{state:=.ready,pending:=RA,fn:=0,tmps:= #[],params:= #[],assign:=.skip,body:=.skip,defers:=0},rfl,rfl,fun b a=>by cases a⟩⟩
def oh (P:RM)(d:Bool):Next→Prop
 | .value _| .skip| .enter _ _=>True
 | .recover=>d=RE
 | .defer c=>kK c.target=RF
 | .round _ _ _ a b=>aW P RF a=RF∧aW P RF b=RF
 |_=>False
structure Ext(P P':RM):Prop where
 named:∀ (f:Nat) (fn:Uj),P.funcs[f]? =Ry fn→(fn.name == "runtime.NumGoroutine")=RE
 next:∀ (f:Nat) (fn:Uj),P.funcs[f]? =Ry fn→fn.body.isNone=RF→Extern.findNext fn=RA
 find:∀ (f:Nat) (fn:Uj) (e:Array RB→T1 RB),P.funcs[f]? =Ry fn→fn.body.isNone=RF→VP fn=Ry e→∀ args,St P P' (aV P) (e args)
section
variable {P P':RM}{O:UQ→Prop}{α β:Type}
theorem o6(a:Twin P P')(t:RO)(x:Place):St P P' O (x.get t):=by
 cases x with
 |val v=>exact trivial
 |var b=>exact nQ a _ _
theorem tH(a:Twin P P')(b:Plain O):∀ (l:List FieldStep) (t:RO) (x:Place),St P P' O (follow l t x)
 | [],t,x=>trivial
 |s :: d,t,x=>by
  have c:=tH a b d;unfold follow
  ((try dsimp only);repeat' first|exact aC a _|exact au _|exact mZ a b _|exact gh a _ _ _|exact c _ _|exact o6 a _ _|exact qD a b _ _|assumption|(refine af ?_ (fun _=>?_))|(refine bI ?_ ?_)|intro _|split|(dsimp only)|exact trivial)
theorem FB(c:Twin P P')(d:Plain O)(g:Array RO)(t:RO)(x:RB)(a b:ByteArray):St P P' O (Builtin.ssaWrapNilChk_ g t #[x,.string a,.string b]):=by
 have e:∀ s:String,St P P' O (stuck s:T1 RB):=fun s=>au s;unfold Builtin.ssaWrapNilChk_;cases x with
 |pointer f=>
  cases f with
  |some a=>exact trivial
  |none=>
   refine af (cC _) fun h=>?_
   ((try dsimp only);repeat' first|exact bD c _|exact aC c _|exact au _|exact bE c d _|exact cC _|(refine aT _ ?_;rfl)|assumption|(refine af ?_ (fun _=>?_))|(refine bI ?_ ?_)|intro _|split|(dsimp only)|exact trivial)
 |_=>exact e _
theorem qG(a:Twin P P')(b:Plain O)(t:RO)(x:Place)(p:Bool)(w:Option String):St P P' O (receiverAt t x p w):=by
 unfold receiverAt
 ((try dsimp only);repeat' first|exact aC a _|exact au _|exact mZ a b _|exact nQ a _ _|exact o6 a _ _|exact FB a b _ _ _ _ _|assumption|(refine af ?_ (fun _=>?_))|intro _|split|(dsimp only)|exact trivial)
theorem xY(c:Twin P P')(a:Plain O)(t:RO)(v:RB)(p:Array FieldStep)(b:Bool):St P P' O (receiverVia t v p b):=by
 unfold receiverVia
 ((try dsimp only);repeat' first|exact tH c a _ _ _|exact qG c a _ _ _ _|assumption|(refine af ?_ (fun _=>?_))|intro _|split|(dsimp only)|exact trivial)
theorem Aa(a:Twin P P')(b:Plain O):∀ (n:Nat) (t:RO) (v:RB) (s:String),St P P' O (Go.method n t v s)
 |0,t,v,s=>aT _ rfl
 |n+1,t,v,s=>by
  have c:=Aa a b n;unfold Go.method
  ((try dsimp only);repeat' first|exact bD a _|exact au _|exact bE a b _|(refine aT _ ?_;rfl)|exact c _ _ _|exact tH a b _ _ _|exact qG a b _ _ _ _|exact o6 a _ _|assumption|(refine af ?_ (fun _=>?_))|intro _|split|(dsimp only)|exact trivial)
theorem o4(a:Twin P P')(b:Plain O):∀ (l:List FieldStep) (t:RO) (x:Option RB),St P P' O (followBlind l t x)
 | [],t,x=>trivial
 |s :: d,t,x=>by
  have c:=o4 a b d;unfold followBlind
  ((try dsimp only);repeat' first|exact aC a _|exact au _|exact gh a _ _ _|exact c _ _|assumption|(refine af ?_ (fun _=>?_))|intro _|split|(dsimp only)|exact trivial)
theorem uB(a:Twin P P')(b:Plain O):∀ (n:Nat) (t:RO) (v:RB) (s:String),St P P' O (nilAhead n t v s)
 |0,t,v,s=>trivial
 |n+1,t,v,s=>by
  have c:=uB a b n;unfold nilAhead
  ((try dsimp only);repeat' first|exact bD a _|exact aC a _|exact au _|exact c _ _ _|exact o4 a b _ _ _|assumption|(refine af ?_ (fun _=>?_))|intro _|split|(dsimp only)|exact trivial)
theorem oY(l:Twin P P')(c:Ext P P')(n:Bool)(f:TH)(args:Array RB):Still P P' (aV P) (oh P n) (callFunc f args):=by
 unfold callFunc;refine bX ?_ ?_
 ·rcases l.OP f with b|⟨a,o,g,h,i,j,k⟩
  ·rw[b]
  ·rw[g,h];simp only[i,j,k,Sa,if_false]
 ·cases d:P.funcs[f]? with
  |none=>exact au _
  |some a=>
   dsimp only;rw[if_neg (by rw[c.named f a d];simp)]
   split
   ·rename_i e;refine af ⟨.inr ⟨_,rfl⟩,trivial⟩ fun _=>?_;rw[c.next f a d e];dsimp only;cases m:VP a with
    |some b=>exact af (c.find f a b d e m args) fun _=>trivial
    |none=>exact bI trivial (aT _ rfl)
   ·exact trivial
theorem qC(a:Twin P P')(d:Ext P P')(c:Bool)(v:RB)(s:String)(args:Array RB):Still P P' (aV P) (oh P c) (callMethod v s args):=by
 have b:=dS P;unfold callMethod
 split
 ·refine bX (by rw[a.Rk]) ?_;exact af (Aa a b _ _ _ _) fun _=>oY a d c _ _
 ·exact bE a b _
 ·exact au _
theorem lT(l:Nat):Still P P' (aV P) (fun r=>aV P (.loop r)) (Instr.getLoop l):=by
 unfold Instr.getLoop;refine iL l (fun b a=>?_) (oH rfl)
 split
 ·exact a
 ·exact au _
theorem LW(b:Bool)(l:Nat)(args:Array RB):Still P P' (aV P) (oh P b) (Instr.yield l args):=by
 unfold Instr.yield;refine gU (lT l) fun c a=>?_;dsimp only
 split
 ·exact af (au _) fun _=>⟨a.1,a.2.1⟩
 ·exact⟨a.1,a.2.1⟩
theorem Fo(c:Twin P P')(b:Builtin)(d:Array RO)(t:RO)(cs:Array Bool)(args:Array RB)(h:Ca P b d=RF)(e:Bool):Still P P' (aV P) (oh P e) (builtin b d t cs args):=by
 have a:=dS P;unfold builtin;cases b<;>first|(simp[Ca] at h;done)|skip
 ·exact af (I9 c a _ _ _ h) fun _=>trivial
 ·exact af (NI c a _ _ _) fun _=>trivial
 ·exact af (Ps c a _ _ _) fun _=>trivial
 ·exact af (Pt _ _ _) fun _=>trivial
 ·exact af (vh c a _ _ _) fun _=>trivial
def wJ (P:RM)(b:Bool):Target→Bool
 | .builtin .recover _ _ _=> !b
 | .builtin a c _ _=>Ca P a c
 | .coroexit _=>RE
 |_=>RF
theorem tJ(a:Twin P P')(c:Ext P P')(b:Bool)(t:Target)(args:Array RB)(h:wJ P b t=RF):Still P P' (aV P) (oh P b) (invoke t args):=by
 have e:=dS P;unfold invoke
 split
 ·exact bE a e _
 ·rename_i d i t g;by_cases f:d= .recover
  ·subst f;simp only[wJ,Bool.not_eq_true'] at h;exact h
  ·exact Fo a d i t g args (by cases d<;>first|exact absurd rfl f|exact h) b
 ·exact oY a c b _ _
 ·split
  ·exact qC a c b _ _ _
  ·exact au _
 ·split
  ·refine af (aC a _) fun j=>?_;exact qC a c b _ _ _
  ·exact au _
 ·split
  ·exact af (xY a e _ _ _ _) fun _=>oY a c b _ _
  ·exact au _
 ·exact LW b _ _
 ·exact au _
 ·simp[wJ] at h
theorem xZ(P P':RM)(a:Bool)(ρ:SG→RB)(c:Call)(t:RO)(h:(match c.callee with| .builtin .recover=> !a| .builtin b=>Ca P b c.argTypes|_=>RF)=RF):Still P P' (aV P) (fun d=>wJ P a d.target=RF) (Vj ρ c t):=by
 unfold Vj;dsimp only
 split
 ·rename_i b e;rw[e] at h;show wJ P a (.builtin b c.argTypes t _)=RF;unfold wJ;cases b<;>first|exact h|rfl
 ·exact rfl
 ·unfold U5
  split
  ·exact rfl
  ·exact rfl
  ·exact au _
theorem DE(P P':RM)(ρ:SG→RB)(c:Call)(t:RO)(h:(match c.callee with| .builtin _=>RE|_=>RF)=RF):Still P P' (aV P) (fun d=>kK d.target=RF) (Vj ρ c t):=by
 unfold Vj;dsimp only
 split
 ·rename_i b a;rw[a] at h;cases h
 ·exact rfl
 ·unfold U5
  split
  ·exact rfl
  ·exact rfl
  ·exact au _
theorem NJ(a:Twin P P')(l:Ext P P')(d:Bool)(ρ:SG→RB)(o:Te)(h:lC P d o.op=RF):Still P P' (aV P) (oh P d) (Sd ρ o):=by
 have b:=dS P;have m:∀ g i,aV P (.number g i):=fun _ _=>trivial;have f:∀ k c,aV P (.map k c):=fun _ _=>trivial;unfold Sd;cases n:o.op<;>rw[n] at h<;>first|(simp[lC] at h;done)|skip
 all_goals dsimp only
 case move=>exact trivial
 case assign=>exact trivial
 case pick=>exact af (tE _) fun _=>trivial
 case alloc=>exact af (LJ a b _ _ _) fun _=>trivial
 case box=>exact af (Pr a b _ _) fun _=>trivial
 case build=>exact af (LL a b _ _) fun _=>trivial
 case buildSlice=>exact af (y8 a b _ _ _) fun _=>trivial
 case load=>exact af (Jc a b _ _) fun _=>trivial
 case store=>exact af (Fz a b _ _ _) fun _=>trivial
 case nilCheck=>
  split
  all_goals first
   |exact bE a b _
   |exact trivial
   |skip
  split
  ·exact bE a b _
  ·refine bX (by rw[a.Rk]) ?_;refine af (uB a b _ _ _ _) fun p=>?_
   split
   ·exact af (aT _ rfl) fun _=>trivial
   ·exact trivial
  ·exact trivial
 case binOp=>exact af (af (Fs a b _ _ _ _ _ _) fun _=>LK a b m _ _ _ _) fun _=>trivial
 case unOp=>exact af (LV _ _) fun _=>trivial
 case convert=>exact af (Fp a b _ _ _ h) fun _=>trivial
 case makeInterface=>exact af (tK a b _ _) fun _=>trivial
 case makeFunc=>exact trivial
 case makeMap=>exact af (Fx a b f _ _) fun _=>trivial
 case makeSlice=>exact af (Bu a b _ _ _) fun _=>trivial
 case slice=>exact af (Fy a b _ _ _ _ _) fun _=>trivial
 case fieldAddr=>exact af (Fu a b _ _ _) fun _=>trivial
 case field=>exact af (LO a b _ _ _) fun _=>trivial
 case indexAddr=>exact af (Fv a b _ _ _) fun _=>trivial
 case index=>exact af (LP a b _ _ _) fun _=>trivial
 case lookup=>exact af (Jd a b _ _ _ _) fun _=>trivial
 case mapUpdate=>exact af (Bv a b f _ _ _ _) fun _=>trivial
 case extract=>exact af (Ft _ _) fun _=>trivial
 case panic=>exact af (LQ a b _) fun _=>trivial
 case call c=>exact gU (xZ P P' d ρ c o.type h) fun j e=>tJ a l d _ _ e
 case defer c=>
  simp only[lC,R7] at h;exact gU (DE P P' ρ c o.type h.2) fun j e=>e
end
structure nX(P P':RM):Prop where
 T:Twin P P'
 E:Ext P P'
 quiet:∀ f:Nat,(P'.funcs[f]?).any (·.norace)=(P.funcs[f]?).any (·.norace)
 mixed:P'.follows .mixedOrders=P.follows .mixedOrders
 bad:∀ f:Nat,P'.funcs[f]? =P.funcs[f]? ∨∃ fn s,P.funcs[f]? =Ry fn∧fn.body=Ry (.refuse s)
 Ef:∀ (f:Nat) (fn:Uj) (c:UR),P.funcs[f]? =Ry fn→fn.body=Ry c→aW P RE c=RF
 view:Views P P'
def bK (P:RM)(a:Bool):Uk→Prop
 | .code b| .inLoop b=>aW P a b=RF
 | .inBlock _| .inRangeFunc _| .endRangeFunc _=>True
 | .beginRound=>a=RF
 | .inRegion d _=>(d.toList.all fun c=>lC P a c.op)=RF
 |_=>False
structure l6(P:RM)(fr:RU):Prop where
 todo:∀ i∈fr.todo,bK P fr.roundOf.isSome i
 defers:∀ d∈fr.defers,kK d.target=RF
 kind:fr.kind= .normal∨fr.kind= .deferred
def cD:RU→List RU→Prop
 |fr,[]=>fr.kind= .normal
 |_,f :: a=>cD f a
structure ei(P:RM)(fr:RU)(az:List RU):Prop where
 top:l6 P fr
 rest:∀ f∈az,l6 P f
 bot:cD fr az
def GN (fr:RU):Prop:=fr.mode= .run∧∃ s,fr.todo=[.code (.refuse s)]
def BO (n:Nat)(e:SV):Prop:=match e.loc with
 | .obj b=>b<n
 | .cell a=>a.block<n
 | .mark m=>Conc.Neutral m
 |_=>True
theorem BO.mono{n m:Nat}(h:n≤m){e:SV}(a:BO n e):BO m e:=by
 unfold BO at*
 split<;>simp_all<;>omega
theorem Bn(h:TH→Bool):∀ (l:List SV) (q:Bool) (kept:Array SV),(∀ e∈kept,∀ f,e.loc≠.mark (.extern f))→∀ e∈(l.foldl (Conc.seenStep h) (q,kept)).2,∀ f,e.loc≠.mark (.extern f):=by
 intro l
 induction l with
 |nil=>exact fun _ _ a=>a
 |cons i l c=>
  intro q kept a;simp only[List.foldl_cons,Conc.seenStep]
  split
  ·exact c _ _ a
  ·rename_i g;refine c _ _ ?_
   split
   ·exact a
   ·intro e b;rcases Array.mem_push.1 b with b|rfl
    ·exact a e b
    ·exact fun f d=>g f d
theorem Di{P:RM}{fn:TH}{es:Array SV}{n:Nat}(h:∀ e∈es,yA n e):∀ e∈seen P fn es,BO n e:=by
 intro e c;have a:=h e (Conc.mem_seen c);have d:∀ f,e.loc≠.mark (.extern f):=by
  rw[Conc.seen_def] at c;exact Bn _ _ _ _ (fun e h=>by simp at h) e c
 unfold yA at a;unfold BO;cases b:e.loc with
 |mark m=>
  rw[b] at a;rcases a with a|⟨f,rfl⟩
  ·exact a
  ·exact absurd b (d f)
 |cell g=>rw[b] at a;exact a
 |obj i=>rw[b] at a;exact a
 |_=>trivial
structure BT(P P':RM)(w:RD)(F:RM→Bool→List RU→RD→VE)(fr':RU)(tops':List RU)(w':RD)(es:Array SV):Prop where
 eq:∀ m cs,F P m cs w= .go (RN fr' (tops' ++ cs)) w' es
 ok:ei P fr' tops'
 hp:Hp (aV P) w'
 tape:w'.tape=w.tape
 drawn:w.drawn≤w'.drawn
 size:w.heap.size≤w'.heap.size
 os:w'.os=w.os
 output:w'.output=w.output
 evs:∀ e∈es,BO w'.heap.size e
 twin:(P≠P'∧GN fr')∨∀ τ d u,Un w u→Al w.tape w.drawn τ d (w'.drawn - w.drawn)→∃ u',qL w u w' u'∧∀ m cs,F P' m cs (sh τ d u)= .go (RN fr' (tops' ++ cs)) (sh τ (d+(w'.drawn - w.drawn)) u') es
def Aw (P P':RM)(w:RD)(c:RM→Bool→List RU→RD→VE):Prop:=
 (∀ m d,∃ f b a,c P m d w= .ended f b a)∨∃ e g b a,BT P P' w c e g b a
section
variable {P P':RM}{w:RD}
theorem gI(b:Hp (aV P) w)(fr':RU)(tops':List RU)(ok:ei P fr' tops'):Aw P P' w (fun R m cs w=>.go (RN fr' (tops' ++ cs)) w):=
 .inr ⟨fr',tops',w,#[],fun _ _=>rfl,ok,b,rfl,RG _,RG _,rfl,rfl,fun f a=>by simp at a,.inr fun g e d c _=>⟨d,c.two,fun m cs=>by simp⟩⟩
theorem zW(v:Hp (aV P) w)(h:nX P P')(f:TH)(args:Array RB)(kind:CallKind)(u:kind= .normal∨kind= .deferred)(tops':List RU)(x:∀ f∈tops',l6 P f)(p:cD (Sz P f args kind) tops'):
 Aw P P' w (fun R m cs w=>.go (RN (Sz R f args kind) (tops' ++ cs)) w):=by
 have t:l6 P (Sz P f args kind):=by
  refine⟨fun z i=>?_,fun e q=>by simp[Sz] at q,u⟩;simp only[Sz,List.mem_singleton] at i;subst i;show aW P RE _=RF;cases r:P.funcs[f]? with
  |none=>rfl
  |some a=>
   cases b:a.body with
   |none=>simp[b,aW]
   |some k=>simpa [b] using h.Ef f a k r b
 refine .inr ⟨Sz P f args kind,tops',w,#[],fun _ _=>rfl,⟨t,x,p⟩,v,rfl,RG _,RG _,rfl,rfl,fun g l=>by simp at l,?_⟩;rcases h.bad f with g|⟨a,s,n,o⟩
 ·refine .inr fun y e d c _=>⟨d,c.two,fun m cs=>?_⟩;have:Sz P' f args kind=Sz P f args kind:=by unfold Sz;rw[g]
  simp[this]
 ·by_cases j:P=P'
  ·subst j;exact .inr fun y e d c _=>⟨d,c.two,fun m cs=>by simp⟩
  ·refine .inl ⟨j,rfl,s,?_⟩;simp[Sz,n,o]
theorem I3(a:nX P P')(f:TH)(es:Array SV):seen P' f es=seen P f es:=by
 unfold seen;simp only[a.quiet]
theorem nJ{α:Type}(t:nX P P')(E:Hp (aV P) w)(f:TH){s:T1 α}{Q:α→Prop}(F:Still P P' (aV P) Q s){q:RM→Bool→List RU→RD→VE}(j:RM→Bool→List RU→Vb α→VE)
 (hF:∀ R,R=P∨R=P'→∀ m cs w,(∀ h w',(s.runT R w #[]).1= .halt h w'→od h=RF)→(∀ a w',(s.runT R w #[]).1= .ok a w'→Q a)→q R m cs w=Uh (seen R f (s.runT R w #[]).2) (j R m cs (s.runT R w #[]).1))
 (D:∀ a w',Q a→Hp (aV P) w'→Aw P P' w' (fun R m cs w=>j R m cs (.ok a w)))
 (C:∀ h w',od h=RF→Hp (aV P) w'→Aw P P' w' (fun R m cs w=>j R m cs (.halt h w)))
 (H:∀ y w' m cs,∃ o p es,j P m cs (.halt (.stuck y) w')= .ended o p es):Aw P P' w q:=by
 have b:=Lv (dS P) t.view s w #[] F E;rcases b.shift with⟨y,w',K⟩|G
 ·refine .inl fun m cs=>?_;obtain⟨o,p,es,h⟩:=H y w' m cs;refine⟨o,p,seen P f (s.runT P w #[]).2 ++ es,?_⟩;rw[hF P (.inl rfl) _ _ _ b.halt b.ok,K,h];rfl
 have d:Aw P P' (rW (s.runT P w #[]).1) (fun R m cs n=>j R m cs (My n (s.runT P w #[]).1)):=by
  cases h:(s.runT P w #[]).1 with
  |ok a e=>exact D a e (b.ok a e h) (by have:=b.hp;rw[h] at this;exact this)
  |halt i e=>exact C i e (b.halt i e h) (by have:=b.hp;rw[h] at this;exact this)
 have v:My (rW (s.runT P w #[]).1) (s.runT P w #[]).1=(s.runT P w #[]).1:=by cases(s.runT P w #[]).1<;>rfl
 rcases d with d|⟨A,N,w',es,d⟩
 ·refine .inl fun m cs=>?_;obtain⟨o,w',es,h⟩:=d m cs;dsimp only at h;rw[v] at h;refine⟨o,w',seen P f (s.runT P w #[]).2 ++ es,?_⟩;rw[hF P (.inl rfl) _ _ _ b.halt b.ok,h];rfl
 ·refine .inr ⟨A,N,w',seen P f (s.runT P w #[]).2 ++ es,fun m cs=>?_,d.ok,d.hp,d.tape.trans b.tape,R4 b.drawn d.drawn,R4 b.size d.size,d.os.trans b.os,d.output.trans b.output,fun c B=>?_,?_⟩
  ·have:=d.eq m cs
   try dsimp only at this
   rw[v] at this;rw[hF P (.inl rfl) _ _ _ b.halt b.ok,this];rfl
  ·rcases Array.mem_append.1 B with h|h
   ·refine BO.mono d.size (Di (fun i g=>?_) c h);rcases b.evs i g with h|h
    ·simp at h
    ·exact h
   ·exact d.evs c h
  ·rcases d.twin with h|h
   ·exact .inl h
   ·refine .inr fun z r n J u=>?_;have O:=b.drawn;have S:=d.drawn;obtain⟨u1,x,l⟩:=G z r n J (u.sub (by omega));obtain⟨u2,I,k⟩:=h z (r+((rW (s.runT P w #[]).1).drawn - w.drawn)) u1 x.un (by
     intro L M T;have:=u ((rW (s.runT P w #[]).1).drawn - w.drawn+L) M (by omega);rw[SL,b.tape,this];congr 1;omega)
    refine⟨u2,x.trans I,fun m cs=>?_⟩;replace k:=k m cs;rw[hF P' (.inr rfl) _ _ _ (fun h w' c=>by
     rw[l] at c;cases g:(s.runT P w #[]).1 with
     |ok a e=>rw[g] at c;simp[My] at c
     |halt i e=>
      rw[g] at c;simp only[My,Wr] at c;rw[← c.1];exact b.halt i e g) (fun a w' c=>by
     rw[l] at c;cases g:(s.runT P w #[]).1 with
     |halt a e=>rw[g] at c;simp[My] at c
     |ok i e=>
      rw[g] at c;simp only[My,Result.ok.injEq] at c;rw[← c.1];exact b.ok i e g),l]
    dsimp only at k ⊢;rw[k,I3 t];show GStep.go _ _ _=GStep.go _ _ _;congr 2;omega
end
def dj (fr:RU)(az:List RU)(R:RM)(m:Bool)(cs:List RU)(w:RD):VE:=Sq R m (RN fr (az ++ cs)) w
section
variable {P P':RM}{w:RD}
theorem fN{b F':RM→Bool→List RU→RD→VE}(h:∀ R,R=P∨R=P'→∀ m cs w,b R m cs w=F' R m cs w)(a:Aw P P' w F'):Aw P P' w b:=by
 rcases a with a|⟨f,l,p,e,a⟩
 ·exact .inl fun m cs=>by rw[h P (.inl rfl)];exact a m cs
 ·exact .inr ⟨f,l,p,e,fun m cs=>by rw[h P (.inl rfl)];exact a.eq m cs,a.ok,a.hp,a.tape,a.drawn,a.size,a.os,a.output,a.evs,a.twin.imp id fun g q c n k i=>by
  obtain⟨o,j,d⟩:=g q c n k i;exact⟨o,j,fun m cs=>by rw[h P' (.inr rfl)];exact d m cs⟩⟩
theorem sV{fr:RU}(h:l6 P fr){k:List Uk}(a:∀ i∈k,bK P fr.roundOf.isSome i):l6 P {fr with todo:=k}:=⟨a,h.defers,h.kind⟩
theorem vU{fr b:RU}(h:b.kind=fr.kind):∀ {l:List RU},cD fr l→cD b l
 | [],a=>h.trans a
 |_ :: _,a=>a
theorem gV{fr a:RU}{az:List RU}(h:ei P fr az)(b:l6 P a)(c:a.kind=fr.kind):ei P a az:=⟨b,h.rest,vU c h.bot⟩
theorem G3{c:UR}(h:aW P RF c=RF):aW P RE c=RF:=by
 have k:∀ a,lC P RF a=RF→lC P RE a=RF:=by
  intro a b;cases a<;>first|exact b|skip
  ·rename_i c;obtain⟨j,_,_⟩:=c;cases j with
   |builtin e=>cases e<;>first|rfl|exact b
   |_=>rfl
  ·simp[lC] at b
 induction c with
 |region _ l _=>
  simp only[aW,Sf] at h ⊢;exact fun a b=>k _ (h a b)
 |seq d e g i=>simp only[aW,R7] at h ⊢;exact⟨g h.1,i h.2⟩
 |cond _ d e g i=>simp only[aW,R7] at h ⊢;exact⟨g h.1,i h.2⟩
 |block _ d f=>exact f h
 |loop d f=>exact f h
 |rangeFunc _ _ d e _ _=>exact h
 |_=>first|rfl|(simp[aW] at h)
theorem MH{a:Bool}{c:UR}(h:aW P RF c=RF):aW P a c=RF:=by
 cases a
 ·exact G3 h
 ·exact h
theorem qQ{c:Bool}{id:Nat}:∀ {l k:List Uk},(∀ i∈l,bK P c i)→Vu id l=Ry k→∀ i∈k,bK P c i
 | [],k,_,a=>by simp[Vu] at a
 |i :: l,k,d,a=>by
  have b:∀ i∈l,bK P c i:=fun f e=>d f (by simp[e]);cases i<;>simp only[Vu] at a
  case inBlock g=>
   split at a
   ·cases a;exact b
   ·exact qQ b a
  all_goals exact qQ b a
theorem eJ{fr:RU}(h:l6 P fr)(v:RB):l6 P (fr.finish v)∧(fr.finish v).kind=fr.kind:=by
 unfold TD;have a:=h.todo
 split
 ·rename_i g f i e b;rw[b] at a;exact⟨⟨fun d c=>by
   rcases Tq.1 c with rfl|c
   ·exact a (.inRegion g (f :: i)) (by simp)
   ·exact a d (by simp[c]),h.defers,h.kind⟩,rfl⟩
 ·rename_i j e b;rw[b] at a;exact⟨⟨fun d c=>by
   rcases Tq.1 c with rfl|c
   ·exact trivial
   ·exact a d (by simp[c]),h.defers,h.kind⟩,rfl⟩
 ·rename_i e b;rw[b] at a;exact⟨⟨fun d c=>a d (by simp[c]),h.defers,h.kind⟩,rfl⟩
 ·rename_i b;rw[b] at a;exact(a _ (UL ..)).elim
 ·rename_i b;rw[b] at a;exact(a _ (UL ..)).elim
 ·exact⟨h,rfl⟩
theorem j9{fr:RU}(h:l6 P fr)(c:List S1):l6 P (fr.raise c)∧(fr.raise c).kind=fr.kind:=by
 unfold Frame.raise
 split<;>exact⟨⟨h.todo,h.defers,h.kind⟩,rfl⟩
theorem C8(l:Nat)(f:TH)(tmps:Array RB)(a b:UR)(k:CallKind)(h:k= .normal∨k= .deferred)(d:aW P RF a=RF)(e:aW P RF b=RF):l6 P (Up l f tmps a b k):=by
 refine⟨fun j c=>?_,fun i g=>by simp[Up] at g,h⟩;simp only[Up,Tq,U7,or_false] at c;rcases c with rfl|rfl|rfl
 ·exact d
 ·rfl
 ·exact e
theorem E1{fr:RU}{az:List RU}(h:ei P fr az):
 (∀ cs,UJ fr (az ++ cs)=RA)∨∃ v tops',(∀ cs,UJ fr (az ++ cs)=Ry (v,tops' ++ cs))∧(∀ f∈tops',l6 P f)∧cD fr tops':=by
 obtain⟨l,j,e⟩:=h;rcases l.kind with a|a
 ·exact .inl fun cs=>by unfold UJ;rw[a]
 ·cases az with
  |nil=>exact absurd (e.symm.trans a) (by simp)
  |cons d i=>
   by_cases c:∃ v b,d.mode= .panicking ({v,recovered:=RE,goexit:=RE} :: b)
   ·obtain⟨v,b,c⟩:=c;refine .inr ⟨v,{d with mode:=.panicking ({v,recovered:=RF} :: b)} :: i,fun cs=>?_,fun f g=>?_,?_⟩
    ·unfold UJ;simp[a,c]
    ·rcases Tq.1 g with rfl|g
     ·have:=j d (by simp);exact⟨this.todo,this.defers,this.kind⟩
     ·exact j f (by simp[g])
    ·cases i with
     |nil=>exact e
     |cons m i=>exact e
   ·refine .inl fun cs=>?_;unfold UJ;simp only[a,TP]
    split
    ·rename_i v b k;exact absurd ⟨v,b,k⟩ c
    ·rfl
theorem eS(a:VE):Uh #[] a=a:=by cases a<;>simp[Uh]
theorem seen_none(R:RM)(f:TH):seen R f #[]=#[]:=by simp[seen]
theorem tv(z:nX P P')(I:Hp (aV P) w){fr:RU}{az:List RU}(h:ei P fr az){s:T1 Next}(J:Still P P' (aV P) (oh P fr.roundOf.isSome) s)(H:∀ d wr K L k,fr.todo≠.call d wr K L :: k):
 Aw P P' w (fun R m cs w=>Tt R RF fr (az ++ cs) RA s w):=by
 have e:(fr.kind == .early)=RE:=by rcases h.top.kind with n|n<;>rw[n]<;>rfl
 have G:(match fr.todo with| .call _ RF _ _ :: _=>CallKind.wrapped|_=>.normal)= .normal:=by
  split
  ·rename_i n;exact absurd n (H _ _ _ _ _)
  ·rfl
 refine nJ z I fr.fn J (fun R m cs u=>match u with
  | .ok c w=>Tt R RF fr (az ++ cs) RA (.pure c) w
  | .halt a w=>Tt R RF fr (az ++ cs) RA (.halt a) w) (fun R O m cs w o _=>?_) (fun c y i g=>?_) (fun a y b g=>?_) (fun Q y m cs=>⟨_,_,_,by simp only[Tt,SE,seen_none,e,eS,if_true,Sa,if_false];rfl⟩)
 ·unfold Tt;simp only[if_true,e,Sa,if_false];generalize E:s.runT R w #[]=D;obtain⟨u,N⟩:=D;rw[E] at o;cases u with
  |ok c C=>simp[SE,eS,seen_none]
  |halt a C=>
   have:=o a C rfl;cases a<;>first|(simp[od] at this;done)|(simp[SE,eS,seen_none];done)|skip
   rename_i x;cases x<;>first|(simp[od] at this;done)|(simp[SE,eS,seen_none];done)
 ·have r:∀ v:RB,Aw P P' y (fun R m cs w=>.go (RN (fr.finish v) (az ++ cs)) w):=fun v=>gI g _ _ (gV h (eJ h.top v).1 (eJ h.top v).2);have j:∀ (R:RM) (cs:List RU) (w:RD),Tt R RF fr (az ++ cs) RA (.pure c) w=(match c with
   | .value v=>GStep.go (RN (fr.finish v) (az ++ cs)) w
   | .skip=>.go (RN (fr.finish SP) (az ++ cs)) w
   | .enter f args=>.go (RN (Sz R f args .normal) (fr :: (az ++ cs))) w
   | .round p f q a l=>.go (RN (Up p f q a l .normal) (fr :: (az ++ cs))) w
   | .defer d=>.go (RN ({fr with defers:=d :: fr.defers}.finish SP) (az ++ cs)) w
   |_=>Tt R RF fr (az ++ cs) RA (.pure c) w):=by
   intro R cs w;cases c<;>first|rfl|skip
   all_goals simp[Tt,SE,seen_none,e,eS,RN]
   exact congrArg (Sz R _ _) G
  cases c with
  |value v=>exact fN (fun R _ m cs w=>j R cs w) (r v)
  |skip=>exact fN (fun R _ m cs w=>j R cs w) (r SP)
  |enter f args=>exact fN (fun R _ m cs w=>j R cs w) (zW g z f args .normal (.inl rfl) (fr :: az) (fun a b=>by
   rcases Tq.1 b with rfl|b
   ·exact h.top
   ·exact h.rest a b) h.bot)
  |round p f q a l=>exact fN (fun R _ m cs w=>j R cs w) (gI g (Up p f q a l .normal) (fr :: az) ⟨C8 p f q a l .normal (.inl rfl) i.1 i.2,fun a b=>by
   rcases Tq.1 b with rfl|b
   ·exact h.top
   ·exact h.rest a b,h.bot⟩)
  |defer d=>
   have A:l6 P {fr with defers:=d :: fr.defers}:=⟨h.top.todo,fun a b=>by
    rcases Tq.1 b with rfl|b
    ·exact i
    ·exact h.top.defers a b,h.top.kind⟩
   exact fN (fun R _ m cs w=>j R cs w) (gI g _ _ (gV h (eJ A SP).1 (eJ A SP).2))
  |recover=>
   have B:fr.roundOf=RA:=by
    have:fr.roundOf.isSome=RE:=i;simpa using this
   rcases E1 h with t|⟨v,M,t,o,F⟩
   ·exact fN (fun R _ m cs w=>by simp[Tt,SE,seen_none,e,eS,RN,B,t]) (r .nilIface)
   ·exact fN (fun R _ m cs w=>by simp[Tt,SE,seen_none,e,eS,RN,B,t]) (gI g (fr.finish v) M ⟨(eJ h.top v).1,o,vU (eJ h.top v).2 F⟩)
  |_=>exact i.elim
 ·cases a with
  |panic v=>
   refine fN (F':=fun R m cs w=>.go (RN (fr.raise [{v,recovered:=RE}]) (az ++ cs)) w) (fun R _ m cs w=>?_) (gI g _ _ (gV h (j9 h.top _).1 (j9 h.top _).2));simp[Tt,SE,seen_none,e,eS,RN]
  |stuck s=>exact .inl fun m cs=>⟨_,_,_,by simp only[Tt,SE,seen_none,e,eS,if_true,Sa,if_false];rfl⟩
  |unsupported x=>
   refine .inl fun m cs=>?_;cases x<;>first|(simp[od] at b;done)|exact⟨_,_,_,by simp only[Tt,SE,seen_none,e,eS,if_true,Sa,if_false];rfl⟩
  |_=>simp[od] at b
def nW (fr:RU)(az:List RU):Prop:=az=[]→(fr.mode≠.run→fr.defers≠[])∧(fr.mode= .run→fr.roundOf=RA∨(fr.todo≠[]∧(∀ a,fr.todo≠.code .ret :: a)∧∀ id a,fr.todo= .code (.exit id) :: a→Vu id a≠RA))
theorem qW(A:nX P P')(k:Hp (aV P) w){fr c:RU}{az:List RU}(h:ei P fr (c :: az))(v:RB):Aw P P' w (fun R m cs w=>Us R m fr (c :: az ++ cs) RA v w):=by
 have a:l6 P c:=h.rest c (by simp);have l:∀ f∈az,l6 P f:=fun f p=>h.rest f (by simp[p]);have i:cD c az:=h.bot;rcases h.top.kind with b|b
 ·refine fN (F':=fun R m cs w=>.go (RN (c.finish v) (az ++ cs)) w) (fun R _ m cs w=>?_) (gI k _ _ ⟨(eJ a v).1,l,vU (eJ a v).2 i⟩);simp[Us,b,RN]
 ·obtain⟨e,n,q,o⟩:∃ e:RU,l6 P e∧e.kind=c.kind∧∀ (R:RM) (m:Bool) (cs:List RU) (w:RD),Us R m fr (c :: az ++ cs) RA v w= .go (RN e (az ++ cs)) w:=by
   cases d:c.mode with
   |run=>exact⟨c,a,rfl,fun R m cs w=>by simp[Us,b,d,RN]⟩
   |returning=>exact⟨c,a,rfl,fun R m cs w=>by simp[Us,b,d,RN]⟩
   |panicking r=>
    cases r with
    |nil=>exact⟨c,a,rfl,fun R m cs w=>by simp[Us,b,d,RN]⟩
    |cons g s=>
     obtain⟨y,u,z⟩:=g;cases u with
     |false=>exact⟨c,a,rfl,fun R m cs w=>by simp[Us,b,d,RN]⟩
     |true=>
      cases j:s.dropWhile (fun g:S1=> !g.goexit) with
      |nil=>exact⟨{c with mode:=.returning},⟨a.todo,a.defers,a.kind⟩,rfl,fun R m cs w=>by simp[Us,b,d,RN,j]⟩
      |cons x t=>exact⟨{c with mode:=.panicking (x :: t)},⟨a.todo,a.defers,a.kind⟩,rfl,fun R m cs w=>by simp[Us,b,d,RN,j]⟩
  exact fN (fun R _ m cs w=>o R m cs w) (gI k _ _ ⟨n,l,vU q i⟩)
end
section
variable {P P':RM}{w:RD}
theorem Dr(l:Nat)(j:Option UR)(b:∀ c,j=Ry c→aW P RF c=RF):St P P' (aV P) (Vp l j):=by
 unfold Vp;exact gU (lT l) fun d a=>af (k5 _ ⟨a.1,a.2.1,b⟩) fun _=>trivial
theorem yZ(b:Twin P P')(l:Nat):St P P' (aV P) (Instr.beginRound l):=by
 unfold Instr.beginRound;refine gU (lT l) fun c a=>af (k5 _ ⟨a.1,a.2.1,a.2.2⟩) fun _=>?_
 split
 ·exact trivial
 all_goals exact bE b (dS P) _
theorem Fq(b:Twin P P')(l:Nat):Still P P' (aV P) (fun j=>∀ c,j=Ry c→aW P RF c=RF) (Instr.endLoop l):=by
 unfold Instr.endLoop;refine gU (lT l) fun d a=>?_;dsimp only
 split
 ·exact af (bE b (dS P) _) fun _=>af (k5 _ ⟨a.1,a.2.1,a.2.2⟩) fun _=>a.2.2
 ·exact af (k5 _ ⟨a.1,a.2.1,a.2.2⟩) fun _=>a.2.2
theorem Br(f:TH)(tmps:Array RB)(ps:Array Tmp)(a b:UR)(h:Option Nat)(k:aW P RF a=RF)(l:aW P RF b=RF):Still P P' (aV P) (fun p=>∀ d∈p.2,kK d.target=RF) (Instr.enterLoop f tmps ps a b h):=by
 unfold Instr.enterLoop;have i:∀ (e:Nat),aV P (.loop {state:=.ready,pending:=RA,fn:=f,tmps,params:=ps,assign:=a,body:=b,defers:=e}):=fun e=>⟨k,l,fun r j=>by cases j⟩;cases h with
 |some m=>
  refine af (Q5 (lT m)) fun q=>gU (Q:=fun p:Nat×List TS=>∀ d∈p.2,kK d.target=RF) (fun d c=>by simp at c) fun p g=>?_;obtain⟨e,n⟩:=p;exact af (kZ (i _)) fun o=>g
 |none=>
  refine af (kZ (fun d c=>by simp at c)) fun q=>gU (Q:=fun p:Nat×List TS=>∀ d∈p.2,kK d.target=RF) (fun d c=>by
   simp only[List.mem_singleton] at c;subst c;rfl) fun p g=>?_
  obtain⟨e,n⟩:=p;exact af (kZ (i _)) fun o=>g
theorem vg(b:Nat):Still P P' (aV P) (fun ds=>∀ d∈ds,kK d.target=RF) (Instr.takeDeferred b):=by
 unfold Instr.takeDeferred;refine iL b (fun c a=>?_) (oH rfl)
 split
 ·exact af (k5 _ trivial) fun _=>a
 ·exact au _
theorem tw(f:nX P P')(g:Hp (aV P) w){fr:RU}{az:List RU}(h:ei P fr az)(q:az=[]→fr.roundOf=RA)(j:Option UR)(p:∀ c,j=Ry c→aW P RF c=RF)
 {b:RM→Bool→List RU→RD→VE} (k:fr.roundOf=RA→(∀ m cs,∃ o w' es,b P m cs w= .ended o w' es)∨∀ R,R=P∨R=P'→∀ m cs w,b R m cs w= .go (RN {fr with mode:=.returning} (az ++ cs)) w)
 (n:∀ l,fr.roundOf=Ry l→∀ R m cs w,b R m cs w=Uh (seen R fr.fn ((Vp l j).runT R w #[]).2) (match ((Vp l j).runT R w #[]).1 with
   | .ok v w=>Us R m fr (az ++ cs) RA v w
   | .halt _ w=>.ended (.stuck "range over a function: no such loop" (fr.pos R)) w)):Aw P P' w b:=by
 cases d:fr.roundOf with
 |none=>
  rcases k d with e|e
  ·exact .inl e
  ·exact fN e (gI g _ _ (gV h ⟨h.top.todo,h.top.defers,h.top.kind⟩ rfl))
 |some l=>
  cases az with
  |nil=>rw[q rfl] at d;cases d
  |cons c az=>
   refine nJ f g fr.fn (Dr l j p) (fun R m cs r=>match r with
    | .ok v w=>Us R m fr (c :: az ++ cs) RA v w
    | .halt _ w=>.ended (.stuck "range over a function: no such loop" (fr.pos R)) w) (fun R s m cs w _ _=>n l d R m cs w) (fun a w' _ i=>?_) (fun u w' t i=>?_) (fun x w' m cs=>⟨_,_,_,rfl⟩)
   ·exact qW f i h a
   ·exact .inl fun m cs=>⟨_,_,_,rfl⟩
theorem Lq(k:nX P P')(u:Hp (aV P) w){fr:RU}{az:List RU}(h:ei P fr az)(T:nW fr az)(d:fr.mode= .run):Aw P P' w (dj fr az):=by
 have V:=h.top.todo;have U:az=[]→fr.roundOf=RA∨(fr.todo≠[]∧(∀ e,fr.todo≠.code .ret :: e)∧∀ id e,fr.todo= .code (.exit id) :: e→Vu id e≠RA):=fun j=>(T j).2 d;cases b:fr.todo with
 |nil=>
  refine tw k u h (fun j=>(U j).elim id fun n=>absurd b n.1) RA (fun q j=>by cases j) (fun I=>.inr fun c _ m a w=>?_) (fun i x c m a w=>?_)
  ·simp[dj,RN,Sq,Si,d,b,I]
  ·simp only[dj,RN,Sq,Si,d,b,x];rfl
 |cons W e=>
  rw[b] at V;have D:=V W (by simp);have o:∀ l∈e,bK P fr.roundOf.isSome l:=fun l t=>V l (by simp[t]);have move:∀ (K:List Uk),(∀ l∈K,bK P fr.roundOf.isSome l)→(∀ c m a w,dj fr az c m a w= .go (RN {fr with todo:=K} (az ++ a)) w)→Aw P P' w (dj fr az):=fun K k j=>fN (fun c _ m a w=>j c m a w) (gI u _ _ (gV h (sV h.top k) rfl));have r:∀ {l:Uk} {i:List Uk},bK P fr.roundOf.isSome l→(∀ l∈i,bK P fr.roundOf.isSome l)→∀ n∈l :: i,bK P fr.roundOf.isSome n:=fun t x n y=>by
   rcases Tq.1 y with rfl|y
   ·exact t
   ·exact x n y
  have R:(∀ m a,∃ L E Y,dj fr az P m a w= .ended L E Y)→Aw P P' w (dj fr az):=fun j=>.inl j;cases W with
  |inBlock l=>exact move e o fun c m a w=>by simp[dj,RN,Sq,Si,d,b]
  |inLoop q=>exact move (.code q :: .inLoop q :: e) (r D (r D o)) fun c m a w=>by simp[dj,RN,Sq,Si,d,b]
  |inScope q=>exact D.elim
  |call _ _ _ _=>exact D.elim
  |extern _ _=>exact D.elim
  |inRangeFunc i=>exact R fun m a=>by simp[dj,RN,Sq,Si,d,b]
  |beginRound=>
   have T:Still P P' (aV P) (oh P fr.roundOf.isSome) (do fr.roundOf.elim (stuck "beginRound: no round") Instr.beginRound;pure .skip):=by
    refine af ?_ fun _=>trivial;cases fr.roundOf with
    |none=>exact au _
    |some i=>exact yZ k.T i
   refine fN (fun c _ m a w=>?_) (tv k u h T (by simp[b]));simp only[dj,RN,Sq,Si,d,b]
  |endRangeFunc i=>
   refine nJ k u fr.fn (Fq k.T i) (fun c m a O=>match O with
    | .ok ae w=>.go (RN {fr with todo:=(ae.map Item.code).toList ++ e} (az ++ a)) w
    | .halt (.panic v) w=>.go (RN (fr.raise [{v,recovered:=RE}]) (az ++ a)) w
    | .halt _ w=>.ended (.stuck "range over a function: no such loop" (fr.pos c)) w) (fun c Z m a w _ _=>?_) (fun p E H G=>?_) (fun n E y G=>?_) (fun Q E m a=>⟨_,_,_,rfl⟩)
   ·simp only[dj,RN,Sq,Si,d,b];rfl
   ·refine gI G _ _ (gV h (sV h.top fun l t=>?_) rfl);rcases SM.1 t with t|t
    ·cases p with
     |none=>simp at t
     |some q=>
      simp at t;subst t;exact MH (H q rfl)
    ·exact o l t
   ·cases n with
    |panic v=>exact gI G _ _ (gV h (j9 h.top _).1 (j9 h.top _).2)
    |_=>exact .inl fun m a=>⟨_,_,_,rfl⟩
  |inRegion z ao=>
   cases ao with
   |nil=>exact move e o fun c m a w=>by simp[dj,RN,Sq,Si,d,b]
   |cons l O=>
    by_cases J:((z[l]?).map (Sn · (S2 z fr.tmps))).getD RE=RF
    ·cases M:z[l]? with
     |none=>rw[M] at J;simp at J
     |some L=>
      have S:lC P fr.roundOf.isSome L.op=RF:=by
       have:=Sf.1 D L (by
        have:=RH.1 M;obtain⟨t,rfl⟩:=this;simp)
       exact this
      refine fN (fun c _ m a w=>?_) (tv k u h (NJ k.T k.E fr.roundOf.isSome fr.eval L S) (by simp[b]));rw[M] at J;simp only[dj,RN,Sq,Si,d,b,M,J,if_true,stepG.oper,Frame.oper?]
      split
      ·rename_i i q x g;rw[x,g] at S;simp[lC] at S
      ·rfl
    ·refine fN (F':=fun c m a w=>.go (RN (fr.finish SP) (az ++ a)) w) (fun c _ m a w=>?_) (gI u _ _ (gV h (eJ h.top SP).1 (eJ h.top SP).2));simp only[dj,RN,Sq,Si,d,b,J,if_false];rfl
  |code q=>
   have g:aW P fr.roundOf.isSome q=RF:=D;cases q with
   |skip=>exact move e o fun c m a w=>by simp[dj,RN,Sq,Si,d,b]
   |label i=>simp[aW] at g
   |scope i=>simp[aW] at g
   |goto i=>simp[aW] at g
   |refuse s=>exact R fun m a=>by simp[dj,RN,Sq,Si,d,b]
   |seq p F=>
    simp only[aW,R7] at g;exact move (.code p :: .code F :: e) (r g.1 (r g.2 o)) fun c m a w=>by simp[dj,RN,Sq,Si,d,b]
   |block id p=>exact move (.code p :: .inBlock id :: e) (r g (r trivial o)) fun c m a w=>by simp[dj,RN,Sq,Si,d,b]
   |loop p=>exact move (.code p :: .inLoop p :: e) (r g (r g o)) fun c m a w=>by simp[dj,RN,Sq,Si,d,b]
   |cond n p F=>
    simp only[aW,R7] at g;cases y:fr.eval n with
    |bool Q=>
     refine move (.code (if Q then p else F) :: e) (r ?_ o) fun c m a w=>by simp[dj,RN,Sq,Si,d,b,y]
     cases Q
     ·exact g.2
     ·exact g.1
    |_=>exact R fun m a=>by simp[dj,RN,Sq,Si,d,b,y]
   |ret=>
    refine tw k u h (fun j=>(U j).elim id fun n=>absurd b (n.2.1 e)) (Ry .ret) (fun q j=>by cases j;rfl) (fun I=>.inr fun c _ m a w=>?_) (fun i x c m a w=>?_)
    ·simp[dj,RN,Sq,Si,d,b,I]
    ·simp only[dj,RN,Sq,Si,d,b,x];rfl
   |exit id=>
    cases C:Vu id e with
    |some K=>exact move K (qQ o C) fun c m a w=>by simp[dj,RN,Sq,Si,d,b,C]
    |none=>
     refine tw k u h (fun j=>(U j).elim (fun n=>n) fun n=>absurd C (n.2.2 id e b)) (Ry (.exit id)) (fun q j=>by cases j;rfl) (fun I=>.inl fun m a=>?_) (fun i x c m a w=>?_)
     ·simp[dj,RN,Sq,Si,d,b,C,I]
     ·simp only[dj,RN,Sq,Si,d,b,C,x];rfl
   |region id z X=>
    cases X with
    |false=>exact move (.inRegion z (Sw z.size) :: e) (r g o) fun c m a w=>by simp[dj,RN,Sq,Si,d,b]
    |true=>
     refine .inr ⟨{fr with todo:=.inRegion z (Ve (P.follows .mixedOrders) z (w.tape w.drawn (.order fr.fn id))) :: e},az,{w with drawn:=w.drawn+1},#[],fun m a=>?_,gV h (sV h.top (r g o)) rfl,u,rfl,Nat.le_succ _,RG _,rfl,rfl,fun j C=>by simp at C,.inr fun aw A ar N H=>⟨ar,⟨⟨N.size,N.at_,N.os,N.output⟩,fun F ab=>⟨ab,rfl⟩⟩,fun m a=>?_⟩⟩
     ·simp[dj,RN,Sq,Si,d,b,choose,T0,Question.forced,Question.cut]
     ·have:=H 0 (.order fr.fn id) (by simp);simp only[Nat.add_zero] at this;simp[dj,RN,Sq,Si,d,b,choose,T0,Question.forced,Question.cut,k.mixed,sh,this]
   |rangeFunc f am p F=>
    simp only[aW,R7] at g;refine nJ k u fr.fn (Br fr.fn fr.tmps am p F fr.roundOf g.1 g.2) (fun c m a O=>match O with
     | .ok (i,mark) w=>Tt c RF {fr with todo:=.inRangeFunc i :: e,defers:=mark ++ fr.defers} (az ++ a) RA (do let A ← Vj fr.eval {callee:=.value f,args:= #[.const (.func (.yield i) #[] #[])],argTypes:= #[]} 0;invoke A.target A.args) w
     | .halt _ w=>.ended (.stuck "range over a function: no such loop" (fr.pos c)) w) (fun c Z m a w _ _=>?_) (fun al E H G=>?_) (fun n E y G=>?_) (fun Q E m a=>⟨_,_,_,rfl⟩)
    ·simp only[dj,RN,Sq,Si,d,b];rfl
    ·obtain⟨i,mark⟩:=al;have ad:l6 P {fr with todo:=.inRangeFunc i :: e,defers:=mark ++ fr.defers}:=⟨r trivial o,fun A B=>by
      rcases SM.1 B with B|B
      ·exact H A B
      ·exact h.top.defers A B,h.top.kind⟩
     exact tv k G (gV h ad rfl) (gU (xZ P P' fr.roundOf.isSome _ _ _ rfl) fun A B=>tJ k.T k.E _ _ _ B) (by simp)
    ·exact .inl fun m a=>⟨_,_,_,rfl⟩
theorem KG{a:Bool}{t:Target}(h:kK t=RF):wJ P a t=RF:=by
 cases t<;>first|rfl|(simp[kK] at h)
theorem Bf(j:nX P P')(F:Hp (aV P) w){fr:RU}{az:List RU}(h:ei P fr az)(d:TS)(E:kK d.target=RF)(J:fr.mode≠.run):Aw P P' w (fun R m cs w=>callDeferred R fr (az ++ cs) RA d w):=by
 obtain⟨o,u⟩:=d;by_cases y:o= .nil∧∃ x,fr.mode= .panicking x
 ·obtain⟨rfl,x,D⟩:=y;refine .inl fun m cs=>?_;dsimp only;unfold callDeferred;rw[if_pos ?hP]
  case hP=>simp[D]
  exact⟨_,_,_,rfl⟩
 ·have r:∀ e,Hp (aV P) e→Aw P P' e (fun R m cs w=>.go (RN fr (az ++ cs)) w):=fun e b=>gI b _ _ h;refine nJ j F fr.fn (tJ j.T j.E RF o u (KG E)) (fun R m cs q=>match q with
   | .ok (.enter f args) w=>.go (RN (Sz R f args .deferred) (fr :: az ++ cs)) w
   | .ok (.round n f p g i) w=>.go (RN (Up n f p g i .deferred) (fr :: az ++ cs)) w
   | .ok _ w=>.go (RN fr (az ++ cs)) w
   | .halt (.panic v) w=>.go (RN (fr.raise [{v,recovered:=RE}]) (az ++ cs)) w
   | .halt a w=>.ended (match a with| .unsupported A=>.unsupported A (fr.pos R)| .stuck s=>.stuck s (fr.pos R)|_=>.stuck "" "") w) (fun R H m cs w z l=>?_) (fun g e k b=>?_) (fun a e c b=>?_) (fun K e m cs=>⟨_,_,_,rfl⟩)
  ·unfold callDeferred;rw[if_neg ?hL]
   case hL=>
    intro C;apply y;cases o<;>cases l:fr.mode<;>simp[l] at C ⊢
   generalize I:(invoke o u).runT R w #[]=B at z l;obtain⟨q,G⟩:=B;dsimp only;cases q with
   |ok g t=>
    have:=l g t rfl;cases g<;>first|exact absurd this (fun h=>h)|(cases this;done)|rfl
   |halt a t=>
    have:=z a t rfl;cases a<;>first|(simp[od] at this;done)|rfl
  ·cases g with
   |value v=>exact r e b
   |skip=>exact r e b
   |enter f args=>exact zW b j f args .deferred (.inr rfl) (fr :: az) (fun a c=>by
    rcases Tq.1 c with rfl|c
    ·exact h.top
    ·exact h.rest a c) h.bot
   |round n f p a i=>exact gI b (Up n f p a i .deferred) (fr :: az) ⟨C8 n f p a i .deferred (.inr rfl) k.1 k.2,fun a c=>by
    rcases Tq.1 c with rfl|c
    ·exact h.top
    ·exact h.rest a c,h.bot⟩
   |defer d=>exact r e b
   |recover=>cases k
   |_=>exact k.elim
  ·cases a with
   |panic v=>exact gI b _ _ (gV h (j9 h.top _).1 (j9 h.top _).2)
   |stuck s=>exact .inl fun m cs=>⟨_,_,_,rfl⟩
   |unsupported A=>exact .inl fun m cs=>⟨_,_,_,rfl⟩
   |_=>simp[od] at c
theorem x9(a:Twin P P')(fn:Uj)(tmps:Array RB):St P P' (aV P) (SD fn tmps):=by
 unfold SD;refine af (Gv _ _ fun b=>?_) fun e=>trivial;cases b with
 |tmp c=>exact trivial
 |cell d c=>exact af (mZ a (dS P) _) fun _=>nQ a _ _
theorem E2(i:nX P P')(j:∀ f:Nat,(P'.funcs[f]? =RA↔P.funcs[f]? =RA)∧∀ fn c:Uj,P.funcs[f]? =Ry fn→P'.funcs[f]? =Ry c→c.results=fn.results)(l:Hp (aV P) w){fr:RU}{az:List RU}(h:ei P fr az)(O:nW fr az)(u:fr.mode≠.run):Aw P P' w (dj fr az):=by
 have I:∀ a m b w,dj fr az a m b w=Vv a m fr (az ++ b) RA w:=fun a m b w=>by
  unfold dj;cases o:fr.mode<;>first|exact absurd o u|simp[RN,Sq,o]
 refine fN (fun a _ m b w=>I a m b w) ?_;cases e:fr.defers with
 |cons r A=>
  have N:kK r.target=RF:=h.top.defers r (by simp[e]);have D:l6 P {fr with defers:=A}:=⟨h.top.todo,fun g d=>h.top.defers g (by simp[e,d]),h.top.kind⟩;have R:=Bf i l (gV h D rfl) r N u;obtain⟨S,U⟩:=r;cases S with
  |collected E=>
   refine nJ i l fr.fn (vg E) (fun a m b y=>match y with
    | .ok F w=>.go (RN {fr with defers:=F ++ A} (az ++ b)) w
    | .halt _ w=>.ended (.stuck "the deferred calls of a range-over-func loop have been taken" (fr.pos a)) w) (fun a t m b w _ _=>?_) (fun z p B n=>?_) (fun g p d n=>?_) (fun T p m b=>⟨_,_,_,rfl⟩)
   ·unfold Vv;rw[e];rfl
   ·exact gI n _ _ (gV h ⟨h.top.todo,fun g d=>by
     rcases SM.1 d with d|d
     ·exact B g d
     ·exact D.defers g d,h.top.kind⟩ rfl)
   ·exact .inl fun m b=>⟨_,_,_,rfl⟩
  |_=>
   refine fN (fun a _ m b w=>?_) R;unfold Vv;rw[e]
 |nil=>
  cases az with
  |nil=>exact absurd e ((O rfl).1 u)
  |cons q az=>
   have C:l6 P q:=h.rest q (by simp);have Q:∀ f∈az,l6 P f:=fun f j=>h.rest f (by simp[j]);cases x:fr.mode with
   |run=>exact absurd x u
   |panicking G=>
    have M:∀ a,fr.catches a=RE:=fun a=>by
     unfold Frame.catches
     split
     ·rename_i H;exact Vt (h.top.todo (Item.call _ _ _ _) (by rw[H];exact UL ..))
     ·rfl
    refine fN (F':=fun a m b w=>.go (RN (q.raise G) (az ++ b)) w) (fun a _ m b w=>?_) (gI l _ _ ⟨(j9 C _).1,Q,vU (j9 C _).2 h.bot⟩);unfold Vv;rw[e];simp[x,M,RN]
   |returning=>
    cases k:P.funcs[fr.fn]? with
    |none=>
     have V:=(j fr.fn).1.2 k;refine fN (fun a t m b w=>?_) (qW i l h (fr.tmps.getD 0 SP));have:a.funcs[fr.fn]? =RA:=by rcases t with rfl|rfl<;>assumption
     unfold Vv;rw[e];simp[x,this]
    |some fn=>
     refine nJ i l fr.fn (x9 i.T fn fr.tmps) (fun a m b y=>match y with
      | .ok v w=>Us a m fr (q :: az ++ b) RA v w
      | .halt (.stuck s) w=>.ended (.stuck s (fr.pos a)) w
      | .halt _ w=>.ended (.stuck "return: the result variables cannot be read" (fr.pos a)) w) (fun a t m b w _ _=>?_) (fun z p B n=>?_) (fun g p d n=>?_) (fun T p m b=>⟨_,_,_,rfl⟩)
     ·have:∃ c,a.funcs[fr.fn]? =Ry c∧c.results=fn.results:=by
       rcases t with rfl|rfl
       ·exact⟨fn,k,rfl⟩
       ·cases o:a.funcs[fr.fn]? with
        |none=>rw[(j fr.fn).1.1 o] at k;cases k
        |some c=>exact⟨c,rfl,(j fr.fn).2 fn c k o⟩
      obtain⟨c,J,K⟩:=this;have L:SD c fr.tmps=SD fn fr.tmps:=by unfold SD;rw[K]
      unfold Vv;rw[e];simp only[x,J,L];rfl
     ·exact qW i n h z
     ·cases g<;>exact .inl fun m b=>⟨_,_,_,rfl⟩
theorem xF(b:nX P P')(g:∀ f:Nat,(P'.funcs[f]? =RA↔P.funcs[f]? =RA)∧∀ fn a:Uj,P.funcs[f]? =Ry fn→P'.funcs[f]? =Ry a→a.results=fn.results)(d:Hp (aV P) w){fr:RU}{az:List RU}(h:ei P fr az)(e:nW fr az):Aw P P' w (dj fr az):=by
 by_cases c:fr.mode= .run
 ·exact Lq b d h e c
 ·exact E2 b g d h e c
end
structure Twins(P P':RM):Prop where
 A:nX P P'
 R:∀ f:Nat,(P'.funcs[f]? =RA↔P.funcs[f]? =RA)∧∀ fn fn':Uj,P.funcs[f]? =Ry fn→P'.funcs[f]? =Ry fn'→fn'.results=fn.results
theorem Still.self{P P':RM}{h:UQ→Prop}{α:Type}{Q:α→Prop}:∀ {s:T1 α},Still P P' h Q s→Still P P h Q s:=by
 intro s
 induction s with
 |pure e=>intro a;exact a
 |load m e c b=>intro a v;exact b v (a v)
 |store m e v c b=>intro a;exact b a
 |new f c b=>intro a;exact⟨a.1,fun d=>b d (a.2 d)⟩
 |shape d c b=>intro a s;exact b s (a s)
 |freeze e g c b=>intro a;exact b a
 |frozen e c b=>intro a i;exact b i (a i)
 |getObj d c b=>intro a;exact⟨fun f j=>b f (a.1 f j),a.2⟩
 |setObj d f c b=>intro a;exact⟨a.1,b a.2⟩
 |choose l c b=>intro a g;exact b g (a g)
 |sys k c b=>intro a;exact⟨a.1,fun d=>b d (a.2 d)⟩
 |program c b=>intro a;exact⟨rfl,b P a.2⟩
 |mark m c b=>intro a;exact⟨a.1,b a.2⟩
 |halt a=>intro a;exact a
theorem Views.self{P P':RM}(h:Views P P'):Views P P:=by
 have i:∀ (a:RD) c d b m,a.viewLoad P' c d b m=a.viewLoad P c d b m:=fun a c d b m=>h.load a a c d b m fun _ _ _=>Iff.rfl;have s:∀ (a:RD) c d b v m,a.viewStore P' c d b v m=a.viewStore P c d b v m:=fun a c d b v m=>by
  rcases h.store a a c d b v m fun _ _ _=>Iff.rfl with⟨o,j,k⟩|⟨l,i,f,n,j,k,-⟩<;>rw[j,k]
 refine⟨fun a e c d b m g=>(i e c d b m).symm.trans (h.load a e c d b m g),h.touch,fun a e c d b v m g=>?_⟩;rw[← s e];exact h.store a e c d b v m g
theorem Twins.self{P P':RM}(h:Twins P P'):Twins P P:=
 ⟨⟨⟨fun _=>rfl,fun _=>rfl,rfl,fun _=>rfl,fun _=>rfl,rfl,fun _ _ _ _ _ _=>rfl,fun _ _ _ _ _=>rfl,fun _ _ _=>rfl,fun _ _=>rfl,fun _=>rfl,fun _ _=>rfl,rfl,rfl,rfl,fun _=>.inl rfl⟩,
  ⟨h.A.E.named,h.A.E.next,fun f c d b a e args=>(h.A.E.find f c d b a e args).self⟩,fun _=>rfl,rfl,fun _=>.inl rfl,h.A.Ef,h.A.view.self⟩,fun f=>⟨Iff.rfl,fun c g b a=>by rw[b] at a;cases a;rfl⟩⟩
structure At(P:RM)(w w':RD)(es:Array SV):Prop where
 hp:Hp (aV P) w'
 tape:w'.tape=w.tape
 drawn:w.drawn≤w'.drawn
 size:w.heap.size≤w'.heap.size
 os:w'.os=w.os
 output:w'.output=w.output
 evs:∀ e∈es,BO w'.heap.size e
def Fin (P P':RM)(Stop:RU→List RU→RD→Prop)(fr:RU)(az:List RU)(w u:RD):Prop:=
 ∀ d:RU→List RU→RD→RD→Prop,(∀ fr az w u,Stop fr az w→d fr az w u)→
  (∀ fr az w u (c:Tp→Nat→RU×List RU×RD×RD×Array SV),(∀ b a m e,Sq P' m (RN fr (az ++ e)) (sh b a u)= .go (RN (c b a).1 ((c b a).2.1 ++ e)) (c b a).2.2.2.1 (c b a).2.2.2.2)→
    (∀ b a,At P (sh b a w) (c b a).2.2.1 (c b a).2.2.2.2)→(∀ b a,qL (sh b a w) (sh b a u) (c b a).2.2.1 (c b a).2.2.2.1∧(c b a).2.2.2.1.tape=(c b a).2.2.1.tape)→(∀ b a,ei P (c b a).1 (c b a).2.1)→nW fr az→
    (∀ b a,d (c b a).1 (c b a).2.1 (c b a).2.2.1 (c b a).2.2.2.1)→d fr az w u)→d fr az w u
theorem Fin.stop{P P':RM}{Stop:RU→List RU→RD→Prop}{fr:RU}{az:List RU}{w u:RD}(h:Stop fr az w):Fin P P' Stop fr az w u:=fun b a _=>a _ _ _ _ h
theorem Fin.step{P P':RM}{Stop:RU→List RU→RD→Prop}{fr:RU}{az:List RU}{w u:RD}(b:Tp→Nat→RU×List RU×RD×RD×Array SV)(go:∀ a d m cs,Sq P' m (RN fr (az ++ cs)) (sh a d u)= .go (RN (b a d).1 ((b a d).2.1 ++ cs)) (b a d).2.2.2.1 (b a d).2.2.2.2)
 (g:∀ a d,At P (sh a d w) (b a d).2.2.1 (b a d).2.2.2.2) (j:∀ a d,qL (sh a d w) (sh a d u) (b a d).2.2.1 (b a d).2.2.2.1∧(b a d).2.2.2.1.tape=(b a d).2.2.1.tape) (ok:∀ a d,ei P (b a d).1 (b a d).2.1) (i:nW fr az) (h:∀ a d,Fin P P' Stop (b a d).1 (b a d).2.1 (b a d).2.2.1 (b a d).2.2.2.1):Fin P P' Stop fr az w u:=
 fun e f c=>c _ _ _ _ b go g j ok i fun a d=>h a d e f c
def bg:RU:={(default:RU) with todo:=[.code (.refuse "")],defers:=[{target:=.nil,args:= #[]}],mode:=.run,kind:=.normal}
section
variable {P P':RM}
theorem Bz(c:Option (List S1))(w:RD):∃ o w' es,Sq P RF (RN ((c.map bg.raise).getD bg) []) w= .ended o w' es:=by
 cases c with
 |none=>simp[RN,Sq,Si,bg]
 |some a=>simp[RN,Sq,bg,Frame.raise,Vv,callDeferred]
theorem Q3(K:Twins P P'){fr:RU}{w:RD}(M:Hp (aV P) w)(h:ei P fr [])(t:¬ nW fr []):(∃ o w' es,Sq P RF (RN fr [bg]) w= .ended o w' es)∨∃ c w' es,Sq P RF (RN fr [bg]) w= .go (RN (((c:Option (List S1)).map bg.raise).getD bg) []) w' es:=by
 have E:fr.kind= .normal:=h.bot;have q:∀ v w,Us P RF fr [bg] RA v w= .go (RN bg []) w:=fun v w=>by simp[Us,E,RN,TD,bg]
 have r:∀ es g,((∃ o w' es,g=GStep.ended o w' es)∨∃ c w' es,g=GStep.go (RN (((c:Option (List S1)).map bg.raise).getD bg) []) w' es)→(∃ o w' j,Uh es g=GStep.ended o w' j)∨∃ c w' j,Uh es g=GStep.go (RN (((c:Option (List S1)).map bg.raise).getD bg) []) w' j:=by
  rintro es g (⟨o,w',j,rfl⟩|⟨c,w',j,rfl⟩)
  ·exact .inl ⟨_,_,_,rfl⟩
  ·exact .inr ⟨c,_,_,rfl⟩
 by_cases e:fr.mode= .run
 ·
  have J:∃ b p,fr.roundOf=Ry b∧∀ w,Sq P RF (RN fr [bg]) w=Uh (seen P fr.fn ((Vp b p).runT P w #[]).2) (match ((Vp b p).runT P w #[]).1 with
   | .ok v w=>Us P RF fr [bg] RA v w
   | .halt _ w=>.ended (.stuck "range over a function: no such loop" (fr.pos P)) w):=by
   have:¬ (fr.roundOf=RA∨(fr.todo≠[]∧(∀ a,fr.todo≠.code .ret :: a)∧∀ id a,fr.todo= .code (.exit id) :: a→Vu id a≠RA)):=fun D=>t fun _=>⟨fun h=>absurd e h,fun _=>D⟩;rw[not_or] at this;obtain⟨H,n⟩:=this;obtain⟨b,d⟩:∃ b,fr.roundOf=Ry b:=by
    cases I:fr.roundOf with
    |none=>exact absurd I H
    |some b=>exact⟨b,rfl⟩
   by_cases s:fr.todo=[]
   ·exact⟨b,RA,d,fun w=>by simp only[RN,Sq,Si,e,s,d];rfl⟩
   ·by_cases k:∃ a,fr.todo= .code .ret :: a
    ·obtain⟨a,k⟩:=k;exact⟨b,Ry .ret,d,fun w=>by simp only[RN,Sq,Si,e,k,d];rfl⟩
    ·by_cases l:∃ id a,fr.todo= .code (.exit id) :: a∧Vu id a=RA
     ·obtain⟨id,a,l,A⟩:=l;exact⟨b,Ry (.exit id),d,fun w=>by simp only[RN,Sq,Si,e,l,A,d];rfl⟩
     ·exact absurd ⟨s,fun a i=>k ⟨a,i⟩,fun id a i G=>l ⟨id,a,i,G⟩⟩ n
  obtain⟨b,p,d,C⟩:=J;rw[C];refine r _ _ ?_;cases((Vp b p).runT P w #[]).1 with
  |ok v f=>exact .inr ⟨RA,f,_,q v f⟩
  |halt u f=>exact .inl ⟨_,_,_,rfl⟩
 ·have m:fr.defers=[]:=by
   by_cases m:fr.defers=[]
   ·exact m
   ·exact absurd (fun _=>⟨fun _=>m,fun h=>absurd h e⟩) t
  have y:∀ w,Sq P RF (RN fr [bg]) w=Vv P RF fr [bg] RA w:=fun w=>by
   cases n:fr.mode<;>first|exact absurd n e|simp[RN,Sq,n]
  rw[y];unfold Vv;rw[m];cases F:fr.mode with
  |run=>exact absurd F e
  |panicking x=>
   have B:fr.catches P=RE:=by
    unfold Frame.catches
    split
    ·rename_i i;exact Vt (h.top.todo (Item.call _ _ _ _) (by rw[i];exact UL ..))
    ·rfl
   exact .inr ⟨Ry x,w,#[],by simp[B,RN]⟩
  |returning=>
   dsimp only;cases L:P.funcs[fr.fn]? with
   |none=>exact .inr ⟨RA,w,_,q _ w⟩
   |some z=>
    dsimp only;refine r _ _ ?_;cases((SD z fr.tmps).runT P w #[]).1 with
    |ok v f=>exact .inr ⟨RA,f,_,q v f⟩
    |halt u f=>cases u<;>exact .inl ⟨_,_,_,rfl⟩
end
def BZ (Stop:RU→List RU→RD→Prop)(fr:RU)(az:List RU)(w:RD):Prop:=∃ b a,Stop fr az (sh b a w)
structure Node(P P':RM)(Stop:RU→List RU→RD→Prop) where
 fr:RU
 az:List RU
 w:RD
 u:RD
 ok:ei P fr az
 hp:Hp (aV P) w
 un:Un w u
 no:¬ Fin P P' (BZ Stop) fr az w u
section
variable {P P':RM}{Stop:RU→List RU→RD→Prop}
def Od (x:Node P P' Stop)(b:Tp)(d:Nat)(y:Node P P' Stop):Prop:=∃ a,BT P P (sh b d x.w) (dj x.fr x.az) y.fr y.az y.w a
def JI (x:Node P P' Stop)(e:Tp)(d:Nat):Prop:=¬ nW x.fr x.az∨(∀ m f,∃ g b a,dj x.fr x.az P m f (sh e d x.w)= .ended g b a)∨∃ c h b a,BT P P (sh e d x.w) (dj x.fr x.az) c h b a∧GN c
theorem GD{w w' c:RD}(h:qL w w w' c)(e:Tp)(d:Nat):sh e d c=sh e d w':=by
 have f:c.heap=w'.heap:=by
  apply Array.ext_getElem?;intro b;rcases h.un.cases b with a|⟨a,j,g,i⟩
  ·exact a
  ·rw[(h.keep b a).2,(h.keep b a).1,a]
 unfold sh;rw[f,h.un.os,h.un.output]
theorem Bo{w w':RD}{c:RM→Bool→List RU→RD→VE}{fr':RU}{tops':List RU}{es:Array SV}(h:∀ a d u,Un w u→Al w.tape w.drawn a d (w'.drawn - w.drawn)→∃ b,qL w u w' b∧∀ m cs,c P m cs (sh a d u)= .go (RN fr' (tops' ++ cs)) (sh a (d+(w'.drawn - w.drawn)) b) es)(a:Tp)(d:Nat)(f:Al w.tape w.drawn a d (w'.drawn - w.drawn)):c P RF [bg] (sh a d w)= .go (RN fr' (tops' ++ [bg])) (sh a (d+(w'.drawn - w.drawn)) w') es:=by
 obtain⟨b,g,e⟩:=h a d w (Un.refl w) f;rw[e RF [bg],GD g]
theorem Hy{w:RD}{fr:RU}{az:List RU}(h:Twins P P')(e:Hp (aV P) w)(ok:ei P fr az)(f:nW fr az){fr':RU}{tops':List RU}{w':RD}{es:Array SV}(b:BT P P' w (dj fr az) fr' tops' w' es):BT P P w (dj fr az) fr' tops' w' es:=by
 rcases xF h.self.A h.self.R e ok f with d|⟨i,k,m,g,c⟩
 ·obtain⟨j,l,Kq,a⟩:=d RF [];rw[b.eq] at a;cases a
 ·have a:=(c.eq RF []).symm.trans (b.eq RF []);simp only[RN,Ud,GStep.go.injEq,VX] at a;obtain⟨⟨rfl,rfl,-⟩,rfl,rfl⟩:=a;exact c
theorem Im(h:Twins P P')(x:Node P P' Stop):∃ a d y,JI x a d∨Od x a d y:=by
 apply TE;intro s;have t:∀ a d,¬ JI x a d∧∀ y,¬ Od x a d y:=fun a d=>⟨fun i=>s ⟨a,d,x,.inl i⟩,fun y C=>s ⟨a,d,y,.inr C⟩⟩;have j:∀ a d,∃ b:RU×List RU×RD×RD×Array SV,(∀ m g,Sq P' m (RN x.fr (x.az ++ g)) (sh a d x.u)= .go (RN b.1 (b.2.1 ++ g)) b.2.2.2.1 b.2.2.2.2)∧At P (sh a d x.w) b.2.2.1 b.2.2.2.2∧(qL (sh a d x.w) (sh a d x.u) b.2.2.1 b.2.2.2.1∧b.2.2.2.1.tape=b.2.2.1.tape)∧ei P b.1 b.2.1∧Fin P P' (BZ Stop) b.1 b.2.1 b.2.2.1 b.2.2.2.1:=by
  intro a d;obtain⟨p,A⟩:=t a d;have f:nW x.fr x.az:=TE fun f=>p (.inl f);rcases xF h.A h.R (x.hp.sh a d) x.ok f with z|⟨n,q,e,l,c⟩
  ·exact absurd (.inr (.inl z)) p
  ·have u:=Hy h (x.hp.sh a d) x.ok f c;rcases c.twin with o|i
   ·exact absurd (.inr (.inr ⟨n,q,e,l,u,o.2⟩)) p
   ·obtain⟨r,k,i⟩:=i a d x.u ⟨x.un.size,x.un.at_,x.un.os,x.un.output⟩ (Al.refl _ _ _);have o:=c.drawn;have w:(sh a d x.w).drawn=d:=rfl;rw[w] at o i;have v:qL (sh a d x.w) (sh a d x.u) e (sh a e.drawn r):=⟨⟨k.un.size,k.un.at_,k.un.os,k.un.output⟩,k.keep⟩;refine⟨(n,q,e,sh a e.drawn r,l),fun m g=>?_,⟨c.hp,c.tape,c.drawn,c.size,c.os,c.output,c.evs⟩,⟨v,c.tape.symm⟩,c.ok,?_⟩
    ·have:=i m g;rw[show d+(e.drawn - d)=e.drawn by omega] at this;exact this
    ·apply TE;intro B;exact A ⟨n,q,e,sh a e.drawn r,c.ok,c.hp,v.un,B⟩ ⟨l,u⟩
 have f:nW x.fr x.az:=TE fun f=>(t (fun _ _=>0) 0).1 (.inl f);exact x.no (.step (fun a d=>S0 (j a d)) (fun a d m g=>(RY (j a d)).1 m g) (fun a d=>(RY (j a d)).2.1) (fun a d=>(RY (j a d)).2.2.1) (fun a d=>(RY (j a d)).2.2.2.1) f fun a d=>(RY (j a d)).2.2.2.2)
theorem least{p:Nat→Prop}:∀ (n:Nat),p n→∃ m,m≤n∧p m∧∀ i<m,¬ p i:=by
 intro n
 induction n using Nat.strongRecOn with
 |_ n g=>
  intro f;by_cases c:∃ i,i<n∧p i
  ·obtain⟨i,a,b⟩:=c;obtain⟨m,h,d,e⟩:=g i a b;exact⟨m,by omega,d,e⟩
  ·exact⟨n,RG _,f,fun i a b=>c ⟨i,a,b⟩⟩
theorem xQ{fr fr':RU}{l b:List RU}{w w':RD}(h:Stepped.next (Vw (RN fr l) w)= .next (Vw (RN fr' b) w')):fr=fr'∧l=b∧w=w':=by
 simp only[Wp,Vw,RN,Ws,VX,Array.mk.injEq,UB] at h;obtain⟨c,a,-⟩:=h;simp at a;exact⟨a.1,a.2,c⟩
theorem step_end{fr:RU}{l:List RU}{w w':RD}{o:Outcome}{es:Array SV}(h:Sq P RF (RN fr l) w= .ended o w' es):step P (Vw (RN fr l) w)= .ended o w':=
 step_lone_ended (by simp only[RN] at h;rw[h];rfl)
theorem Hi{fr:RU}(h:GN fr)(l:List RU)(w:RD):∃ o w',step P (Vw (RN fr l) w)= .ended o w':=by
 obtain⟨c,s,d⟩:=h;have:∃ o w' a,Sq P RF (RN fr l) w= .ended o w' a:=by simp[RN,Sq,Si,c,d]
 obtain⟨o,w',a,b⟩:=this;exact⟨o,w',step_end b⟩
theorem uc(h:Twins P P')(a8:∀ fr az w,Stop fr az w→¬ GN fr){fr:RU}{az:List RU}{w u:RD}(ok:ei P fr az)(be:Hp (aV P) w)(bm:Un w u)
 (bb:∀ bo,∃ N fr' tops' w',runN P N (Vw (RN fr (az ++ [bg])) (sh bo 0 w))= .next (Vw (RN fr' (tops' ++ [bg])) w')∧Stop fr' tops' w'):Fin P P' (BZ Stop) fr az w u:=by
 apply TE;intro bd;obtain⟨l,O⟩:=Classical.axiomOfChoice (Im (Stop:=Stop) h);obtain⟨k,a7⟩:=Classical.axiomOfChoice O;obtain⟨s,bi⟩:=Classical.axiomOfChoice a7;let b:Nat→Node P P' Stop:=fun a=>Nat.rec ⟨fr,az,w,u,ok,be,bm,bd⟩ (fun _ K=>s K) a;let U:Node P P' Stop→Nat:=fun K=>(s K).w.drawn - k K;let D:Nat→Nat:=fun a=>Nat.rec 0 (fun a a2=>a2+U (b a)) a;let q:Nat→Prop:=fun a=>JI (b a) (l (b a)) (k (b a));have X:∀ a,D (a+1)=D a+U (b a):=fun a=>rfl;have br:∀ a,b (a+1)=s (b a):=fun a=>rfl;have ad:∀ a c,c<a→D (c+1)≤D a:=by
  intro a
  induction a with
  |zero=>intro c n;omega
  |succ a T=>
   intro c n;rcases Ts c a with h|h
   ·have:=T c h;rw[X a];omega
   ·have:c=a:=by omega
    subst this;exact RG _
 let V:Nat→Nat→Prop:=fun i a=>D a≤i∧(q a∨i<D (a+1));have t:∃ d:Tp,∀ a,(∀ c<a,¬ q c)→∀ i g,V i a→d i g=l (b a) (k (b a)+(i - D a)) g:=by
  have ba:∀ (i:Nat),∃ f:Question→Nat,∀ a,(∀ c<a,¬ q c)→V i a→∀ g,f g=l (b a) (k (b a)+(i - D a)) g:=by
   intro i;by_cases E:∃ a,(∀ c<a,¬ q c)∧V i a
   ·obtain⟨a,o,F⟩:=E;refine⟨fun g=>l (b a) (k (b a)+(i - D a)) g,fun A bc ae g=>?_⟩;have:a=A:=by
     rcases Nat.lt_trichotomy a A with z|R|z
     ·have O:=ad A a z;rcases F.2 with p|p
      ·exact absurd p (bc a z)
      ·have:=ae.1;omega
     ·exact R
     ·have O:=ad a A z;rcases ae.2 with p|p
      ·exact absurd p (o A z)
      ·have:=F.1;omega
    subst this;rfl
   ·exact⟨fun _=>0,fun a o F=>absurd ⟨a,o,F⟩ E⟩
  obtain⟨d,t⟩:=Classical.axiomOfChoice ba;exact⟨fun i g=>d i g,fun a o i g E=>t i a o E g⟩
 obtain⟨d,t⟩:=t;have ao:∀ a,(∀ c<a,¬ q c)→runN P a (Vw (RN fr (az ++ [bg])) (sh d 0 w))= .next (Vw (RN (b a).fr ((b a).az ++ [bg])) (sh d (D a) (b a).w)):=by
  intro a
  induction a with
  |zero=>intro _;rfl
  |succ a T=>
   intro o;have M:=T fun c n=>o c (by omega);rcases bi (b a) with p|⟨B,y⟩
   ·exact absurd p (o a (by omega))
   ·rcases y.twin with j|j
    ·exact absurd rfl j.1
    ·have C:Al (sh (l (b a)) (k (b a)) (b a).w).tape (sh (l (b a)) (k (b a)) (b a).w).drawn d (D a) ((s (b a)).w.drawn - (sh (l (b a)) (k (b a)) (b a).w).drawn):=by
      intro c g n;have:=t a (fun c n=>o c (by omega)) (D a+c) g ⟨by omega,.inr (by rw[X];exact Nat.add_lt_add_left n _)⟩;rw[this,Nat.add_sub_cancel_left];rfl
     have S:=Bo j d (D a) C;have G:step P (Vw (RN (b a).fr ((b a).az ++ [bg])) (sh d (D a) (b a).w))= .next (Vw (RN (s (b a)).fr ((s (b a)).az ++ [bg])) (sh d (D a+U (b a)) (s (b a)).w)):=Conc.step_solo_go rfl S;rw[runN_add,M];simp only[runN,G];rfl
 obtain⟨N,fr',tops',w',e,Q⟩:=bb d;by_cases Y:∀ c<N,¬ q c
 ·have:=(ao N Y).symm.trans e;obtain⟨L,x,a4⟩:=xQ this;have a5:=List.append_cancel_right x;rw[← L,← a5,← a4] at Q;exact(b N).no (.stop ⟨d,D N,Q⟩)
 ·have:∃ c,c<N∧q c:=TE fun j=>Y fun c n p=>j ⟨c,n,p⟩;obtain⟨c,n,bl⟩:=this;obtain⟨a,bs,ar,Z⟩:=least (p:=q) c bl;have M:=ao a Z;obtain⟨v,rfl⟩:∃ v,N=a+(v+1):=⟨N - a - 1,by omega⟩;rw[runN_add,M] at e;simp only[runN] at e;have C:∀ aw,Al (l (b a)) (k (b a)) d (D a) aw:=fun aw c g n=>by
   rw[t a Z (D a+c) g ⟨by omega,.inl ar⟩,Nat.add_sub_cancel_left]
  have al:=(b a).hp.sh d (D a);have am:¬ nW (b a).fr (b a).az→False:=by
   intro r;have bj:(b a).az=[]:=TE fun j=>r fun m=>absurd m j;have a0:=(b a).ok;rw[bj] at r a0 e;rcases Q3 h al a0 r with⟨H,I,B,m⟩|⟨a3,I,B,m⟩
   ·rw[show([]:List RU) ++ [bg]=[bg] from rfl,step_end m] at e;cases e
   ·rw[show([]:List RU) ++ [bg]=[bg] from rfl,Conc.step_solo_go rfl m] at e;dsimp only at e;cases v with
    |zero=>
     obtain⟨-,x,-⟩:=xQ e;simp at x
    |succ v=>
     obtain⟨H,J,W,x⟩:=Bz (P:=P) a3 I;simp only[runN,step_end x] at e;cases e
  rcases ar with r|R|⟨a6,a1,J,W,y,ab⟩
  ·exact am r
  ·by_cases r:nW (b a).fr (b a).az
   ·rcases xF h.self.A h.self.R al (b a).ok r with a9|⟨a6,a1,J,W,y⟩
    ·obtain⟨H,I,B,m⟩:=a9 RF [bg];rw[step_end m] at e;cases e
    ·rcases y.twin with j|j
     ·exact absurd rfl j.1
     ·obtain⟨H,I,B,m⟩:=R RF [bg];have:=Bo j (l (b a)) (k (b a)) (fun c g n=>((C _) c g n).symm);rw[show sh (l (b a)) (k (b a)) (sh d (D a) (b a).w)=sh (l (b a)) (k (b a)) (b a).w from rfl,m] at this;cases this
   ·exact am r
  ·rcases y.twin with j|j
   ·exact absurd rfl j.1
   ·have S:=Bo j d (D a) (C _);have G:=Conc.step_solo_go (P:=P) (a:=RN (b a).fr ((b a).az ++ [bg])) rfl S;rw[show sh d (D a) (sh (l (b a)) (k (b a)) (b a).w)=sh d (D a) (b a).w from rfl] at G;rw[G] at e;dsimp only at e;cases v with
    |zero=>
     obtain⟨L,-,-⟩:=xQ e;exact a8 _ _ _ Q (L▸ab)
    |succ v=>
     obtain⟨H,bt,m⟩:=Hi (P:=P) ab (a1 ++ [bg]) (sh d (D a+(J.drawn - (sh (l (b a)) (k (b a)) (b a).w).drawn)) J);simp only[runN,m] at e;cases e
end
end Cc
namespace Cc
open Go Go.Conc
def blk:Loc→Nat
 | .cell a=>a.block
 | .obj b=>b
 |_=>0
structure uO where
 c:Nat
 own:Nat→Prop
 pc:Option Nat
def Ms (S:Nat→Prop)(x:uO)(a:Touch):Prop:=x.own (blk a.loc)∨blk a.loc=x.c∨(S (blk a.loc)∧a.write=RE)
structure sr(S:Nat→Prop)(wk:Nat→Option uO)(B:Nat)(t:Trace):Prop where
 wl:Wordless t
 clean:∀ said,¬ Race said t
 low:∀ i a,touchAt t i=Ry a→a.loc.isMemory=RF→blk a.loc<B
 known:∀ i a,touchAt t i=Ry a→a.loc.isMemory=RF→Knows t 0 i∨∃ k x,wk k=Ry x∧t.g? i=Ry k∧Ms S x a∧∀ p,x.pc=Ry p→Before t i p
 wr:∀ k x,wk k=Ry x→x.pc=RA→∀ i a,touchAt t i=Ry a→a.loc.isMemory=RF→a.write=RF→S (blk a.loc)→Knows t k i
 ow:∀ k x,wk k=Ry x→x.pc=RA→∀ i a,touchAt t i=Ry a→a.loc.isMemory=RF→(x.own (blk a.loc)∨blk a.loc=x.c)→Knows t k i
 shut:∀ k x p,wk k=Ry x→x.pc=Ry p→t.act? p=Ry (.close x.c)
section
variable {S:Nat→Prop}{wk:Nat→Option uO}{B B':Nat}{t u:Trace}
theorem wC{i k:Nat}(h:t.g? i=Ry k):(t ++ u).g? i=Ry k:=by
 unfold Trace.g? at h ⊢;obtain⟨c,a,b⟩:=TY.1 h;rw[getElem?_append_old (lt_size_of_getElem? a),a];simpa using b
theorem cr{i:Nat}{a:Touch}(h:touchAt (t ++ u) i=Ry a):touchAt t i=Ry a∨∃ b,b∈u∧(t ++ u)[i]? =Ry b∧b.act.touch?= Ry a:=by
 obtain⟨g,c,d⟩:=touch_of h;rcases getElem?_append_cases c with⟨_,e⟩|⟨_,f⟩
 ·exact .inl (by rw[touchAt_of e];exact d)
 ·exact .inr ⟨g,f,c,d⟩
theorem sr.mute(h:sr S wk B t){γ:Nat}(y:∀ j∈u,j.g=γ)(z:Wordless u)(p:∀ j∈u,j.act.touch?= RA)(s:B≤B'):sr S wk B' (t ++ u):=by
 have m:∀ {b a},touchAt (t ++ u) b=Ry a→touchAt t b=Ry a:=fun c=>by
  rcases cr c with g|⟨j,g,_,l⟩
  ·exact g
  ·rw[p j g] at l;cases l
 refine⟨h.wl.append z,fun C=>noRace_append (h.clean C) y fun b a _ j w D o _=>(by rw[p j w] at o;cases o),fun b a c i=>RK (h.low b a (m c) i) s,fun b a c i=>?_,fun e f k d b a c i A x=>(h.wr e f k d b a (m c) i A x).app u,fun e f k d b a c i v=>(h.ow e f k d b a (m c) i v).app u,fun e f n k d=>by rw[act?_old (lt_of_act? (h.shut e f n k d))];exact h.shut e f n k d⟩;rcases h.known b a (m c) i with g|⟨e,f,g,l,q,r⟩
 ·exact .inl (g.app u)
 ·exact .inr ⟨e,f,g,wC l,q,fun n d=>(r n d).app u⟩
theorem sr.main(h:sr S wk B t)(w:∀ d∈u,d.g=0)(G:Wordless u)(A:B≤B')
 (o:∀ d∈u,∀ b,d.act.touch?= Ry b→b.loc.isMemory=RF→blk b.loc<B'∧(∀ k x,wk k=Ry x→¬ x.own (blk b.loc)∧blk b.loc≠x.c)∧(S (blk b.loc)→b.write=RE)):sr S wk B' (t ++ u):=by
 refine⟨h.wl.append G,fun H=>noRace_append (h.clean H) w fun j e i d E b C D=>?_,fun j e i c=>?_,fun j e i c=>?_,fun k x g l j e i c s v=>?_,fun k x g l j e i c n=>?_,fun k x q g l=>by rw[act?_old (lt_of_act? (h.shut k x q g l))];exact h.shut k x q g l⟩
 ·obtain⟨p,c,y,_⟩:=D;obtain⟨_,f,r⟩:=o d E b C (p▸c);rcases h.known j e i c with a|⟨k,x,g,_,F,_⟩
  ·exact a
  ·rcases F with m|m|⟨m,z⟩
   ·exact absurd (p▸m) (f k x g).1
   ·exact absurd (p▸m) (f k x g).2
   ·have:=r (p▸m);rw[z,this] at y;simp at y
 ·rcases cr i with a|⟨d,a,_,f⟩
  ·exact RK (h.low j e a c) A
  ·exact(o d a e f c).1
 ·rcases cr i with a|⟨d,a,f,_⟩
  ·rcases h.known j e a c with a|⟨k,x,a,f,r,m⟩
   ·exact .inl (a.app u)
   ·exact .inr ⟨k,x,a,wC f,r,fun q l=>(m q l).app u⟩
  ·have:=knows_own f;rw[w d a] at this;exact .inl this
 ·rcases cr i with a|⟨d,a,_,f⟩
  ·exact(h.wr k x g l j e a c s v).app u
  ·rw[(o d a e f c).2.2 v] at s;cases s
 ·rcases cr i with a|⟨d,a,_,f⟩
  ·exact(h.ow k x g l j e a c n).app u
  ·rcases n with n|n
   ·exact absurd n ((o d a e f c).2.1 k x g).1
   ·exact absurd n ((o d a e f c).2.1 k x g).2
theorem sr.PD(h:sr S wk B t){k:Nat}{x:uO}(r:wk k=Ry x)(s:x.pc=RA){own':Nat→Prop}(V:∀ b,x.own b→own' b)(J:∀ b,own' b→x.own b∨B≤b)(F:∀ l∈u,l.g=k)(W:Wordless u)(N:B≤B')
 (O:∀ b,own' b→¬ S b) (P:¬ S x.c)
 (T:∀ j y,j≠k→wk j=Ry y→(∀ b,own' b→¬ y.own b∧b≠y.c)∧¬ y.own x.c∧x.c≠y.c∧(∀ b,S b→¬ y.own b∧b≠y.c))
 (z:∀ l∈u,∀ b,l.act.touch?= Ry b→b.loc.isMemory=RF→blk b.loc<B'∧Ms S ⟨x.c,own',RA⟩ b):sr S (fun j=>if j=k then Ry ⟨x.c,own',RA⟩ else wk j) B' (t ++ u):=by
 have G:∀ {j y},(if j=k then Ry (⟨x.c,own',RA⟩:uO) else wk j)=Ry y→(j=k∧y=⟨x.c,own',RA⟩)∨(j≠k∧wk j=Ry y):=fun {j y} D=>by
  split at D
  ·rename_i g;cases D;exact .inl ⟨g,rfl⟩
  ·rename_i g;exact .inr ⟨g,D⟩
 refine⟨h.wl.append W,fun X=>noRace_append (h.clean X) F fun i f m l U b Q R=>?_,fun i f m d=>?_,fun i f m d=>?_,fun j y g n i f m d C A=>?_,fun j y g n i f m d e=>?_,fun j y v g n=>?_⟩
 ·obtain⟨w,d,K,_⟩:=R;rcases(z l U b Q (w▸d)).2 with c|c|⟨c,p⟩
  ·rcases J _ c with p|p
   ·exact h.ow k x r s i f m d (.inl (w▸p))
   ·have:=h.low i f m d;rw[w] at this;omega
  ·exact h.ow k x r s i f m d (.inr (w▸c))
  ·rw[p] at K;exact h.wr k x r s i f m d (by simpa using K) (w▸c)
 ·rcases cr m with a|⟨l,a,_,o⟩
  ·exact RK (h.low i f a d) N
  ·exact(z l a f o d).1
 ·rcases cr m with a|⟨l,a,o,q⟩
  ·rcases h.known i f a d with a|⟨j,y,a,o,q,c⟩
   ·exact .inl (a.app u)
   ·by_cases g:j=k
    ·subst g;rw[r] at a;cases a;refine .inr ⟨j,⟨x.c,own',RA⟩,by simp,wC o,?_,fun v n=>by cases n⟩;exact q.imp (V _) id
    ·exact .inr ⟨j,y,by simp[g,a],wC o,q,fun v n=>(c v n).app u⟩
  ·refine .inr ⟨k,⟨x.c,own',RA⟩,by simp,?_,(z l a f q d).2,fun v n=>by cases n⟩;simp[Trace.g?,o,F l a]
 ·rcases cr m with a|⟨l,a,_,o⟩
  ·rcases G g with⟨rfl,rfl⟩|⟨E,g⟩
   ·exact(h.wr j x r s i f a d C A).app u
   ·exact(h.wr j y g n i f a d C A).app u
  ·rcases(z l a f o d).2 with c|c|⟨c,p⟩
   ·exact absurd A (O _ c)
   ·exact absurd A (c▸P)
   ·rw[p] at C;cases C
 ·rcases G g with⟨rfl,rfl⟩|⟨E,g⟩
  ·rcases cr m with a|⟨l,a,o,q⟩
   ·refine Knows.app u ?_;rcases e with e|e
    ·rcases J _ e with p|p
     ·exact h.ow j x r s i f a d (.inl p)
     ·have:=h.low i f a d;omega
    ·exact h.ow j x r s i f a d (.inr e)
   ·have:=knows_own o;rw[F l a] at this;exact this
  ·obtain⟨H,L,M,I⟩:=T j y E g;rcases cr m with a|⟨l,a,o,q⟩
   ·exact(h.ow j y g n i f a d e).app u
   ·rcases(z l a f q d).2 with c|c|⟨c,p⟩
    ·rcases e with e|e
     ·exact absurd e (H _ c).1
     ·exact absurd e (H _ c).2
    ·rcases e with e|e
     ·exact absurd (c▸e) L
     ·exact absurd (c.symm.trans e) M
    ·rcases e with e|e
     ·exact absurd e (I _ c).1
     ·exact absurd e (I _ c).2
 ·rcases G g with⟨rfl,rfl⟩|⟨E,g⟩
  ·cases n
  ·rw[act?_old (lt_of_act? (h.shut j y v g n))];exact h.shut j y v g n
theorem sr.close(h:sr S wk B t){k:Nat}{x:uO}(H:wk k=Ry x)(T:x.pc=RA)(P:x.c<B)(X:¬ S x.c)(fn:TH)(pos:String)
 (Q:∀ j y,j≠k→wk j=Ry y→¬ y.own x.c∧x.c≠y.c):
 sr S (fun j=>if j=k then Ry ⟨x.c,x.own,Ry (t.size+1)⟩ else wk j) B (t ++ Va k fn pos #[⟨.obj x.c,RE,RF⟩,⟨.obj x.c,RF,RF⟩]):=by
 have M:Va k fn pos #[⟨.obj x.c,RE,RF⟩,⟨.obj x.c,RF,RF⟩]=#[{g:=k,fn,pos,act:=.access ⟨.obj x.c,RE,RF⟩},{g:=k,fn,pos,act:=.close x.c}]:=by
  rw[ofEvents_eq];simp[T8]
 rw[M];have I:∀ d∈ #[({g:=k,fn,pos,act:=.access ⟨.obj x.c,RE,RF⟩}:VL),{g:=k,fn,pos,act:=.close x.c}],d.g=k:=by
  intro d o;simp at o;rcases o with rfl|rfl<;>rfl
 have w:∀ d∈ #[({g:=k,fn,pos,act:=.access ⟨.obj x.c,RE,RF⟩}:VL),{g:=k,fn,pos,act:=.close x.c}],∀ r,d.act.touch?= Ry r→r=⟨.obj x.c,RE,.atomic⟩:=by
  intro d o r v;simp at o;rcases o with rfl|rfl
  ·simp[Vl] at v;exact v.symm
  ·simp[Vl] at v
 have A:(t ++ #[({g:=k,fn,pos,act:=.access ⟨.obj x.c,RE,RF⟩}:VL),{g:=k,fn,pos,act:=.close x.c}])[t.size+1]? =Ry {g:=k,fn,pos,act:=.close x.c}:=by
  rw[Array.getElem?_append_right (by omega)];simp
 have E:∀ b,(t ++ #[({g:=k,fn,pos,act:=.access ⟨.obj x.c,RE,RF⟩}:VL),{g:=k,fn,pos,act:=.close x.c}]).g? b=Ry k→b≠t.size+1→Before (t ++ #[({g:=k,fn,pos,act:=.access ⟨.obj x.c,RE,RF⟩}:VL),{g:=k,fn,pos,act:=.close x.c}]) b (t.size+1):=by
  intro b G z;unfold Trace.g? at G;obtain⟨d,n,s⟩:=TY.1 G;have:=lt_size_of_getElem? n;simp at this;exact .inr (hb_po (by omega) n A s)
 have D:∀ {j y},(if j=k then Ry (⟨x.c,x.own,Ry (t.size+1)⟩:uO) else wk j)=Ry y→(j=k∧y=⟨x.c,x.own,Ry (t.size+1)⟩)∨(j≠k∧wk j=Ry y):=fun {j y} s=>by
  split at s
  ·rename_i c;cases s;exact .inl ⟨c,rfl⟩
  ·rename_i c;exact .inr ⟨c,s⟩
 have V:Wordless #[({g:=k,fn,pos,act:=.access ⟨.obj x.c,RE,RF⟩}:VL),{g:=k,fn,pos,act:=.close x.c}]:=by
  intro d o m i;simp at o;rcases o with rfl|rfl<;>cases i
 have J:∀ {b e},touchAt (t ++ #[({g:=k,fn,pos,act:=.access ⟨.obj x.c,RE,RF⟩}:VL),{g:=k,fn,pos,act:=.close x.c}]) b=Ry e→b≠t.size+1:=by
  rintro b e g rfl;rw[touchAt_of A] at g;simp[Vl] at g
 refine⟨h.wl.append V,fun W=>noRace_append (h.clean W) I fun b e g d o r v O=>?_,fun b e g i=>?_,fun b e g i=>?_,fun j y c f b e g i C U=>?_,fun j y c f b e g i n=>?_,fun j y q c f=>?_⟩
 ·obtain⟨R,i,_⟩:=O;have:=w d o r v;subst this;exact h.ow k x H T b e g i (.inr (by rw[R];rfl))
 ·rcases cr g with a|⟨d,a,_,l⟩
  ·exact h.low b e a i
  ·rw[w d a e l];exact P
 ·rcases cr g with a|⟨d,a,l,p⟩
  ·rcases h.known b e a i with a|⟨j,y,a,l,p,N⟩
   ·exact .inl (a.app _)
   ·by_cases c:j=k
    ·subst c;rw[H] at a;cases a;exact .inr ⟨j,⟨x.c,x.own,Ry (t.size+1)⟩,by simp,wC l,p,fun q f=>by cases f;exact E b (wC l) (J g)⟩
    ·exact .inr ⟨j,y,by simp[c,a],wC l,p,fun q f=>(N q f).app _⟩
  ·have F:(t ++ #[({g:=k,fn,pos,act:=.access ⟨.obj x.c,RE,RF⟩}:VL),{g:=k,fn,pos,act:=.close x.c}]).g? b=Ry k:=by simp only[Trace.g?,l,TG,I d a]
   refine .inr ⟨k,⟨x.c,x.own,Ry (t.size+1)⟩,by simp,F,.inr (.inl (by rw[w d a e p];rfl)),fun q f=>by cases f;exact E b F (J g)⟩
 ·rcases D c with⟨rfl,rfl⟩|⟨z,c⟩
  ·cases f
  ·rcases cr g with a|⟨d,a,_,l⟩
   ·exact(h.wr j y c f b e a i C U).app _
   ·rw[w d a e l] at C;cases C
 ·rcases D c with⟨rfl,rfl⟩|⟨z,c⟩
  ·cases f
  ·obtain⟨K,L⟩:=Q j y z c;rcases cr g with a|⟨d,a,l,p⟩
   ·exact(h.ow j y c f b e a i n).app _
   ·rw[w d a e p] at n;rcases n with n|n
    ·exact absurd n K
    ·exact absurd n L
 ·rcases D c with⟨rfl,rfl⟩|⟨z,c⟩
  ·cases f;rw[act?_of A]
  ·rw[act?_old (lt_of_act? (h.shut j y q c f))];exact h.shut j y q c f
theorem sr.KJ(h:sr S wk B t){k p:Nat}{x:uO}(r:wk k=Ry x)(s:x.pc=Ry p)(fn:TH)(pos:String):
 sr S (fun j=>if j=k then RA else wk j) B (t ++ #[{g:=0,fn,pos,act:=.recvClosed x.c}]):=by
 have D:Wordless #[({g:=0,fn,pos,act:=.recvClosed x.c}:VL)]:=by
  intro f d m l;simp at d;subst d;cases l
 have A:∀ f∈ #[({g:=0,fn,pos,act:=.recvClosed x.c}:VL)],f.act.touch?= RA:=by
  intro f d;simp at d;subst d;rfl
 have c:=h.mute (B':=B) (γ:=0) (fun f d=>by simp at d;subst d;rfl) D A (RG _);have i:(t ++ #[({g:=0,fn,pos,act:=.recvClosed x.c}:VL)])[t.size]? =Ry {g:=0,fn,pos,act:=.recvClosed x.c}:=by
  rw[Array.getElem?_append_right (RG _)];simp
 have q:=c.shut k x p r s;obtain⟨H,E,_⟩:=TY.1 q;have C:Knows (t ++ #[({g:=0,fn,pos,act:=.recvClosed x.c}:VL)]) 0 p:=⟨t.size,_,i,rfl,.inr (.single (.inr ⟨.closed q (by rw[act?_of i]),c.wl.heard E,c.wl.heard i⟩))⟩;have n:∀ {j a},(if j=k then RA else wk j)=Ry a→j≠k∧wk j=Ry a:=fun {j a} g=>by
  split at g
  ·cases g
  ·rename_i b;exact⟨b,g⟩
 refine⟨c.wl,c.clean,c.low,fun F v z l=>?_,fun j a b=>c.wr j a (n b).2,fun j a b=>c.ow j a (n b).2,fun j a G b=>c.shut j a G (n b).2⟩;rcases c.known F v z l with e|⟨j,a,e,w,y,o⟩
 ·exact .inl e
 ·by_cases b:j=k
  ·subst b;rw[r] at e;cases e;exact .inl (Knows.of_before (o p s) C)
  ·exact .inr ⟨j,a,by simp[b,e],w,y,o⟩
theorem sr.spawn(h:sr S wk B t){k c:Nat}(P:wk k=RA)(fn n:TH)(pos:String)
 (C:∀ j y,wk j=Ry y→¬ y.own c∧c≠y.c∧∀ b,S b→¬ y.own b∧b≠y.c) (N:¬ S c):
 sr S (fun j=>if j=k then Ry ⟨c,fun _=>False,RA⟩ else wk j) B (t ++ #[{g:=0,fn,pos,act:=.go k},{g:=k,fn:=n,pos,act:=.start}]):=by
 have M:t ++ #[({g:=0,fn,pos,act:=.go k}:VL),{g:=k,fn:=n,pos,act:=.start}]=t ++ #[({g:=0,fn,pos,act:=.go k}:VL)] ++ #[({g:=k,fn:=n,pos,act:=.start}:VL)]:=by apply Array.ext';simp
 have Q:Wordless #[({g:=0,fn,pos,act:=.go k}:VL)]:=by
  intro v d m l;simp at d;subst d;cases l
 have R:Wordless #[({g:=k,fn:=n,pos,act:=.start}:VL)]:=by
  intro v d m l;simp at d;subst d;cases l
 have r:sr S wk B (t ++ #[({g:=0,fn,pos,act:=.go k}:VL),{g:=k,fn:=n,pos,act:=.start}]):=by
  rw[M];refine(h.mute (B':=B) (γ:=0) (fun v d=>by simp at d;subst d;rfl) Q (fun v d=>by simp at d;subst d;rfl) (RG _)).mute (γ:=k) (fun v d=>by simp at d;subst d;rfl) R (fun v d=>by simp at d;subst d;rfl) (RG _)
 have a:(t ++ #[({g:=0,fn,pos,act:=.go k}:VL),{g:=k,fn:=n,pos,act:=.start}])[t.size]? =Ry {g:=0,fn,pos,act:=.go k}:=by
  rw[Array.getElem?_append_right (RG _)];simp
 have p:(t ++ #[({g:=0,fn,pos,act:=.go k}:VL),{g:=k,fn:=n,pos,act:=.start}])[t.size+1]? =Ry {g:=k,fn:=n,pos,act:=.start}:=by
  rw[Array.getElem?_append_right (by omega)];simp
 have J:∀ {g},Knows t 0 g→Knows (t ++ #[({g:=0,fn,pos,act:=.go k}:VL),{g:=k,fn:=n,pos,act:=.start}]) k g:=fun {g} O=>
  ⟨t.size+1,_,p,rfl,.inr ((O.hb_new (RG _) a rfl).trans (.single (.inr ⟨.spawn (by rw[act?_of a]) (by rw[act?_of p]) (by simp[Trace.g?]),r.wl.heard a,r.wl.heard p⟩)))⟩
 have I:∀ {g i},touchAt (t ++ #[({g:=0,fn,pos,act:=.go k}:VL),{g:=k,fn:=n,pos,act:=.start}]) g=Ry i→touchAt t g=Ry i:=fun q=>by
  rcases cr q with a|⟨v,a,_,p⟩
  ·exact a
  ·simp at a;rcases a with rfl|rfl<;>simp[Vl] at p
 have F:∀ {j y},(if j=k then Ry (⟨c,fun _=>False,RA⟩:uO) else wk j)=Ry y→(j=k∧y=⟨c,fun _=>False,RA⟩)∨(j≠k∧wk j=Ry y):=fun {j y} w=>by
  split at w
  ·rename_i f;cases w;exact .inl ⟨f,rfl⟩
  ·rename_i f;exact .inr ⟨f,w⟩
 refine⟨r.wl,r.clean,r.low,fun g i q l=>?_,fun j y f s g i q l E D=>?_,fun j y f s g i q l o=>?_,fun j y T f s=>?_⟩
 ·rcases r.known g i q l with a|⟨j,y,a,p,e,A⟩
  ·exact .inl a
  ·refine .inr ⟨j,y,?_,p,e,A⟩;rw[if_neg (fun w=>by rw[w,P] at a;cases a)];exact a
 ·rcases F f with⟨rfl,rfl⟩|⟨H,f⟩
  ·refine J ?_;rcases h.known g i (I q) l with a|⟨x,z,a,p,e,A⟩
   ·exact a
   ·rcases e with e|e|⟨e,G⟩
    ·exact absurd e ((C x z a).2.2 _ D).1
    ·exact absurd e ((C x z a).2.2 _ D).2
    ·rw[G] at E;cases E
  ·exact r.wr j y f s g i q l E D
 ·rcases F f with⟨rfl,rfl⟩|⟨H,f⟩
  ·refine J ?_;rcases o with o|o
   ·exact o.elim
   ·have o:blk i.loc=c:=o;rcases h.known g i (I q) l with a|⟨x,z,a,p,e,A⟩
    ·exact a
    ·obtain⟨K,L,U⟩:=C x z a;rcases e with e|e|⟨e,G⟩
     ·exact absurd (o▸e) K
     ·exact absurd (o.symm.trans e) L
     ·exact absurd (o▸e) N
  ·exact r.ow j y f s g i q l o
 ·rcases F f with⟨rfl,rfl⟩|⟨H,f⟩
  ·cases s
  ·exact r.shut j y T f s
theorem sr.over(h:sr S (fun _=>RA) B t):t.HandedOver:=by
 intro k n d i e;obtain⟨m,j,g,_⟩:=e;rcases h.known k m j g with⟨l,q,b,c,a⟩|⟨o,p,f,_⟩
 ·refine⟨l,by simp[Trace.g?,b,c],?_⟩;rcases a with rfl|a
  ·simp[Trace.g?,b] at d;exact absurd (d.symm.trans c) i
  ·exact a
 ·cases f
end
def LZ (t:List RD→Prop)(w:RD):List RD→Prop:=fun a=>t (w :: a)
def QL (s t:List RD→Prop):Prop:=t []∧∃ a,s=LZ t a
structure Tr where Rh ::
 t:List RD→Prop
 a:Acc QL t
 c:∀ p q,t (p ++ q)→t p
theorem Tr.ext{x y:Tr}(h:x.t=y.t):x=y:=by
 cases x;cases y;cases h;rfl
def Tr.fin:Tr:=⟨fun _=>False,⟨_,fun _ a=>a.1.elim⟩,fun _ _ a=>a⟩
def Tr.mk(f:RD→Tr):Tr:=⟨fun a=>match a with
 | []=>True
 |w :: a=>(f w).t a,⟨_,fun s b=>by obtain⟨_,w,rfl⟩:=b;exact(f w).a⟩,fun a d b=>by
 cases a with
 |nil=>trivial
 |cons w a=>exact(f w).c a d b⟩
theorem Tr.mk_inj{f g:RD→Tr}(h:Tr.mk f= .mk g):f=g:=funext fun b=>Tr.ext (funext fun a=>congrFun (congrArg Tr.t h) (b :: a))
theorem Tr.OO{f:RD→Tr}(h:Tr.fin= .mk f):False:=(congrFun (congrArg Tr.t h) []).mpr trivial
theorem Tr.ind{d:Tr→Prop}(fin:d .fin)(mk:∀ f,(∀ w,d (f w))→d (.mk f))(i:Tr):d i:=by
 obtain⟨b,a,c⟩:=i
 induction a with
 |intro b h j=>
  by_cases g:b []
  ·have e:Tr.Rh b (.intro b h) c= .mk fun w=>⟨LZ b w,h _ ⟨g,w,rfl⟩,fun p k=>c (w :: p) k⟩:=Tr.ext (funext fun p=>by
    cases p with
    |nil=>exact eq_true g
    |cons w p=>rfl)
   rw[e];exact mk _ fun w=>j _ ⟨g,w,rfl⟩ _
  ·have e:Tr.Rh b (.intro b h) c= .fin:=Tr.ext (funext fun p=>eq_false fun h=>g (c [] p h));rw[e];exact fin
def Tr.go{C:Type}(b:(RD→C→Prop)→C→Prop)(d:Tr):C→Prop:=Wt (r:=QL) (C:=fun _=>C→Prop) (fun a f h=>∃ g:a [],b (fun e=>f (LZ a e) ⟨g,e,rfl⟩) h) d.t d.a
theorem Tr.go_eq{C:Type}{b:(RD→C→Prop)→C→Prop}(a:Tr)(x:C):Tr.go b a x↔∃ h:a.t [],b (fun w=>Tr.go b ⟨LZ a.t w,a.a.inv ⟨h,w,rfl⟩,fun p q=>a.c (w :: p) q⟩) x:=Iff.of_eq (congrFun (Wn (r:=QL) (C:=fun _=>C→Prop) (fun t d x=>∃ h:t [],b (fun w=>d (LZ t w) ⟨h,w,rfl⟩) x) a.t a.a) x:)
theorem Tr.oG{C:Type}{b:(RD→C→Prop)→C→Prop}{x:C}(h:Tr.go b .fin x):False:=by
 obtain⟨h,_⟩:=(Tr.go_eq _ _).1 h;exact h
theorem Tr.On{C:Type}{b:(RD→C→Prop)→C→Prop}{f:RD→Tr}{x:C}:Tr.go b (.mk f) x↔b (fun w=>Tr.go b (f w)) x:=(Tr.go_eq _ _).trans ⟨fun⟨_,a⟩=>a,fun a=>⟨trivial,a⟩⟩
def vH (_:RM)(_:RD):Prop:=True
structure RelB(B:Nat→Prop)(w w1:RD):Prop where
 at_:∀ b:Nat,B b→w1.heap[b]? =w.heap[b]?
 size:w.heap.size≤w1.heap.size
 tape:w1.tape=w.tape
 os:w1.os=w.os
 output:w1.output=w.output
theorem RelB.refl(B:Nat→Prop)(w:RD):RelB B w w:=⟨fun _ _=>rfl,RG _,rfl,rfl,rfl⟩
theorem RelB.trans{B:Nat→Prop}{w e f:RD}(h:RelB B w e)(a:RelB B e f):RelB B w f:=⟨fun b d=>(a.at_ b d).trans (h.at_ b d),R4 h.size a.size,a.tape.trans h.tape,a.os.trans h.os,a.output.trans h.output⟩
theorem RelB.at(B:Nat→Prop)(w:RD)(d:Nat):RelB B w (w.at d):=⟨fun _ _=>rfl,RG _,rfl,rfl,rfl⟩
def cB (own:Nat→Prop)(w w':RD):Nat→Prop:=fun a=>own a∨(w.heap.size≤a∧a<w'.heap.size)
def EvW (S o:Nat→Prop)(e:SV):Prop:=match e.loc with
 | .cell a=>o a.block∨(S a.block∧e.write=RE)
 | .obj b=>o b∨(S b∧e.write=RE)
 | .mark m=>Neutral m
 |_=>True
structure lg(P0:RM)(S own:Nat→Prop)(w w':RD)(es:Array SV):Prop where
 keep:∀ b:Nat,b<w.heap.size→¬ own b→w'.heap[b]? =w.heap[b]?
 size:w.heap.size≤w'.heap.size
 tape:w'.tape=w.tape
 os:w'.os=w.os
 output:w'.output=w.output
 hp:vH P0 w→vH P0 w'
 evs:∀ e∈es,EvW S (cB own w w') e
structure JF(P0:RM)(w w':RD)(es:Array SV):Prop where
 size:w.heap.size≤w'.heap.size
 tape:w'.tape=w.tape
 os:w'.os=w.os
 output:w'.output=w.output
 hp:vH P0 w→vH P0 w'
 evs:∀ e∈es,BO w'.heap.size e
def Ra (P0 P:RM)(S:Nat→Prop)(c:Nat)(R:RD→(Nat→Prop)→List RB→So→RD→Prop)(own:Nat→Prop)(vs:List RB)(g:So)(w:RD):Prop:=g.status= .running∧
 ((∀ a,RelB (fun b=>S b∨own b) w a→∃ d e i,Sq P RE g a= .go d e i∧lg P0 S own a e i∧R a (cB own a e) vs d e)∨
 (∃ v k j o,vs=v :: k∧∀ a,RelB (fun b=>S b∨own b) w a→Sq P RE g a= .comm j #[scase c v o] RF .send a #[]∧R a own k (TR j SP) a)∨
 (vs=[]∧∃ d n,QuitsIn P n d∧mayWake P g=RF∧∀ a,RelB (fun b=>S b∨own b) w a→∀ h f s l m,a.heap[c]? =Ry (.chan h f RE s l m)→Sq P RE g a= .go d (a.setChan c h f RF s l m) #[⟨.obj c,RE,RF⟩,⟨.obj c,RF,RF⟩]))
def Wk (P0 P:RM)(S:Nat→Prop)(c:Nat)(e:Tr)(own:Nat→Prop)(vs:List RB)(g:So)(w:RD):Prop:=e.go (C:=(Nat→Prop)×List RB×So×RD) (fun b a=>Ra P0 P S c (fun w d v g f=>b w (d,v,g,f)) a.1 a.2.1 a.2.2.1 a.2.2.2) (own,vs,g,w)
theorem uK{P0 P:RM}{S:Nat→Prop}{c:Nat}{f:RD→Tr}{own:Nat→Prop}{vs:List RB}{g:So}{w:RD}:Wk P0 P S c (.mk f) own vs g w↔Ra P0 P S c (fun w=>Wk P0 P S c (f w)) own vs g w:=Tr.On
abbrev Md:Type:=Option ((Nat→Prop)×(Nat→Prop)×(Nat→Option (List RB)))
abbrev Md.ex:Md:=RA
abbrev Md.sh(S a:Nat→Prop)(b:Nat→Option (List RB)):Md:=Ry (S,a,b)
def fy (b:Nat→Option (List RB))(c:Nat)(l:Option (List RB)):Nat→Option (List RB):=fun a=>if a=c then l else b a
def Q9 (P0 P:RM)(Post:RB→RD→Prop)(R:RD→Md→So→RD→Prop):Md→So→RD→Prop
 |none,e,g=>
  (∀ a,AtRel g a→∃ f i h,Sq P RF e a= .go f i h∧f.status= .running∧JF P0 a i h∧R a Md.ex f i)∨
  (∀ a,AtRel g a→∃ v h,Sq P RF e a= .ended (.done v) a h∧(∀ p∈h,BO a.heap.size p)∧Post v a)∨
  (∃ S d,(∀ b,S b→b<g.heap.size∧¬ d b)∧(∀ b,d b→b<g.heap.size)∧∀ a,AtRel g a→R a (Md.sh S d (fun _=>RA)) e a)
 |some (S,d,j),e,g=>
  (∀ a,RelB (fun b=>S b∨d b) g a→∃ f i h,Sq P RF e a= .go f i h∧f.status= .running∧lg P0 S d a i h∧R a (Md.sh S (cB d a i) j) f i)∨
  (∃ c l m,d c∧l.length≤m∧j c=RA∧g.heap[c]? =Ry (.chan m #[] RE 0 0 RE)∧∀ a,RelB (fun b=>S b∨d b) g a→∃ f n r,Sq P RF e a= .spawn f n a #[]∧f.status= .running∧Wk P0 P S c r (fun _=>False) l n a∧R a (Md.sh S (fun b=>d b∧b≠c) (fy j c (Ry l))) f a)∨
  (∃ c o k l,j c=Ry l∧(k.frame=e.frame∧k.callers=e.callers∧k.dying=e.dying)∧∀ a,RelB (fun b=>S b∨d b) g a→Sq P RF e a= .comm k #[rcase c o] RF (.recv RF) a #[]∧
    match l with
    |v :: q=>R a (Md.sh S d (fy j c (Ry q))) (TR k (recvd RF v RF)) a
    | []=>R a (Md.sh S d (fy j c RA)) (TR k (recvd RF o RE)) a)∨
  ((∀ c,j c=RA)∧∀ a,RelB (fun b=>S b∨d b) g a→vH P0 a→R a Md.ex e a)
def Mn (P0 P:RM)(Post:RB→RD→Prop)(e:Tr)(d:Md)(g:So)(w:RD):Prop:=e.go (C:=Md×So×RD) (fun b a=>Q9 P0 P Post (fun w m g f=>b w (m,g,f)) a.1 a.2.1 a.2.2) (d,g,w)
theorem mv{P0 P:RM}{Post:RB→RD→Prop}{f:RD→Tr}{a:Md}{g:So}{w:RD}:Mn P0 P Post (.mk f) a g w↔Q9 P0 P Post (fun w=>Mn P0 P Post (f w)) a g w:=Tr.On
section
variable {P0 P:RM}{S:Nat→Prop}{c:Nat}{Post:RB→RD→Prop}
theorem Wk.rely{j:Tr}{own:Nat→Prop}{vs:List RB}{g:So}{w k:RD}(h:Wk P0 P S c j own vs g w)(i:RelB (fun b=>S b∨own b) w k):Wk P0 P S c j own vs g k:=by
 cases j using Tr.ind with
 |fin=>exact(Tr.oG h).elim
 |mk f=>
  obtain⟨p,h⟩:=uK.1 h;refine uK.2 ⟨p,?_⟩;rcases h with h|⟨v,q,m,s,e,h⟩|⟨e,l,r,o,n,h⟩
  ·exact .inl fun d a=>h d (i.trans a)
  ·exact .inr (.inl ⟨v,q,m,s,e,fun d a=>h d (i.trans a)⟩)
  ·exact .inr (.inr ⟨e,l,r,o,n,fun d a=>h d (i.trans a)⟩)
theorem ng{a b c:RD}(h:AtRel a b)(k:AtRel b c):AtRel a c:=atRel_trans a b c h k
theorem Mn.F2{e:Tr}{g:So}{w i:RD}(h:Mn P0 P Post e .ex g w)(d:AtRel w i):Mn P0 P Post e .ex g i:=by
 cases e using Tr.ind with
 |fin=>exact(Tr.oG h).elim
 |mk f=>
  have j:i.heap=w.heap:=by obtain⟨n,rfl⟩:=d;rfl
  refine mv.2 ?_;rcases mv.1 h with h|h|⟨S,k,l,a,m⟩
  ·exact .inl fun b a=>h b (ng d a)
  ·exact .inr (.inl fun b a=>h b (ng d a))
  ·exact .inr (.inr ⟨S,k,by rw[j];exact l,by rw[j];exact a,fun b a=>m b (ng d a)⟩)
theorem Mn.jm{k:Tr}{g:So}{j:Nat→Prop}{n:Nat→Option (List RB)}{w m:RD}(h:Mn P0 P Post k (.sh S j n) g w)(i:RelB (fun b=>S b∨j b) w m):Mn P0 P Post k (.sh S j n) g m:=by
 cases k using Tr.ind with
 |fin=>exact(Tr.oG h).elim
 |mk f=>
  refine mv.2 ?_;rcases mv.1 h with h|⟨c,l,o,e,a,q,r,h⟩|⟨c,s,p,l,e,a,h⟩|⟨e,h⟩
  ·exact .inl fun d a=>h d (i.trans a)
  ·exact .inr (.inl ⟨c,l,o,e,a,q,(i.at_ c (.inr e)).trans r,fun d a=>h d (i.trans a)⟩)
  ·exact .inr (.inr (.inl ⟨c,s,p,l,e,a,fun d a=>h d (i.trans a)⟩))
  ·exact .inr (.inr (.inr ⟨e,fun d a=>h d (i.trans a)⟩))
end
theorem Mn.cast{P0 P:RM}{Post:RB→RD→Prop}{b tr':Tr}{a:Md}{g:So}{w:RD}(e:b=tr')(h:Mn P0 P Post tr' a g w):Mn P0 P Post b a g w:=e▸h
theorem Wk.cast{P0 P:RM}{S:Nat→Prop}{c:Nat}{a tr':Tr}{own:Nat→Prop}{vs:List RB}{g:So}{w:RD}(e:a=tr')(h:Wk P0 P S c tr' own vs g w):Wk P0 P S c a own vs g w:=e▸h
def Down (n:Nat)(d eI:Nat→Tr):Prop:=∃ a,a<n∧(∃ f e,eI a= .mk f∧d a=f e)∧∀ b,b≠a→d b=eI b
theorem JL:∀ (n:Nat) (eI:Nat→Tr),Acc (Down n) eI:=by
 intro n
 induction n with
 |zero=>exact fun eI=>⟨_,fun d e=>by obtain⟨b,q,_⟩:=e;omega⟩
 |succ n r=>
  have t:∀ (l:Tr) (eI:Nat→Tr),eI n=l→Acc (Down (n+1)) eI:=by
   intro l
   induction l using Tr.ind with
   |fin=>
    intro eI;have o:=r eI
    induction o with
    |intro eI _ p=>
     intro h;refine⟨_,fun d e=>?_⟩;obtain⟨b,q,⟨f,j,a,k⟩,g⟩:=e;by_cases i:b=n
     ·subst i;rw[h] at a;exact(Tr.OO a).elim
     ·exact p d ⟨b,by omega,⟨f,j,a,k⟩,g⟩ ((g n (fun m=>i m.symm)).trans h)
   |mk u s=>
    intro eI;have o:=r eI
    induction o with
    |intro eI _ p=>
     intro h;refine⟨_,fun d e=>?_⟩;obtain⟨b,q,⟨f,j,a,k⟩,g⟩:=e;by_cases i:b=n
     ·subst i;rw[h] at a;exact s j d (k.trans (congrFun (Tr.mk_inj a) j).symm)
     ·exact p d ⟨b,by omega,⟨f,j,a,k⟩,g⟩ ((g n (fun m=>i m.symm)).trans h)
  exact fun eI=>t (eI n) eI rfl
theorem FC{P:RM}{m:Bool}{g g':So}(h1:g'.frame=g.frame)(a:g'.callers=g.callers)(b:g'.dying=g.dying)(w:RD):Sq P m g' w=Sq P m g w:=by
 obtain⟨f,c,s,e,j⟩:=g;obtain⟨i,d,l,h,k⟩:=g';simp only at h1 a b;subst h1 a b;rfl
structure Inv(P0 P:RM)(S O:Nat→Prop)(μ:Nat→Option (List RB))(gs:Array So)(w:RD)(t:Trace)(wk:Nat→Option uO)(vs:Nat→List RB)(q:Nat→Nat)(eI:Nat→Tr):Prop where
 yh:sr S wk w.heap.size t
 hp:vH P0 w
 quit:∀ i g,0<i→gs[i]? =Ry g→(∀ x,wk i=Ry x→x.pc≠RA)→QuitsIn P (q i) g
 act:∀ i g x,gs[i]? =Ry g→wk i=Ry x→x.pc=RA→Wk P0 P S x.c (eI i) x.own (vs i) g w
 idx:∀ i x,wk i=Ry x→0<i∧i<gs.size
 lR:∀ b,S b→b<w.heap.size∧¬ O b
 uX:∀ b,O b→b<w.heap.size
 low:∀ i x,wk i=Ry x→x.c<w.heap.size∧¬ S x.c∧¬ O x.c∧¬ x.own x.c∧∀ b,x.own b→b<w.heap.size∧¬ S b∧¬ O b
 qd:∀ i j x y,i≠j→wk i=Ry x→wk j=Ry y→x.c≠y.c∧¬ y.own x.c∧∀ b,x.own b→¬ y.own b
 chan:∀ i x,wk i=Ry x→∃ cap buf s r,w.heap[x.c]? =Ry (.chan cap buf x.pc.isSome s r RE)∧μ x.c=Ry (buf.toList ++ (if x.pc=RA then vs i else[]))∧(x.pc=RA→buf.size+(vs i).length≤cap)
 mu:∀ c l,μ c=Ry l→∃ i x,wk i=Ry x∧x.c=c
def jM {α:Type}(f:Nat→α)(i:Nat)(x:α):Nat→α:=fun a=>if a=i then x else f a
theorem cL{α:Type}(f:Nat→α)(i:Nat)(x:α):jM f i x i=x:=by simp[jM]
theorem dF{α:Type}(f:Nat→α){i j:Nat}(x:α)(h:j≠i):jM f i x j=f j:=by simp[jM,h]
theorem DK{e:SV}{b:Touch}(h:(T8 e).touch?= Ry b)(c:∀ m,e.loc= .mark m→Neutral m):b.loc=e.loc∧b.write=e.write:=by
 obtain⟨d,wr,a⟩:=e;cases d with
 |cell f=>simp[T8,Vl] at h;subst h;exact⟨rfl,rfl⟩
 |obj g=>cases wr<;>cases a<;>simp[T8,Vl] at h<;>subst h<;>exact⟨rfl,rfl⟩
 |output=>simp[T8,Vl] at h;subst h;exact⟨rfl,rfl⟩
 |goroutines=>simp[T8,Vl] at h;subst h;exact⟨rfl,rfl⟩
 |mark m=>
  have:T8 ⟨.mark m,wr,a⟩= .mark m:=by cases wr<;>cases a<;>rfl
  rw[this,(c m rfl).touch] at h;cases h
theorem we{S o:Nat→Prop}{e:SV}(h:EvW S o e):∀ m,e.loc= .mark m→Neutral m:=fun m a=>by
 unfold EvW at h;rw[a] at h;exact h
theorem Ct{n:Nat}{e:SV}(h:BO n e):∀ m,e.loc= .mark m→Neutral m:=fun m a=>by
 unfold BO at h;rw[a] at h;exact h
theorem zB{S o:Nat→Prop}{e:SV}{b:Touch}(h:EvW S o e)(g:(T8 e).touch?= Ry b)(c:b.loc.isMemory=RF):o (blk b.loc)∨(S (blk b.loc)∧b.write=RE):=by
 obtain⟨d,f⟩:=DK g (we h);unfold EvW at h;rw[d,f];rw[d] at c;cases a:e.loc with
 |cell i=>rw[a] at h;exact h
 |obj j=>rw[a] at h;exact h
 |_=>rw[a] at c;simp[Loc.isMemory] at c
theorem Hs{n:Nat}{e:SV}{b:Touch}(h:BO n e)(f:(T8 e).touch?= Ry b)(c:b.loc.isMemory=RF):blk b.loc<n:=by
 obtain⟨d,i⟩:=DK f (Ct h);unfold BO at h;rw[d];rw[d] at c;cases a:e.loc with
 |cell g=>rw[a] at h;exact h
 |obj j=>rw[a] at h;exact h
 |_=>rw[a] at c;simp[Loc.isMemory] at c
theorem mI{g:Nat}{fn:TH}{pos:String}{es:Array SV}(h:∀ e∈es,∀ m,e.loc= .mark m→Neutral m):Wordless (Va g fn pos es):=by
 intro j f m a;obtain⟨e,d,rfl⟩:=Uo f;obtain⟨i,wr,b⟩:=e;cases i with
 |mark c=>
  have:T8 ⟨.mark c,wr,b⟩= .mark c:=by cases wr<;>cases b<;>rfl
  simp only[this] at a;cases a;exact h _ d m rfl
 |obj k=>cases wr<;>cases b<;>simp[T8] at a
 |_=>simp[T8] at a
theorem kg{B:Nat→Prop}{w:RD}{c:Nat}(h:¬ B c)(cap:Nat)(b:Array RB)(d:Bool)(s r:Nat)(i:Bool):RelB B w (w.setChan c cap b d s r i):=
 ⟨fun a f=>by
  have g:c≠a:=fun e=>h (by rw[e];exact f);simp only[World.setChan];rw[Ty g],by simp[World.setChan],rfl,rfl,rfl⟩
theorem F8{P0:RM}{w:RD}(h:vH P0 w)(c cap:Nat)(a:Array RB)(b:Bool)(s r:Nat)(d:Bool):vH P0 (w.setChan c cap a b s r d):=trivial
theorem vm{w:RD}{c b:Nat}(h:b≠c)(cap:Nat)(a:Array RB)(d:Bool)(s r:Nat)(f:Bool):(w.setChan c cap a d s r f).heap[b]? =w.heap[b]? :=by
 simp only[World.setChan];rw[Ty (fun e=>h e.symm)]
theorem gQ(w:RD)(c cap:Nat)(a:Array RB)(b:Bool)(s r:Nat)(d:Bool):(w.setChan c cap a b s r d).heap.size=w.heap.size:=by simp[World.setChan]
theorem AH{w:RD}{c:Nat}(h:c<w.heap.size)(cap:Nat)(a:Array RB)(b:Bool)(s r:Nat)(d:Bool):(w.setChan c cap a b s r d).heap[c]? =Ry (.chan cap a b s r d):=by
 simp[World.setChan,h]
section
variable {P0 P:RM}{S O:Nat→Prop}{μ:Nat→Option (List RB)}{gs gs':Array So}{w w':RD}{t u:Trace}{wk:Nat→Option uO}{vs:Nat→List RB}{q:Nat→Nat}{eI:Nat→Tr}
theorem l8{k:Nat}{y:Option uO}{j:Nat}{z:uO}(e:jM wk k y j=Ry z):(j=k∧y=Ry z)∨(j≠k∧wk j=Ry z):=by
 unfold jM at e
 split at e
 ·rename_i a;exact .inl ⟨a,e⟩
 ·rename_i a;exact .inr ⟨a,e⟩
theorem Inv.at(h:Inv P0 P S O μ gs w t wk vs q eI)(d:Nat):Inv P0 P S O μ gs (w.at d) t wk vs q eI:=
 ⟨h.yh,h.hp,h.quit,fun f a g b e c=>(h.act f a g b e c).rely (RelB.at _ w d),h.idx,h.lR,h.uX,h.low,h.qd,h.chan,h.mu⟩
theorem Inv.Rp(h:Inv P0 P S O μ gs w t wk vs q eI)(k:gs'.size=gs.size)(g:∀ j,0<j→gs'[j]? =gs[j]?):Inv P0 P S O μ gs' w t wk vs q eI:=
 ⟨h.yh,h.hp,fun a d f e=>h.quit a d f ((g a f).symm.trans e),fun a d c e b i=>h.act a d c ((g a (h.idx a c b).1).symm.trans e) b i,fun a c b=>by rw[k];exact h.idx a c b,h.lR,h.uX,h.low,h.qd,h.chan,h.mu⟩
theorem Inv.slip(h:Inv P0 P S O μ gs w t wk vs q eI){i k:Nat}{g':So}(m:∀ x,wk i=Ry x→x.pc≠RA)(n:QuitsIn P k g')(o:gs'.size=gs.size)(l:gs'[i]? =Ry g')(f:∀ j,0<j→j≠i→gs'[j]? =gs[j]?):Inv P0 P S O μ gs' w t wk vs (jM q i k) eI:=by
 refine⟨h.yh,h.hp,fun j d e c a=>?_,fun j d x c a g=>?_,fun j x a=>by rw[o];exact h.idx j x a,h.lR,h.uX,h.low,h.qd,h.chan,h.mu⟩
 ·by_cases b:j=i
  ·subst b;rw[l] at c;cases c;rw[cL];exact n
  ·rw[dF _ _ b];exact h.quit j d e ((f j e b).symm.trans c) a
 ·by_cases b:j=i
  ·subst b;exact absurd g (m x a)
  ·exact h.act j d x ((f j (h.idx j x a).1 b).symm.trans c) a g
theorem Inv.Nd(h:Inv P0 P S O μ gs w t wk vs q eI){i:Nat}{x:uO}(e:wk i=Ry x){es:Array SV}(c:lg P0 S x.own w w' es):RelB (fun b=>S b∨O b) w w':=
 ⟨fun b a=>a.elim (fun a=>c.keep b (h.lR b a).1 fun d=>((h.low i x e).2.2.2.2 b d).2.1 a) (fun a=>c.keep b (h.uX b a) fun d=>((h.low i x e).2.2.2.2 b d).2.2 a),c.size,c.tape,c.os,c.output⟩
theorem Inv.PD(h:Inv P0 P S O μ gs w t wk vs q eI){i:Nat}{x:uO}(l:wk i=Ry x)(V:x.pc=RA){es:Array SV}{g':So}{tr':Tr}(g:lg P0 S x.own w w' es)(al:Wk P0 P S x.c tr' (cB x.own w w') (vs i) g' w')(W:gs'.size=gs.size)(ao:gs'[i]? =Ry g')(U:∀ j,0<j→j≠i→gs'[j]? =gs[j]?)(fn:TH)(pos:String):
 Inv P0 P S O μ gs' w' (t ++ Va i fn pos es) (jM wk i (Ry ⟨x.c,cB x.own w w',RA⟩)) vs q (jM eI i tr'):=by
 obtain⟨Y,Z,a1,ab,E⟩:=h.low i x l;have N:∀ b,cB x.own w w' b→¬ S b:=fun b a r=>a.elim (fun a=>(E b a).2.1 r) fun a=>by have:=(h.lR b r).1;omega
 have ae:∀ b,cB x.own w w' b→¬ O b:=fun b a r=>a.elim (fun a=>(E b a).2.2 r) fun a=>by have:=h.uX b r;omega
 have C:∀ j f,j≠i→wk j=Ry f→∀ b,cB x.own w w' b→¬ f.own b∧b≠f.c:=fun j f k d b a=>a.elim (fun a=>⟨(h.qd i j x f (fun e=>k e.symm) l d).2.2 b a,fun e=>(h.qd j i f x k d l).2.1 (e▸a)⟩) fun a=>⟨fun n=>by have:=((h.low j f d).2.2.2.2 b n).1;omega,fun e=>by have:=(h.low j f d).1;omega⟩;have Q:∀ b,cB x.own w w' b→b<w'.heap.size:=fun b a=>a.elim (fun a=>RK (E b a).1 g.size) (fun a=>a.2);refine⟨?_,g.hp h.hp,fun j I M k R=>?_,fun j I f k d aw=>?_,fun j f d=>?_,fun b a=>⟨RK (h.lR b a).1 g.size,(h.lR b a).2⟩,fun b a=>RK (h.uX b a) g.size,fun j f d=>?_,fun j y f F p d X=>?_,fun j f d=>?_,fun c a0 am=>?_⟩
 ·refine h.yh.PD l V (fun b a=>.inl a) (fun b a=>a.imp id And.left) (fun a6 K=>by obtain⟨e,_,rfl⟩:=Uo K;rfl) (mI fun e J=>we (g.evs e J)) g.size N Z (fun j f k d=>⟨C j f k d,(h.qd i j x f (fun e=>k e.symm) l d).2.1,(h.qd i j x f (fun e=>k e.symm) l d).1,fun b a=>⟨fun n=>((h.low j f d).2.2.2.2 b n).2.1 a,fun e=>(h.low j f d).2.1 (e▸a)⟩⟩) fun a6 K b a ar=>?_;obtain⟨e,J,rfl⟩:=Uo K;rcases zB (g.evs e J) a ar with o|o
  ·exact⟨Q _ o,.inl o⟩
  ·exact⟨RK (h.lR _ o.1).1 g.size,.inr (.inr o)⟩
 ·by_cases e:j=i
  ·subst e;exact absurd rfl (R ⟨x.c,cB x.own w w',RA⟩ (cL _ _ _))
  ·exact h.quit j I M ((U j M e).symm.trans k) fun f d=>R f (by rw[dF _ _ e];exact d)
 ·rcases l8 d with⟨rfl,e⟩|⟨m,d⟩
  ·cases e;rw[ao] at k;cases k;rw[cL];exact al
  ·rw[dF _ _ m];refine(h.act j I f ((U j (h.idx j f d).1 m).symm.trans k) d aw).rely ⟨fun b a=>?_,g.size,g.tape,g.os,g.output⟩;rcases a with a|a
   ·exact g.keep b (h.lR b a).1 fun n=>(E b n).2.1 a
   ·exact g.keep b ((h.low j f d).2.2.2.2 b a).1 fun n=>(h.qd i j x f (fun e=>m e.symm) l d).2.2 b n a
 ·rcases l8 d with⟨rfl,e⟩|⟨m,d⟩
  ·rw[W];exact h.idx j x l
  ·rw[W];exact h.idx j f d
 ·rcases l8 d with⟨rfl,e⟩|⟨m,d⟩
  ·cases e;exact⟨RK Y g.size,Z,a1,fun a=>a.elim ab fun a=>by have:=a.1;dsimp only at this;omega,fun b a=>⟨Q b a,N b a,ae b a⟩⟩
  ·obtain⟨a2,a3,a4,a5,ad⟩:=h.low j f d;exact⟨RK a2 g.size,a3,a4,a5,fun b a=>⟨RK (ad b a).1 g.size,(ad b a).2⟩⟩
 ·rcases l8 d with⟨rfl,e⟩|⟨m,D⟩
  ·cases e;rcases l8 X with⟨rfl,e⟩|⟨T,v⟩
   ·exact absurd rfl p
   ·exact⟨(h.qd j y x F p l v).1,(h.qd j y x F p l v).2.1,fun b a=>(C y F T v b a).1⟩
  ·rcases l8 X with⟨rfl,e⟩|⟨T,v⟩
   ·cases e;exact⟨(h.qd j y f x p D l).1,fun a=>(C j f m D _ a).2 rfl,fun b a n=>(C j f m D b n).1 a⟩
   ·exact h.qd j y f F p D v
 ·rcases l8 d with⟨rfl,e⟩|⟨m,d⟩
  ·cases e;obtain⟨H,G,s,L,z,A,B⟩:=h.chan j x l;rw[V] at z A B;exact⟨H,G,s,L,(g.keep _ Y ab).trans z,A,B⟩
  ·obtain⟨H,G,s,L,z,A,B⟩:=h.chan j f d;exact⟨H,G,s,L,(g.keep _ (h.low j f d).1 (h.qd j i f x m d l).2.1).trans z,A,B⟩
 ·obtain⟨j,f,d,e⟩:=h.mu c a0 am;by_cases k:j=i
  ·subst k;rw[l] at d;cases d;exact⟨j,_,cL _ _ _,e⟩
  ·exact⟨j,f,by rw[dF _ _ k];exact d,e⟩
end
section
variable {P0 P:RM}{S O:Nat→Prop}{μ:Nat→Option (List RB)}{gs gs':Array So}{w w':RD}{t u:Trace}{wk:Nat→Option uO}{vs:Nat→List RB}{q:Nat→Nat}{eI:Nat→Tr}{B:Nat}
theorem sr.Qf(h:sr S wk B t)(g:Wordless u)(f:∀ b∈u,b.act.touch?= RA):sr S wk B (t ++ u):=by
 have k:∀ (c:List VL) (t:Trace),sr S wk B t→Wordless c.toArray→(∀ b∈c,b.act.touch?= RA)→sr S wk B (t ++ c.toArray):=by
  intro c
  induction c with
  |nil=>intro t h _ _;simpa using h
  |cons d c j=>
   intro t h g f;have i:t ++ (d :: c).toArray=(t ++ #[d]) ++ c.toArray:=by apply Array.ext';simp
   rw[i];refine j _ (h.mute (B':=B) (γ:=d.g) (fun b a=>by simp at a;rw[a]) (fun b a m e=>?_) (fun b a=>by simp at a;rw[a];exact f d (by simp)) (RG _)) (fun b a m e=>g b (by simp at a ⊢;exact .inr a) m e) fun b a=>f b (by simp[a]);simp at a;rw[a] at e;exact g d (by simp) m e
 have:=k u.toList t h (by simpa using g) (fun b a=>f b (by simpa using a));simpa using this
theorem tO(μ:Nat→Option (List RB))(c:Nat)(l:Option (List RB)):fy μ c l c=l:=by simp[fy]
theorem pX(μ:Nat→Option (List RB)){c j:Nat}(l:Option (List RB))(h:j≠c):fy μ c l j=μ j:=by simp[fy,h]
theorem Inv.comm(h:Inv P0 P S O μ gs w t wk vs q eI){i:Nat}{x:uO}(g:wk i=Ry x){cap s' r':Nat}{buf':Array RB}{vi':List RB}{tr':Tr}{g':So}(G:x.pc=RA→buf'.size+vi'.length≤cap)
 (F:x.pc=RA→Wk P0 P S x.c tr' x.own vi' g' w) (H:x.pc=RA→gs'[i]? =Ry g') (I:x.pc≠RA→gs'[i]? =gs[i]?) (s:∀ j,0<j→j≠i→gs'[j]? =gs[j]?) (K:gs'.size=gs.size) (L:Wordless u) (J:∀ R∈u,R.act.touch?= RA):
 Inv P0 P S O (fy μ x.c (Ry (buf'.toList ++ (if x.pc=RA then vi' else[])))) gs' (w.setChan x.c cap buf' x.pc.isSome s' r' RE) (t ++ u) wk (jM vs i vi') q (jM eI i tr'):=by
 obtain⟨N,v,V,Q,W⟩:=h.low i x g;have r:∀ j d,j≠i→wk j=Ry d→d.c≠x.c:=fun j d e b=>(h.qd j i d x e b g).1;refine⟨by rw[gQ];exact h.yh.Qf L J,F8 h.hp _ _ _ _ _ _ _,fun j k m e n=>?_,fun j k d e b o=>?_,fun j d b=>by rw[K];exact h.idx j d b,fun l f=>by rw[gQ];exact h.lR l f,fun l f=>by rw[gQ];exact h.uX l f,fun j d b=>by rw[gQ];exact h.low j d b,h.qd,fun j d b=>?_,fun c M p=>?_⟩
 ·by_cases a:j=i
  ·subst a;exact h.quit j k m ((I (n x g)).symm.trans e) n
  ·exact h.quit j k m ((s j m a).symm.trans e) n
 ·by_cases a:j=i
  ·subst a;rw[g] at b;cases b;rw[H o] at e;cases e;rw[cL,cL];exact(F o).rely (kg (fun f=>f.elim v Q) _ _ _ _ _ _)
  ·rw[dF _ _ a,dF _ _ a];exact(h.act j k d ((s j (h.idx j d b).1 a).symm.trans e) b o).rely (kg (fun f=>f.elim v (h.qd i j x d (fun E=>a E.symm) g b).2.1) _ _ _ _ _ _)
 ·by_cases a:j=i
  ·subst a;rw[g] at b;cases b;exact⟨cap,buf',s',r',AH N _ _ _ _ _ _,by rw[tO,cL],by rw[cL];exact G⟩
  ·obtain⟨D,y,U,T,z,A,C⟩:=h.chan j d b;refine⟨D,y,U,T,(vm (r j d a b) _ _ _ _ _ _).trans z,?_,by rw[dF _ _ a];exact C⟩;rw[pX _ _ (r j d a b),dF _ _ a];exact A
 ·by_cases a:c=x.c
  ·exact⟨i,x,g,a.symm⟩
  ·rw[pX _ _ a] at p;exact h.mu c M p
theorem Inv.close(h:Inv P0 P S O μ gs w t wk vs q eI){i:Nat}{x:uO}(g:wk i=Ry x)(A:x.pc=RA)(ad:vs i=[]){cap s r n:Nat}{v:Array RB}{g':So}{tr':Tr}(hc:w.heap[x.c]? =Ry (.chan cap v RE s r RE))(ab:QuitsIn P n g')(W:gs'[i]? =Ry g')(K:∀ j,0<j→j≠i→gs'[j]? =gs[j]?)(M:gs'.size=gs.size)(fn:TH)(pos:String):
 Inv P0 P S O μ gs' (w.setChan x.c cap v RF s r RE) (t ++ Va i fn pos #[⟨.obj x.c,RE,RF⟩,⟨.obj x.c,RF,RF⟩]) (jM wk i (Ry ⟨x.c,x.own,Ry (t.size+1)⟩)) vs (jM q i n) (jM eI i tr'):=by
 obtain⟨E,F,al,am,ao⟩:=h.low i x g;have X:∀ j b,j≠i→wk j=Ry b→b.c≠x.c:=fun j b e d=>(h.qd j i b x e d g).1;refine⟨?_,F8 h.hp _ _ _ _ _ _ _,fun j z J e Z=>?_,fun j z b e d L=>?_,fun j b d=>?_,fun p l=>by rw[gQ];exact h.lR p l,fun p l=>by rw[gQ];exact h.uX p l,fun j b d=>?_,fun j D b T o d N=>?_,fun j b d=>?_,fun c ae V=>?_⟩
 ·rw[gQ];exact h.yh.close g A E F fn pos fun j b e d=>⟨(h.qd i j x b (fun a=>e a.symm) g d).2.1,(h.qd i j x b (fun a=>e a.symm) g d).1⟩
 ·by_cases a:j=i
  ·subst a;rw[W] at e;cases e;rw[cL];exact ab
  ·rw[dF _ _ a];exact h.quit j z J ((K j J a).symm.trans e) fun b d=>Z b (by rw[dF _ _ a];exact d)
 ·rcases l8 d with⟨rfl,a⟩|⟨k,f⟩
  ·cases a;cases L
  ·rw[dF _ _ k];exact(h.act j z b ((K j (h.idx j b f).1 k).symm.trans e) f L).rely (kg (fun l=>l.elim F (h.qd i j x b (fun U=>k U.symm) g f).2.1) _ _ _ _ _ _)
 ·rcases l8 d with⟨rfl,a⟩|⟨k,f⟩
  ·rw[M];exact h.idx j x g
  ·rw[M];exact h.idx j b f
 ·rcases l8 d with⟨rfl,a⟩|⟨k,f⟩
  ·cases a;rw[gQ];exact⟨E,F,al,am,ao⟩
  ·rw[gQ];exact h.low j b f
 ·rcases l8 d with⟨rfl,a⟩|⟨k,f⟩
  ·cases a;rcases l8 N with⟨rfl,a⟩|⟨Y,C⟩
   ·exact absurd rfl o
   ·exact h.qd j D x T o g C
  ·rcases l8 N with⟨rfl,a⟩|⟨Y,C⟩
   ·cases a;exact h.qd j D b x o f g
   ·exact h.qd j D b T o f C
 ·rcases l8 d with⟨rfl,a⟩|⟨k,f⟩
  ·cases a;obtain⟨I,G,R,Q,m,y,H⟩:=h.chan j x g;rw[A] at m;have:=m.symm.trans hc;cases this;refine⟨cap,v,s,r,AH E _ _ _ _ _ _,?_,fun a=>by cases a⟩;rw[y,A,ad];rfl
  ·obtain⟨I,G,R,Q,m,y,H⟩:=h.chan j b f;exact⟨I,G,R,Q,(vm (X j b k f) _ _ _ _ _ _).trans m,y,H⟩
 ·obtain⟨j,b,d,a⟩:=h.mu c ae V;by_cases e:j=i
  ·subst e;rw[g] at d;cases d;exact⟨j,_,cL _ _ _,a⟩
  ·exact⟨j,b,by rw[dF _ _ e];exact d,a⟩
theorem Inv.main(h:Inv P0 P S O μ gs w t wk vs q eI){es:Array SV}(d:lg P0 S O w w' es)(R:gs'.size=gs.size)(F:∀ j,0<j→gs'[j]? =gs[j]?)(fn:TH)(pos:String):
 Inv P0 P S (cB O w w') μ gs' w' (t ++ Va 0 fn pos es) wk vs q eI:=by
 have E:∀ b,cB O w w' b→b<w'.heap.size:=fun b a=>a.elim (fun a=>RK (h.uX b a) d.size) (fun a=>a.2);have p:∀ j c,wk j=Ry c→∀ b,cB O w w' b→¬ c.own b∧b≠c.c:=fun j c e b a=>by
  obtain⟨y,l,z,A,k⟩:=h.low j c e;rcases a with a|a
  ·exact⟨fun f=>(k b f).2.2 a,fun g=>z (g▸a)⟩
  ·exact⟨fun f=>by have:=(k b f).1;omega,fun g=>by omega⟩
 refine⟨?_,d.hp h.hp,fun j m D o N=>h.quit j m D ((F j D).symm.trans o) N,fun j m c o e Q=>?_,fun j c e=>by rw[R];exact h.idx j c e,fun b a=>⟨RK (h.lR b a).1 d.size,fun f=>f.elim (h.lR b a).2 fun f=>by have:=(h.lR b a).1;omega⟩,E,fun j c e=>?_,h.qd,fun j c e=>?_,h.mu⟩
 ·refine h.yh.main (fun T r=>by obtain⟨g,_,rfl⟩:=Uo r;rfl) (mI fun g n=>we (d.evs g n)) d.size fun T r b a M=>?_;obtain⟨g,n,rfl⟩:=Uo r;rcases zB (d.evs g n) a M with i|i
  ·exact⟨E _ i,fun x C v=>p x C v _ i,fun G=>absurd i (fun f=>f.elim (h.lR _ G).2 fun f=>by have:=(h.lR _ G).1;omega)⟩
  ·refine⟨RK (h.lR _ i.1).1 d.size,fun x C v=>?_,fun _=>i.2⟩;obtain⟨y,l,z,A,k⟩:=h.low x C v;exact⟨fun f=>(k _ f).2.1 i.1,fun g=>l (g▸i.1)⟩
 ·refine(h.act j m c ((F j (h.idx j c e).1).symm.trans o) e Q).rely ⟨fun b a=>?_,d.size,d.tape,d.os,d.output⟩;rcases a with a|a
  ·exact d.keep b (h.lR b a).1 (h.lR b a).2
  ·exact d.keep b ((h.low j c e).2.2.2.2 b a).1 ((h.low j c e).2.2.2.2 b a).2.2
 ·obtain⟨y,l,z,A,k⟩:=h.low j c e;exact⟨RK y d.size,l,fun f=>(p j c e _ f).2 rfl,A,fun b a=>⟨RK (k b a).1 d.size,(k b a).2.1,fun f=>(p j c e b f).1 a⟩⟩
 ·obtain⟨L,H,s,U,I,J,K⟩:=h.chan j c e;exact⟨L,H,s,U,(d.keep _ (h.low j c e).1 (h.low j c e).2.2.1).trans I,J,K⟩
theorem Inv.spawn(h:Inv P0 P S O μ gs w t wk vs q eI){c cap:Nat}{l:List RB}{z:So}{tr':Tr}(p:O c)(Y:l.length≤cap)(a3:μ c=RA)(hc:w.heap[c]? =Ry (.chan cap #[] RE 0 0 RE))(W:Wk P0 P S c tr' (fun _=>False) l z w)(K:gs'.size=gs.size+1)(V:0<gs.size)(X:gs'[gs.size]? =Ry z)(J:∀ j,0<j→j<gs.size→gs'[j]? =gs[j]?)(fn C:TH)(pos:String):
 Inv P0 P S (fun b=>O b∧b≠c) (fy μ c (Ry l)) gs' w (t ++ #[{g:=0,fn,pos,act:=.go gs.size},{g:=gs.size,fn:=C,pos,act:=.start}]) (jM wk gs.size (Ry ⟨c,fun _=>False,RA⟩)) (jM vs gs.size l) q (jM eI gs.size tr'):=by
 have H:wk gs.size=RA:=by
  cases d:wk gs.size with
  |none=>rfl
  |some a2=>have:=(h.idx _ a2 d).2;omega
 have E:¬ S c:=fun al=>(h.lR c al).2 p;have ab:∀ j a,wk j=Ry a→j≠gs.size:=fun j a e d=>by rw[d,H] at e;cases e
 have r:∀ j a,wk j=Ry a→c≠a.c:=fun j a e d=>(h.low j a e).2.2.1 (d▸p);refine⟨?_,h.hp,fun j g D o I=>?_,fun j g a o e ae=>?_,fun j a e=>?_,fun b i=>⟨(h.lR b i).1,fun f=>(h.lR b i).2 f.1⟩,fun b i=>h.uX b i.1,fun j a e=>?_,fun j v a y G e L=>?_,fun j a e=>?_,fun A m F=>?_⟩
 ·exact h.yh.spawn H fn C pos (fun j a e=>⟨fun f=>((h.low j a e).2.2.2.2 c f).2.2 p,r j a e,fun b i=>⟨fun f=>((h.low j a e).2.2.2.2 b f).2.1 i,fun d=>(h.low j a e).2.1 (d▸i)⟩⟩) E
 ·by_cases d:j=gs.size
  ·subst d;exact absurd rfl (I ⟨c,fun _=>False,RA⟩ (cL _ _ _))
  ·have Z:j<gs.size:=by
    have:=(RH.1 o).1;omega
   exact h.quit j g D ((J j D Z).symm.trans o) fun a e=>I a (by rw[dF _ _ d];exact e)
 ·rcases l8 e with⟨rfl,d⟩|⟨n,k⟩
  ·cases d;rw[X] at o;cases o;rw[cL,cL];exact W
  ·rw[dF _ _ n,dF _ _ n];exact h.act j g a ((J j (h.idx j a k).1 (h.idx j a k).2).symm.trans o) k ae
 ·rcases l8 e with⟨rfl,d⟩|⟨n,k⟩
  ·rw[K];exact⟨V,by omega⟩
  ·have:=h.idx j a k;rw[K];exact⟨this.1,by omega⟩
 ·rcases l8 e with⟨rfl,d⟩|⟨n,k⟩
  ·cases d;exact⟨h.uX c p,E,fun f=>f.2 rfl,fun f=>f,fun b i=>i.elim⟩
  ·obtain⟨am,ao,ar,aw,x⟩:=h.low j a k;exact⟨am,ao,fun f=>ar f.1,aw,fun b i=>⟨(x b i).1,(x b i).2.1,fun f=>(x b i).2.2 f.1⟩⟩
 ·rcases l8 e with⟨rfl,d⟩|⟨n,k⟩
  ·cases d;rcases l8 L with⟨rfl,d⟩|⟨ad,s⟩
   ·exact absurd rfl G
   ·exact⟨r v y s,fun f=>((h.low v y s).2.2.2.2 c f).2.2 p,fun b i=>i.elim⟩
  ·rcases l8 L with⟨rfl,d⟩|⟨ad,s⟩
   ·cases d;exact⟨fun d=>r j a k d.symm,fun f=>f,fun b i f=>f⟩
   ·exact h.qd j v a y G k s
 ·rcases l8 e with⟨rfl,d⟩|⟨n,k⟩
  ·cases d;exact⟨cap,#[],0,0,hc,by rw[tO,cL];simp,by rw[cL];simpa using Y⟩
  ·obtain⟨T,M,a1,a0,N,Q,R⟩:=h.chan j a k;refine⟨T,M,a1,a0,N,?_,by rw[dF _ _ n];exact R⟩;rw[pX _ _ (fun d=>r j a k d.symm),dF _ _ n];exact Q
 ·by_cases d:A=c
  ·exact⟨gs.size,_,cL _ _ _,d.symm⟩
  ·rw[pX _ _ d] at F;obtain⟨j,a,e,U⟩:=h.mu A m F;exact⟨j,a,by rw[dF _ _ (ab j a e)];exact e,U⟩
theorem Inv.KJ(h:Inv P0 P S O μ gs w t wk vs q eI){i p:Nat}{x:uO}(k:wk i=Ry x)(r:x.pc=Ry p)(H:gs'.size=gs.size)(o:∀ j,0<j→gs'[j]? =gs[j]?)(fn:TH)(pos:String):
 Inv P0 P S O (fy μ x.c RA) gs' w (t ++ #[{g:=0,fn,pos,act:=.recvClosed x.c}]) (jM wk i RA) vs q eI:=by
 have e:∀ {j b},jM wk i RA j=Ry b→j≠i∧wk j=Ry b:=fun {j b} d=>by
  rcases l8 d with⟨_,d⟩|d
  ·cases d
  ·exact d
 refine⟨h.yh.KJ k r fn pos,h.hp,fun j g n l F=>?_,fun j g b l a G=>?_,fun j b a=>by rw[H];exact h.idx j b (e a).2,h.lR,h.uX,fun j b a=>h.low j b (e a).2,fun j J b M E a I=>h.qd j J b M E (e a).2 (e I).2,fun j b a=>?_,fun c K f=>?_⟩
 ·refine h.quit j g n ((o j n).symm.trans l) fun b a=>?_;by_cases d:j=i
  ·subst d;rw[k] at a;cases a;rw[r];simp
  ·exact F b (by rw[dF _ _ d];exact a)
 ·exact h.act j g b ((o j (h.idx j b (e a).2).1).symm.trans l) (e a).2 G
 ·obtain⟨C,v,s,L,y,z,A⟩:=h.chan j b (e a).2;exact⟨C,v,s,L,y,by rw[pX _ _ (h.qd j i b x (e a).1 (e a).2 k).1];exact z,A⟩
 ·by_cases d:c=x.c
  ·rw[d,tO] at f;cases f
  ·rw[pX _ _ d] at f;obtain⟨j,b,a,m⟩:=h.mu c K f;refine⟨j,b,?_,m⟩;rw[dF _ _ (fun D=>?_)]
   ·exact a
   ·subst D;rw[k] at a;cases a;exact d m.symm
end
def Ends (P:RM)(Post:RB→RD→Prop)(m:Machine)(t:Trace):Prop:=
 ∃ N a b c d,runNT P (N+1) m t=(.ended b c,d)∧runN P N m= .next a∧step P a= .ended b c∧Good P Post a b c d
section
variable {P0 P:RM}{Post:RB→RD→Prop}
theorem Ends.step{m m':Machine}{t ops:Trace}(h:stepT P m=(.next m',ops))(a:Ends P Post m' (t ++ ops)):Ends P Post m t:=by
 obtain⟨N,f,g,j,i,b,c,d,e⟩:=a;refine⟨N+1,f,g,j,i,?_,?_,d,e⟩
 ·rw[runNT,h];exact b
 ·rw[runN,Go.step,h];exact c
theorem Ends.now{m:Machine}{t ops:Trace}{o:Outcome}{w:RD}(h:stepT P m=(.ended o w,ops))(a:Good P Post m o w (t ++ ops)):Ends P Post m t:=
 ⟨0,m,o,w,t ++ ops,by rw[runNT,h],rfl,by rw[Go.step,h],a⟩
structure qJ(g0 g:So):Prop where
 frame:g0.frame=g.frame
 callers:g0.callers=g.callers
 dying:g0.dying=g.dying
theorem qJ.refl(g:So):qJ g g:=⟨rfl,rfl,rfl⟩
theorem qJ.step{a g:So}(h:qJ a g)(m:Bool)(w:RD):Sq P m a w=Sq P m g w:=FC h.frame h.callers h.dying w
section
variable {S O:Nat→Prop}{μ:Nat→Option (List RB)}{gs:Array So}{w:RD}{t:Trace}{wk:Nat→Option uO}{vs:Nat→List RB}{q:Nat→Nat}{eI:Nat→Tr}
theorem Inv.status(h:Inv P0 P S O μ gs w t wk vs q eI){i:Nat}{g:So}(e:0<i)(b:gs[i]? =Ry g):g.status= .running∨g.status= .finished:=by
 cases c:wk i with
 |none=>exact(h.quit i g e b fun d a=>by rw[c] at a;cases a).status
 |some d=>
  cases j:d.pc with
  |some l=>exact(h.quit i g e b fun m a=>by rw[c] at a;cases a;rw[j];simp).status
  |none=>
   have:=h.act i g d b c j;generalize eI i=k at this;cases k using Tr.ind with
   |fin=>exact(Tr.oG this).elim
   |mk f=>exact .inl (uK.1 this).1
theorem lZ{g g' o:So}{w':RD}(h:o.status= .running∨o.status= .finished):woken P g g' w' o=o:=by
 unfold woken
 split
 ·exact again_running _ h
 ·rfl
theorem kW{g g' g2:So}{w':RD}{c cap s r:Nat}{b:Array RB}{d:Bool}{z:RB}{a:CommShape}(hc:w'.heap[c]? =Ry (.chan cap b RE s r d)):woken P g g' w' (parked g2 #[rcase c z] a)=parked g2 #[rcase c z] a:=by
 unfold woken
 split
 ·exact again_recv_open hc
 ·rfl
theorem others(h:Inv P0 P S O μ gs w t wk vs q eI){i:Nat}{g g':So}{w':RD}{j:Nat}(b:0<j)(d:j≠i):((gs.map (woken P g g' w')).setIfInBounds i g')[j]? =gs[j]? :=by
 rw[Ty (fun a=>d a.symm),Array.getElem?_map];cases c:gs[j]? with
 |none=>rfl
 |some e=>rw[TG,lZ (h.status b c)]
theorem pK{i:Nat}{g g':So}{w':RD}(a:gs[i]? =Ry g):((gs.map (woken P g g' w')).setIfInBounds i g')[i]? =Ry g':=by
 rw[Array.getElem?_setIfInBounds_self_of_lt (by simpa using(RH.1 a).1)]
theorem C5{i:Nat}{g g' a:So}{w':RD}(c:i≠0)(b:gs[0]? =Ry a)(d:woken P g g' w' a=a):((gs.map (woken P g g' w')).setIfInBounds i g')[0]? =Ry a:=by
 rw[Ty c,Array.getElem?_map,b,TG,d]
theorem fV{i:Nat}{g g':So}{w':RD}:((gs.map (woken P g g' w')).setIfInBounds i g').size=gs.size:=by simp
theorem Inv.Q6(h:Inv P0 P S O μ gs w t wk vs q eI)(y:∀ c,μ c=RA):Inv P0 P (fun _=>False) (fun _=>False) (fun _=>RA) gs w t (fun _=>RA) vs q eI:=by
 have m:∀ a,wk a=RA:=fun a=>by
  cases b:wk a with
  |none=>rfl
  |some d=>
   obtain⟨A,z,s,E,_,i,_⟩:=h.chan a d b;rw[y] at i;cases i
 refine⟨⟨h.yh.wl,h.yh.clean,h.yh.low,fun a n u x=>?_,fun g d e=>(by cases e),fun g d e=>(by cases e),fun g d D e=>(by cases e)⟩,h.hp,fun a k p l _=>h.quit a k p l fun d j=>(by rw[m] at j;cases j),fun a k d l b=>(by cases b),fun a d b=>(by cases b),fun o f=>f.elim,fun o f=>f.elim,fun a d b=>(by cases b),fun a B d F _ b=>(by cases b),fun a d b=>(by cases b),fun c C v=>(by cases v)⟩;rcases h.yh.known a n u x with r|⟨g,d,e,_⟩
 ·exact .inl r
 ·rw[m] at e;cases e
theorem Inv.Q7(h:Inv P0 P (fun _=>False) (fun _=>False) (fun _=>RA) gs w t (fun _=>RA) vs q eI)(k:∀ b,S b→b<w.heap.size∧¬ O b)(j:∀ b,O b→b<w.heap.size):Inv P0 P S O (fun _=>RA) gs w t (fun _=>RA) vs q eI:=by
 refine⟨⟨h.yh.wl,h.yh.clean,h.yh.low,fun e g l n=>?_,fun f c d=>(by cases d),fun f c d=>(by cases d),fun f c v d=>(by cases d)⟩,h.hp,h.quit,fun e p c r a=>(by cases a),fun e c a=>(by cases a),k,j,fun e c a=>(by cases a),fun e s c x _ a=>(by cases a),fun e c a=>(by cases a),fun o u m=>(by cases m)⟩;rcases h.yh.known e g l n with i|⟨f,c,d,_⟩
 ·exact .inl i
 ·cases d
theorem Inv.Kr(h:Inv P0 P (fun _=>False) (fun _=>False) (fun _=>RA) gs w t (fun _=>RA) vs q eI){gs':Array So}{w':RD}{es:Array SV}(f:JF P0 w w' es)(y:gs'.size=gs.size)(s:∀ j,0<j→gs'[j]? =gs[j]?)(fn:TH)(pos:String):
 Inv P0 P (fun _=>False) (fun _=>False) (fun _=>RA) gs' w' (t ++ Va 0 fn pos es) (fun _=>RA) vs q eI:=by
 refine⟨?_,f.hp h.hp,fun b l m n a=>h.quit b l m ((s b m).symm.trans n) a,fun b l d n a=>(by cases a),fun b d a=>(by cases a),fun k c=>c.elim,fun k c=>c.elim,fun b d a=>(by cases a),fun b j d B _ a=>(by cases a),fun b d a=>(by cases a),fun x A o=>(by cases o)⟩;refine h.yh.main (fun v i=>by obtain⟨e,_,rfl⟩:=Uo i;rfl) (mI fun e g=>Ct (f.evs e g)) f.size fun v i k c r=>?_;obtain⟨e,g,rfl⟩:=Uo i;exact⟨Hs (f.evs e g) c r,fun z d p=>(by cases p),fun u=>u.elim⟩
theorem Inv.good(h:Inv P0 P (fun _=>False) (fun _=>False) (fun _=>RA) gs w t (fun _=>RA) vs q eI)(sl:Option (Nat×Nat)){v:RB}{es:Array SV}(g:∀ e∈es,BO w.heap.size e)(i:Post v w)(fn:TH)(pos:String)(w0:RD):Good P Post (crowd gs w0 sl) (.done v) w (t ++ Va 0 fn pos es):=by
 have b:=h.Kr (w':=w) (es:=es) ⟨RG _,rfl,rfl,rfl,id,g⟩ rfl (fun _ _=>rfl) fn pos;refine⟨v,rfl,i,b.yh.clean,b.yh.over,⟨fun f d=>?_,rfl⟩,fun a f d c=>?_⟩
 ·obtain⟨a,c⟩:=List.mem_iff_getElem?.1 d;rw[List.getElem?_drop] at c;exact⟨_,(h.quit (1+a) f (by omega) (by simpa [crowd] using c) fun j e=>by cases e).leaves⟩
 ·rw[b.yh.wl.deaf];exact⟨q a,(h.quit a f (by omega) d fun j e=>by cases e).hears _ 0⟩
end
end
section
variable {P0 P:RM}{Post:RB→RD→Prop}
def Mz (P0 P:RM)(Post:RB→RD→Prop)(k:Tr):Prop:=
 (∀ d c,Mn P0 P Post k .ex d c→∀ b g e h f eI a,b[0]? =Ry a→qJ a d→a.status= .running→Inv P0 P (fun _=>False) (fun _=>False) (fun _=>RA) b c e (fun _=>RA) h f eI→Ends P Post (crowd b c g) e)∧
 (∀ j i l d c,Mn P0 P Post k (.sh j i l) d c→∀ b g e m h f eI a,b[0]? =Ry a→qJ a d→a.status= .running→Inv P0 P j i l b c e m h f eI→Ends P Post (crowd b c g) e)
theorem DG{q:Nat→Nat}{i n k:Nat}(a:i<n)(b:q i=k+1):U3 n (jM q i k)+1=U3 n q:=by
 have c:U3 n (jM q i k)+(k+1)=U3 n q+k:=by
  have:=ConcN.sumTo_upd q k id a;simp only[id,b] at this;exact this
 omega
theorem sD{S d:Nat→Prop}{n:Nat→Option (List RB)}{a:Array So}{w:RD}{t:Trace}{l:Nat→Option uO}{vs:Nat→List RB}{q:Nat→Nat}{eI:Nat→Tr}(h:Inv P0 P S d n a w t l vs q eI){b:So}(e:a[0]? =Ry b)(f:awake b):∀ g∈a,awake g:=by
 intro g i;obtain⟨k,c,rfl⟩:=Array.mem_iff_getElem.1 i;rcases UM k with rfl|j
 ·have:a[0]=b:=by simpa [Sv c] using e
  rw[this];exact f
 ·exact awake_of ((h.status j (Sv c)).elim .inl fun m=>.inr (.inr m))
theorem M2{f:RD→Tr}(C:∀ w,Mz P0 P Post (f w)):∀ (n:Nat) g w,Mn P0 P Post (.mk f) .ex g w→∀ d sl t vs q eI c,U3 d.size q<n→d[0]? =Ry c→qJ c g→c.status= .running→Inv P0 P (fun _=>False) (fun _=>False) (fun _=>RA) d w t (fun _=>RA) vs q eI→Ends P Post (crowd d w sl) t:=by
 intro n
 induction n with
 |zero=>intro g w y d sl t vs q eI c Z;omega
 |succ n ab=>
  intro g w y d sl t vs q eI c Z j p k e;have K:=y;rcases mv.1 y with x|x|⟨E,D,G,H,I⟩
  case inr.inr=>exact(C w).2 E D _ g w (I w (atRel_refl w)) d sl t _ vs q eI c j p k (e.Q7 G H)
  all_goals
   obtain⟨h,i,a,m,b,o,B⟩:=crowd_pick (P:=P) (w:=w) (sl:=sl) (sD e j (awake_of (.inl k))) ⟨0,c,j,k⟩;rcases UM h with rfl|V
   case inr=>
    have r:=e.quit h i V b (fun am s=>by cases s);have R:(h == 0)=RE:=by simp;omega
    have T:h<d.size:=(RH.1 b).1;cases A:q h with
    |zero=>rw[A] at r;rw[show i.status= .finished from r] at o;cases o
    |succ ae=>
     rw[A] at r;rcases r with N|⟨_,u,Y,W⟩
     ·rw[N] at o;cases o
     ·have l:=runT_crowd_go (P:=P) (sl:=m) (i:=h) b (by rw[R];exact Y (w.at a));have ao:=DG T A;refine Ends.step (B.trans l) (ab g (w.at a) (K.F2 ⟨a,rfl⟩) _ m _ vs (jM q h ae) eI c (by rw[fV];omega) (C5 (by omega) j (lZ (.inl k))) p k ?_);rw[ofEvents_none,Array.append_empty];exact(e.at a).slip (fun am s=>by cases s) W fV (pK b) fun ad z S=>others e z S
  ·obtain rfl:i=c:=by rw[j] at b;exact(Vx b).symm
   obtain⟨u,al,F,Q,X,O,J⟩:=x (w.at a) ⟨a,rfl⟩;have l:=runT_crowd_go (P:=P) (sl:=m) (i:=0) b (show Sq P (0 == 0) i (w.at a)=_ from(p.step RF _).trans Q);refine Ends.step (B.trans l) ((C (w.at a)).1 u al J _ m _ vs q eI u (pK b) (qJ.refl _) X ?_);exact(e.at a).Kr O fV (fun ad z=>others e z (by omega)) _ _
  ·obtain rfl:i=c:=by rw[j] at b;exact(Vx b).symm
   obtain⟨v,F,L,M,U⟩:=x (w.at a) ⟨a,rfl⟩;have l:=runT_many_ended (P:=P) (sl:=m) (i:=0) b (show Sq P (0 == 0) i (w.at a)=_ from(p.step RF _).trans L);exact Ends.now (B.trans l) ((e.at a).good sl M U _ _ w)
end
end Cc
end Go.Proofs.YtjidbonhhpkljaaGreat
