/- Proved: at all its arguments the statement Kept answers true and leaves its arguments as they were; no condition beside the form's own reach. -/
import Derived.OpenShut
import Derived.Deep.Slices
import Derived.Deep.Strs
import Derived.SizedLaws
import Derived.Test.YtjidbonhhpkljaaGreatRows
import Derived.WalkKit
import Derived.ProofKit
import Derived.ShutString
import Derived.ChangeOld
import Derived.Below
import Derived.Conc.LeavingOf
import Derived.Conc.Holds
import Derived.Test.YtjidbonhhpkljaaGreatMe
set_option linter.all false
set_option maxRecDepth 100000
set_option maxHeartbeats 8000000
open Bool renaming false->T8,true->Z
open Go renaming TypeId->Ui,Value->U,maxLen->Ur
open Go.Addr renaming add->Ys,add_lit->VM
open Go.ChangeSpec renaming witness6->Y0
open Go.IntKind renaming bits->Yh,signed->XV
open Go.Proofs.Tryz renaming f4->VY,prog->T5,underlying22->XG,underlying43->WA
open Go.Value.slice renaming inj->X4
open List renaming all_eq_true->UA,mem_map->U8,mem_range->Vu,range->UL
open Nat renaming add_assoc->U6,le_refl->T9
open Option renaming none->K,some->I
set_option maxRecDepth 100000
set_option maxHeartbeats 8000000
namespace Go.Proofs.YtjidbonhhpkljaaGreat
namespace Cc
open Go Go.Conc
open Ec
def Tt:T5.cellsOf 3=1:=by kernel_rfl
def TY:T5.cellsOf 4=1:=by kernel_rfl
def T1:T5.cellsOf 9=1:=by kernel_rfl
def Tv:T5.cellsOf 59=3:=by kernel_rfl
def T0:T5.cellsOf 61=7:=by kernel_rfl
def Tw:T5.bytesOf 59=32:=by kernel_rfl
def TZ:T5.bytesOf 3=8:=by kernel_rfl
def Tu:T5.bytesOf 61=72:=by kernel_rfl
def rA {H:Type}(d:DataW H)(t:Ui):Prop:=∀a∈d.weights T5 t,a<=140737488351232
def rA.slice{H:Type}{es a:List (DataW H)}{t e:Ui}(h:rA (.slice es a) t)(b:T5.underlying t=I (.slice e)):es.length*T5.bytesOf e<=140737488351232:=by
 have:=h ((es.length+a.length)*T5.bytesOf e) (by simp[DataW.weights,b]);exact Nat.le_trans (Nat.mul_le_mul_right _ (Nat.le_add_right _ _)) this
def D1{n:Int}(h:(Lit.int .i64 n).wf=Z):lQ n:=by
 simp[Lit.wf,IntKind.min,IntKind.max,XV,Yh] at h;unfold lQ;omega
section
variable {H:Type}{enc:Ui×U->H}{w:World}{spare:Nat->Bool}{held:Bool}{fuel:Nat}{v:U}{x:DataW H×List MemPlace}
def sq(h:DataW.trod enc T5 w 0 spare held fuel 22 [v]=I x):
 ∃(l:List Int) (o:Option Addr) (b off cap:Nat),v= .slice o l.length cap/\l.length<=cap/\(0<l.length->o=I ⟨b,off,K⟩)/\(0<l.length->b<w.heap.size)/\(∀j,j<l.length->w.cell? ⟨b,off+j,K⟩=I (.int .i64 (l.getD j 0)))/\(rA x.1 22->l.length<=140737488351232)/\∀x∈l,lQ x:=by
 rcases Deep.open_slice1 XG Tt h with⟨e,_⟩|⟨i,a,cap,m,O,V,D,L,e,_,u,N,C,rfl,n⟩
 ·simp at e;subst e;exact⟨[],K,0,0,0,rfl,T9 _,λh=>by simp at h,λh=>by simp at h,λj h=>by simp at h,λ_=>by simp,λx h=>by simp at h⟩
 ·simp at e;subst e;have M:a<=m:=by rw[C];split<;>omega
  have z:∀d,d<a->∃p:Int,w.cell? (i.add d)=I (.int .i64 p)/\lQ p:=by
   intro d s;obtain⟨A,B⟩:=n d (by omega);obtain⟨G,y,_,F⟩:=DataW.trod_int Tryz.underlying3 B;simp at y;exact⟨G,by rw[A,y],D1 F⟩
  obtain⟨f,k⟩:=Deep.choose_lt z;have c:((UL a).map f).length=a:=by simp
  have t:∀x∈(UL a).map f,lQ x:=λx n=>by
   obtain⟨d,s,rfl⟩:=U8.1 n;exact(k d (Vu.1 s)).2
  by_cases r:0<a
  ·obtain⟨b,off,J⟩:=i;have E:J=K:=by simpa [Ys] using World.cell?_spot (k 0 r).1
   subst E;have q:∀j,j<a->bU w b (off+j) (.int .i64 (f j)):=λj g=>by have:=(k j g).1;rwa [VM] at this
   refine⟨(UL a).map f,I ⟨b,off,K⟩,b,off,cap,by rw[c],by rw[c];exact u,λ_=>rfl,λ_=>World.block_lt_of_cell? w ⟨b,off+0,K⟩ (q 0 r),?_,λhF=>?_,t⟩
   ·intro j g;rw[c] at g;rw[q j g];simp[g]
   ·have:=hF.slice XG;rw[TZ] at this;simp at this ⊢;omega
  ·refine⟨(UL a).map f,I i,0,0,cap,by rw[c],by rw[c];exact u,λh=>?_,λh=>?_,λj h=>?_,λ_=>?_,t⟩
   all_goals (rw[c] at *;omega)
def uG{fuel:Nat}{cs:List U}{x:DataW H×List MemPlace}(h:DataW.trod enc T5 w 0 spare held fuel 59 cs=I x):∃y:aE,cs=[.bool y.null,.int .i64 y.n,.string y.s]/\rD y/\y.s.size<=Ur:=by
 obtain⟨q,r,t,m,_,e,a,b,c⟩:=Deep.trod_struct3 Tryz.underlying59 h;rw[Tv] at e
 match cs,e with
 | [n,o,p],_=>
  simp[Tt,T1,TY] at a b c;obtain⟨j,d,_⟩:=DataW.trod_bool Tryz.underlying4 a;obtain⟨l,f,_,i⟩:=DataW.trod_int Tryz.underlying3 b;obtain⟨s,g,_,k⟩:=DataW.trod_string Tryz.underlying9 c;simp at d f g;subst d f g;exact⟨⟨j,l,s⟩,rfl,⟨(D1 i).1,(D1 i).2⟩,k⟩
def Gj(h:DataW.trod enc T5 w 0 spare held fuel 23 [v]=I x):
 ∃(l:List cG) (r:Option Addr) (b off cap:Nat),v= .slice r l.length cap/\l.length<=cap/\dD w r b off l/\(rA x.1 23->l.length<=140737488351232)/\∀c∈l,lQ c.col/\(rD c.low/\c.low.s.size<=Ur)/\rD c.high/\c.high.s.size<=Ur:=by
 rcases Deep.open_slice Tryz.underlying23 h with⟨p,_⟩|⟨i,g,cap,m,ap,D,al,p,_,O,an,Y,rfl,q⟩
 ·simp at p;subst p;exact⟨[],K,0,0,0,rfl,T9 _,⟨λh=>by simp at h,λh=>by simp at h,λa h=>by simp at h,λa h=>by simp at h,λa h=>by simp at h,λa h=>by simp at h,λa h=>by simp at h,λa h=>by simp at h,λa h=>by simp at h⟩,λ_=>by simp,λc h=>by simp at h⟩
 ·simp at p;subst p;have am:g<=m:=by rw[Y];split<;>omega
  rw[T0] at q;have S:∀e,e<g->∃c:cG,w.cell? (i.add (e*7))=I (.int .i64 c.col)/\w.cell? (i.add (e*7+1))=I (.bool c.low.null)/\w.cell? (i.add (e*7+2))=I (.int .i64 c.low.n)/\w.cell? (i.add (e*7+3))=I (.string c.low.s)/\w.cell? (i.add (e*7+4))=I (.bool c.high.null)/\w.cell? (i.add (e*7+5))=I (.int .i64 c.high.n)/\w.cell? (i.add (e*7+6))=I (.string c.high.s)/\lQ c.col/\(rD c.low/\c.low.s.size<=Ur)/\rD c.high/\c.high.s.size<=Ur:=by
   intro e M;obtain⟨R,T,U⟩:=q e (by omega);obtain⟨_,o,k⟩:=World.cells?_some T;obtain⟨a3,a4,a5,ao,_,_,E,F,G⟩:=Deep.trod_struct3 Tryz.underlying61 U
   match R,o with
   | [ar,av,aw,az,a0,a1,a2],_=>
    simp[Tt,Tv] at E F G;obtain⟨ad,Q,_,aa⟩:=DataW.trod_int Tryz.underlying3 E;obtain⟨ab,P,X⟩:=uG F;obtain⟨W,L,V⟩:=uG G;simp at Q P L;obtain⟨rfl,rfl,rfl⟩:=P;obtain⟨rfl,rfl,rfl⟩:=L;subst Q;have t:=k 0 (by omega);have u:=k 1 (by omega);have y:=k 2 (by omega);have z:=k 3 (by omega);have A:=k 4 (by omega);have B:=k 5 (by omega);have C:=k 6 (by omega);rw[Deep.add_add] at t u y z A B C;exact⟨⟨ad,ab,W⟩,by simpa using t,by simpa using u,by simpa using y,by simpa using z,by simpa using A,by simpa using B,by simpa using C,D1 aa,X,V⟩
  obtain⟨f,j⟩:= @Deep.choose_lt cG ⟨⟨0,⟨T8,0,⟨#[]⟩⟩,⟨T8,0,⟨#[]⟩⟩⟩⟩ _ _ S;have o:((UL g).map f).length=g:=by simp
  have N:∀c∈(UL g).map f,lQ c.col/\(rD c.low/\c.low.s.size<=Ur)/\rD c.high/\c.high.s.size<=Ur:=λx q=>by
   obtain⟨e,M,rfl⟩:=U8.1 q;exact(j e (Vu.1 M)).2.2.2.2.2.2.2
  have n:∀a,(d:a<((UL g).map f).length)->((UL g).map f)[a]=f a:=λa d=>by simp
  by_cases J:0<g
  ·obtain⟨b,off,ae⟩:=i;have Z:ae=K:=by simpa [Ys] using World.cell?_spot (j 0 J).1
   subst Z;have s:∀a,a<g->bU w b (off+a*7) (.int .i64 (f a).col):=λa d=>by have:=(j a d).1;rwa [VM] at this
   refine⟨(UL g).map f,I ⟨b,off,K⟩,b,off,cap,by rw[o],by rw[o];exact O,⟨λ_=>rfl,λ_=>World.block_lt_of_cell? w ⟨b,off+0*7,K⟩ (s 0 J),?_,?_,?_,?_,?_,?_,?_⟩,λhF=>?_,N⟩
   ·intro a d;rw[n a d];exact s a (by simpa using d)
   ·intro a d;rw[n a d];have:=(j a (by simpa using d)).2.1;rwa [VM,<-U6] at this
   ·intro a d;rw[n a d];have:=(j a (by simpa using d)).2.2.1;rwa [VM,<-U6] at this
   ·intro a d;rw[n a d];have:=(j a (by simpa using d)).2.2.2.1;rwa [VM,<-U6] at this
   ·intro a d;rw[n a d];have:=(j a (by simpa using d)).2.2.2.2.1;rwa [VM,<-U6] at this
   ·intro a d;rw[n a d];have:=(j a (by simpa using d)).2.2.2.2.2.1;rwa [VM,<-U6] at this
   ·intro a d;rw[n a d];have:=(j a (by simpa using d)).2.2.2.2.2.2.1;rwa [VM,<-U6] at this
   ·have:=hF.slice Tryz.underlying23;rw[Tu] at this;simp at this ⊢;omega
  ·refine⟨(UL g).map f,I i,0,0,cap,by rw[o],by rw[o];exact O,⟨λh=>?_,λh=>?_,λa h=>?_,λa h=>?_,λa h=>?_,λa h=>?_,λa h=>?_,λa h=>?_,λa h=>?_⟩,λ_=>?_,N⟩
   all_goals (rw[o] at *;omega)
def Gk(h:DataW.trod enc T5 w 0 spare held fuel 43 [v]=I x):
 ∃(l:List aE) (r:Option Addr) (b off cap:Nat),v= .slice r l.length cap/\sK w r b off l/\(rA x.1 43->l.length<=140737488351232)/\∀c∈l,rD c/\c.s.size<=Ur:=by
 rcases Deep.open_slice WA h with⟨j,_⟩|⟨i,e,cap,m,T,D,O,j,_,Q,S,G,rfl,o⟩
 ·simp at j;subst j;exact⟨[],K,0,0,0,rfl,⟨λh=>by simp at h,λh=>by simp at h,λa h=>by simp at h,λa h=>by simp at h,λa h=>by simp at h⟩,λ_=>by simp,λc h=>by simp at h⟩
 ·simp at j;subst j;have R:e<=m:=by rw[G];split<;>omega
  rw[Tv] at o;have C:∀g,g<e->∃c:aE,w.cell? (i.add (g*3))=I (.bool c.null)/\w.cell? (i.add (g*3+1))=I (.int .i64 c.n)/\w.cell? (i.add (g*3+2))=I (.string c.s)/\rD c/\c.s.size<=Ur:=by
   intro g A;obtain⟨P,E,F⟩:=o g (by omega);obtain⟨_,n,p⟩:=World.cells?_some E;obtain⟨N,rfl,L⟩:=uG F;have t:=p 0 (by omega);have u:=p 1 (by omega);have y:=p 2 (by omega);rw[Deep.add_add] at t u y;exact⟨N,by simpa using t,by simpa using u,by simpa using y,L⟩
  obtain⟨f,k⟩:= @Deep.choose_lt aE ⟨⟨T8,0,⟨#[]⟩⟩⟩ _ _ C;have n:((UL e).map f).length=e:=by simp
  have B:∀c∈(UL e).map f,rD c/\c.s.size<=Ur:=λx o=>by
   obtain⟨g,A,rfl⟩:=U8.1 o;exact(k g (Vu.1 A)).2.2.2
  have q:∀a,(d:a<((UL e).map f).length)->((UL e).map f)[a]=f a:=λa d=>by simp
  by_cases z:0<e
  ·obtain⟨b,off,M⟩:=i;have J:M=K:=by simpa [Ys] using World.cell?_spot (k 0 z).1
   subst J;have s:∀a,a<e->bU w b (off+a*3) (.bool (f a).null):=λa d=>by have:=(k a d).1;rwa [VM] at this
   refine⟨(UL e).map f,I ⟨b,off,K⟩,b,off,cap,by rw[n],⟨λ_=>rfl,λ_=>World.block_lt_of_cell? w ⟨b,off+0*3,K⟩ (s 0 z),?_,?_,?_⟩,λhF=>?_,B⟩
   ·intro a d;rw[q a d];exact s a (by simpa using d)
   ·intro a d;rw[q a d];have:=(k a (by simpa using d)).2.1;rwa [VM,<-U6] at this
   ·intro a d;rw[q a d];have:=(k a (by simpa using d)).2.2.1;rwa [VM,<-U6] at this
   ·have:=hF.slice WA;rw[Tw] at this;simp at this ⊢;omega
  ·refine⟨(UL e).map f,I i,0,0,cap,by rw[n],⟨λh=>?_,λh=>?_,λa h=>?_,λa h=>?_,λa h=>?_⟩,λ_=>?_,B⟩
   all_goals (rw[n] at *;omega)
end
end Cc
end Go.Proofs.YtjidbonhhpkljaaGreat
namespace Go.Proofs.YtjidbonhhpkljaaGreat.kept
open Go.ChangeShapes Go.WideShapes Go.ChangeAt Go.RowKit
open Go.ChangeMaps (open_string shut_string)
open Go.Conc Go.Proofs.YtjidbonhhpkljaaGreat.Cc
def own:ownKnob T5.godebug=K:=by kernel_rfl
def laidOut:laidOutB T5=Z:=by kernel_rfl
def lifted(os:Os)(c9:os.Started)(H:Type)(enc:Ui×U->H):
 ReturnsInLeavingWide {} Tryz.checked os 4 .any (Rows.keptSpec.pre6 enc T5 VY Rows.keptRow.domain T8) (Rows.keptSpec.post enc T5 VY T8 Z T8 T8):=by
 refine returnsInLeavingWide_of_change_sized (C:=Tryz.checked) own c9 Tryz.func4
  (Y0 (enc:=enc) (C:=Tryz.checked) T8 ⟨#[],#[aR,aR,aR,.int .i64 0,.bool T8,aR,aR],[]⟩ 8 (by kernel_rfl) (by kernel_rfl) (by kernel_rfl) (by kernel_rfl)) ?_
 intro b base args l bj df ca t d4 b5 _;have g:(DataW.weightsEach T5 (VY.params.toList++Rows.keptSpec.plain.varTypes T5) (l++bj)).all (·<=reachBytes)=Z:=b5;have f:∀(u:Nat) E v,VY.params[u]? =I E->args[u]? =I v->Value.okWide T5 b .any base E v:=ca;have bB:=t;obtain⟨cs,eh,br,bA,rfl,d5,d6⟩:=t;have s:DataW.TrodAll enc T5 b 0 (λ_=>Z) Z VY.params.toList args.toList l cs:=br;rw[Tryz.params4] at s f g;obtain⟨F,e1,ar,dq,cu,el,d3,rfl,rfl,n,c1⟩:=trodAll_cons s;obtain⟨G,e2,av,dr,cv,em,rfl,rfl,rfl,o,c2⟩:=trodAll_cons c1;obtain⟨J,e3,aw,ds,cx,en,rfl,rfl,rfl,p,c3⟩:=trodAll_cons c2;obtain⟨K,e4,dl,dt,ee,eo,rfl,rfl,rfl,bm,c4⟩:=trodAll_cons c3;obtain⟨L,e5,dp,du,ef,eq,rfl,rfl,rfl,bo,c5⟩:=trodAll_cons c4;obtain⟨M,e6,az,dv,cR,er,rfl,rfl,rfl,q,c6⟩:=trodAll_cons c5;obtain⟨N,e7,a0,dC,c0,es,rfl,rfl,rfl,r,c7⟩:=trodAll_cons c6;obtain⟨rfl,rfl,rfl⟩:=trodAll_nil c7;obtain rfl:args=#[F,G,J,K,L,M,N]:=by cases args;simp_all
 obtain⟨rfl,rfl⟩:=trodVars_none bA;obtain⟨P,d8,ae,rfl⟩:=okWide_slice XG (f 0 22 F rfl rfl);obtain⟨Q,d9,al,rfl⟩:=okWide_slice WA (f 1 43 G rfl rfl);obtain⟨R,ea,am,rfl⟩:=okWide_slice XG (f 2 22 J rfl rfl);obtain⟨S,eb,an,rfl⟩:=okWide_slice XG (f 5 22 M rfl rfl);obtain⟨T,ec,ao,rfl⟩:=okWide_slice Tryz.underlying23 (f 6 23 N rfl rfl);obtain⟨j,rfl,rfl,rfl,O⟩:=open_int Tryz.underlying3 (f 3 3 K rfl rfl) bm;obtain⟨k,rfl,rfl,rfl⟩:=open_bool Tryz.underlying4 (f 4 4 L rfl rfl) bo;have w:=n;have ck:∀e∈cu,e.block<b.heap.size:=by obtain⟨m,c⟩:=w;exact DataW.trod_lt m _ _ _ c
 have bs:rA ar 22:=λa d=>of_decide_eq_true (UA.1 g a (DataW.weights_mem_each (j:=0) Y Y a d));obtain⟨dO,b0⟩:=n;have x:=o;have cl:∀e∈cv,e.block<b.heap.size:=by obtain⟨m,c⟩:=x;exact DataW.trod_lt m _ _ _ c
 have bt:rA av 43:=λa d=>of_decide_eq_true (UA.1 g a (DataW.weights_mem_each (j:=1) Y Y a d));obtain⟨dT,b1⟩:=o;have y:=p;have cn:∀e∈cx,e.block<b.heap.size:=by obtain⟨m,c⟩:=y;exact DataW.trod_lt m _ _ _ c
 have bu:rA aw 22:=λa d=>of_decide_eq_true (UA.1 g a (DataW.weights_mem_each (j:=2) Y Y a d));obtain⟨d0,b2⟩:=p;have z:=q;have co:∀e∈cR,e.block<b.heap.size:=by obtain⟨m,c⟩:=z;exact DataW.trod_lt m _ _ _ c
 have bv:rA az 22:=λa d=>of_decide_eq_true (UA.1 g a (DataW.weights_mem_each (j:=5) Y Y a d));obtain⟨d1,b3⟩:=q;have A:=r;have cp:∀e∈c0,e.block<b.heap.size:=by obtain⟨m,c⟩:=A;exact DataW.trod_lt m _ _ _ c
 have bx:rA a0 23:=λa d=>of_decide_eq_true (UA.1 g a (DataW.weights_mem_each (j:=6) Y Y a d));obtain⟨d2,b4⟩:=r;obtain⟨B,d7,cb,gN,fG,a1,-,cc,cd,cf,ch,ci⟩:=sq b0;obtain⟨C,e0,da,kq,gQ,a2,db,dc,dd⟩:=Gk b1;obtain⟨dV,dE,a6,ji,bX,a3,-,a7,a8,a9,ba,bb⟩:=sq b2;obtain⟨ah,dk,ap,bD,aJ,a4,V,W,X,aa,ab,ad⟩:=sq b3;obtain⟨D,et,c8,bg,aM,a5,bc,bd,be,bi⟩:=Gj b4;obtain⟨rfl,rfl,rfl⟩:=X4 a1;obtain⟨rfl,rfl,rfl⟩:=X4 a2;obtain⟨rfl,rfl,rfl⟩:=X4 a3;obtain⟨rfl,rfl,rfl⟩:=X4 a4;obtain⟨rfl,rfl,rfl⟩:=X4 a5;obtain⟨eQ,b6⟩:=O4 (Post:=λv i=>Rows.keptSpec.post enc T5 VY T8 Z T8 T8 b #[.slice P B.length ae,.slice Q C.length al,.slice R dV.length am,.int .i64 j,.bool k,.slice S ah.length an,.slice T D.length ao] v i) (kinds:=B) (raw:=C) (dV:=dV) (Fw:=j) (bo:=k) (ah:=ah) (rs:=D) (kb:=cb) (gN:=gN) (vb:=da) (kq:=kq) (eb:=a6) (ji:=ji) (cb:=ap) (bD:=bD) (rb:=c8) (bg:=bg) (w0:=b) (by have:=ch bs;unfold Ur;omega) (by have:=dc bt;unfold Ur;omega) (by have:=ba bu;unfold Ur;omega) ci bb dd (D1 O) ad bi (by have:=ab bv;unfold Ur;omega) V (by have:=be bx;unfold Ur;omega) bc ⟨cc,cd,cf⟩ db ⟨a7,a8,a9⟩ W X aa bd trivial (λi h=>by
  have dh:aP b i:=⟨h.os,h.tape,h.output,h.size,h.at_⟩;exact⟨_,_,_,[],_,[],bB,trodAll_mk1 (shut_bool Tryz.underlying4 _),(trodAll_cons_mk (Below.trod laidOut (by kernel_rfl) (of_decide_eq_true (by kernel_rfl)) w dh ck) (trodAll_cons_mk (Below.trod laidOut (by kernel_rfl) (of_decide_eq_true (by kernel_rfl)) x dh cl) (trodAll_cons_mk (Below.trod laidOut (by kernel_rfl) (of_decide_eq_true (by kernel_rfl)) y dh cn) (trodAll_cons_mk (shut_int Tryz.underlying3 O) (trodAll_cons_mk (shut_bool Tryz.underlying4 _) (trodAll_cons_mk (Below.trod laidOut (by kernel_rfl) (of_decide_eq_true (by kernel_rfl)) z dh co) (trodAll_cons_mk (Below.trod laidOut (by kernel_rfl) (of_decide_eq_true (by kernel_rfl)) A dh cp) trodAll_mk0))))))),rfl,dh.frame _,λbl=>by cases bl⟩)
 exact EF b6 trivial
def over:Rows.keptRow.holds Tryz.pinned (OpenSpec.ofChange Rows.keptSpec):=
 OpenClaim.holds_of_wide_leaving 4 VY Y Y Y Y Y Y Y ⟨rfl,rfl,rfl,rfl,rfl⟩ Y Y Y Y Y (by kernel_rfl) Tryz.func4 (by kernel_rfl)
  (of_decide_eq_true (by kernel_rfl)) (by unfold Func.isWrapper;first|(rw[if_pos (by decide +kernel)];kernel_rfl)|(rw[if_neg (by decide +kernel)];exact⟨rfl,rfl⟩))
  (λc d a b _=>lifted c d a b)
end Go.Proofs.YtjidbonhhpkljaaGreat.kept
namespace Go.Proofs.YtjidbonhhpkljaaGreat
theorem kept_holds:Rows.KeptSaid:=kept.over
end Go.Proofs.YtjidbonhhpkljaaGreat
