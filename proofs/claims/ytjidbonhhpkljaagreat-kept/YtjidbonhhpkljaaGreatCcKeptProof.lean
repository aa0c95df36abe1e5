/- Proved: at all its arguments the statement Kept answers true and leaves its arguments as they were; no condition beside the form's own reach. -/
import Derived.OpenShut
import Derived.Deep.Slices
import Derived.Deep.Strs
import Derived.SizedLaws
import Derived.Test.YtjidbonhhpkljaaGreatRows
import Derived.WalkKit
import Derived.ProofKit
import Derived.ShutString
import Derived.ChangeOld
import Derived.Below
import Derived.Conc.LeavingOf
import Derived.Conc.Holds
import Derived.Test.YtjidbonhhpkljaaGreatMe
set_option linter.all false
set_option maxRecDepth 100000
set_option maxHeartbeats 8000000
open Bool renaming false->T7,true->Z
open Go renaming TypeId->Uh,Value->U,maxLen->Uq
open Go.Addr renaming add->Yr,add_lit->VL
open Go.ChangeSpec renaming witness6->YZ
open Go.IntKind renaming bits->Yg,signed->XU
open Go.Proofs.Tryz renaming f4->VX,prog->T4,underlying22->XE,underlying43->Wz
open Go.Value.slice renaming inj->X3
open List renaming all_eq_true->Uz,mem_map->U7,mem_range->Vt,range->UK
open Nat renaming add_assoc->U5,le_refl->T8
open Option renaming none->K,some->I
set_option maxRecDepth 100000
set_option maxHeartbeats 8000000
namespace Go.Proofs.YtjidbonhhpkljaaGreat
namespace Cc
open Go Go.Conc
open Ec
def Ts:T4.cellsOf 3=1:=by kernel_rfl
def TX:T4.cellsOf 4=1:=by kernel_rfl
def T0:T4.cellsOf 9=1:=by kernel_rfl
def Tu:T4.cellsOf 59=3:=by kernel_rfl
def TZ:T4.cellsOf 61=7:=by kernel_rfl
def Tv:T4.bytesOf 59=32:=by kernel_rfl
def TY:T4.bytesOf 3=8:=by kernel_rfl
def Tt:T4.bytesOf 61=72:=by kernel_rfl
def rz {H:Type}(d:DataW H)(t:Uh):Prop:=∀a∈d.weights T4 t,a<=140737488351232
def rz.slice{H:Type}{es a:List (DataW H)}{t e:Uh}(h:rz (.slice es a) t)(b:T4.underlying t=I (.slice e)):es.length*T4.bytesOf e<=140737488351232:=by
 have:=h ((es.length+a.length)*T4.bytesOf e) (by simp[DataW.weights,b]);exact Nat.le_trans (Nat.mul_le_mul_right _ (Nat.le_add_right _ _)) this
def DZ{n:Int}(h:(Lit.int .i64 n).wf=Z):lP n:=by
 simp[Lit.wf,IntKind.min,IntKind.max,XU,Yg] at h;unfold lP;omega
section
variable {H:Type}{enc:Uh×U->H}{w:World}{spare:Nat->Bool}{held:Bool}{fuel:Nat}{v:U}{x:DataW H×List MemPlace}
def so(h:DataW.trod enc T4 w 0 spare held fuel 22 [v]=I x):
 ∃(l:List Int) (o:Option Addr) (b off cap:Nat),v= .slice o l.length cap/\l.length<=cap/\(0<l.length->o=I ⟨b,off,K⟩)/\(0<l.length->b<w.heap.size)/\(∀j,j<l.length->aM w b (off+j) (.int .i64 (l.getD j 0)))/\(rz x.1 22->l.length<=140737488351232)/\∀x∈l,lP x:=by
 rcases Deep.open_slice1 XE Ts h with⟨e,_⟩|⟨i,a,cap,m,O,V,D,L,e,_,u,N,C,rfl,n⟩
 ·simp at e;subst e;exact⟨[],K,0,0,0,rfl,T8 _,λh=>by simp at h,λh=>by simp at h,λj h=>by simp at h,λ_=>by simp,λx h=>by simp at h⟩
 ·simp at e;subst e;have M:a<=m:=by rw[C];split<;>omega
  have z:∀d,d<a->∃p:Int,w.cell? (i.add d)=I (.int .i64 p)/\lP p:=by
   intro d s;obtain⟨A,B⟩:=n d (by omega);obtain⟨G,y,_,F⟩:=DataW.trod_int Tryz.underlying3 B;simp at y;exact⟨G,by rw[A,y],DZ F⟩
  obtain⟨f,k⟩:=Deep.choose_lt z;have c:((UK a).map f).length=a:=by simp
  have t:∀x∈(UK a).map f,lP x:=λx n=>by
   obtain⟨d,s,rfl⟩:=U7.1 n;exact(k d (Vt.1 s)).2
  by_cases r:0<a
  ·obtain⟨b,off,J⟩:=i;have E:J=K:=by simpa [Yr] using World.cell?_spot (k 0 r).1
   subst E;have q:∀j,j<a->aM w b (off+j) (.int .i64 (f j)):=λj g=>by have:=(k j g).1;rwa [VL] at this
   refine⟨(UK a).map f,I ⟨b,off,K⟩,b,off,cap,by rw[c],by rw[c];exact u,λ_=>rfl,λ_=>World.block_lt_of_cell? w ⟨b,off+0,K⟩ (q 0 r),?_,λhF=>?_,t⟩
   ·intro j g;rw[c] at g;rw[q j g];simp[g]
   ·have:=hF.slice XE;rw[TY] at this;simp at this ⊢;omega
  ·refine⟨(UK a).map f,I i,0,0,cap,by rw[c],by rw[c];exact u,λh=>?_,λh=>?_,λj h=>?_,λ_=>?_,t⟩
   all_goals (rw[c] at *;omega)
def uF{fuel:Nat}{cs:List U}{x:DataW H×List MemPlace}(h:DataW.trod enc T4 w 0 spare held fuel 59 cs=I x):∃y:aE,cs=[.bool y.null,.int .i64 y.n,.string y.s]/\rC y/\y.s.size<=Uq:=by
 obtain⟨q,r,t,m,_,e,a,b,c⟩:=Deep.trod_struct3 Tryz.underlying59 h;rw[Tu] at e
 match cs,e with
 | [n,o,p],_=>
  simp[Ts,T0,TX] at a b c;obtain⟨j,d,_⟩:=DataW.trod_bool Tryz.underlying4 a;obtain⟨l,f,_,i⟩:=DataW.trod_int Tryz.underlying3 b;obtain⟨s,g,_,k⟩:=DataW.trod_string Tryz.underlying9 c;simp at d f g;subst d f g;exact⟨⟨j,l,s⟩,rfl,⟨(DZ i).1,(DZ i).2⟩,k⟩
def Gi(h:DataW.trod enc T4 w 0 spare held fuel 23 [v]=I x):
 ∃(l:List cF) (r:Option Addr) (b off cap:Nat),v= .slice r l.length cap/\l.length<=cap/\dB w r b off l/\(rz x.1 23->l.length<=140737488351232)/\∀c∈l,lP c.col/\(rC c.low/\c.low.s.size<=Uq)/\rC c.high/\c.high.s.size<=Uq:=by
 rcases Deep.open_slice Tryz.underlying23 h with⟨p,_⟩|⟨i,g,cap,m,aq,D,al,p,_,O,ao,Y,rfl,q⟩
 ·simp at p;subst p;exact⟨[],K,0,0,0,rfl,T8 _,⟨λh=>by simp at h,λh=>by simp at h,λa h=>by simp at h,λa h=>by simp at h,λa h=>by simp at h,λa h=>by simp at h,λa h=>by simp at h,λa h=>by simp at h,λa h=>by simp at h⟩,λ_=>by simp,λc h=>by simp at h⟩
 ·simp at p;subst p;have am:g<=m:=by rw[Y];split<;>omega
  rw[TZ] at q;have S:∀e,e<g->∃c:cF,w.cell? (i.add (e*7))=I (.int .i64 c.col)/\w.cell? (i.add (e*7+1))=I (.bool c.low.null)/\w.cell? (i.add (e*7+2))=I (.int .i64 c.low.n)/\w.cell? (i.add (e*7+3))=I (.string c.low.s)/\w.cell? (i.add (e*7+4))=I (.bool c.high.null)/\w.cell? (i.add (e*7+5))=I (.int .i64 c.high.n)/\w.cell? (i.add (e*7+6))=I (.string c.high.s)/\lP c.col/\(rC c.low/\c.low.s.size<=Uq)/\rC c.high/\c.high.s.size<=Uq:=by
   intro e M;obtain⟨R,T,U⟩:=q e (by omega);obtain⟨_,o,k⟩:=World.cells?_some T;obtain⟨a3,a4,a5,ap,_,_,E,F,G⟩:=Deep.trod_struct3 Tryz.underlying61 U
   match R,o with
   | [ar,av,aw,az,a0,a1,a2],_=>
    simp[Ts,Tu] at E F G;obtain⟨ad,Q,_,aa⟩:=DataW.trod_int Tryz.underlying3 E;obtain⟨ab,P,X⟩:=uF F;obtain⟨W,L,V⟩:=uF G;simp at Q P L;obtain⟨rfl,rfl,rfl⟩:=P;obtain⟨rfl,rfl,rfl⟩:=L;subst Q;have t:=k 0 (by omega);have u:=k 1 (by omega);have y:=k 2 (by omega);have z:=k 3 (by omega);have A:=k 4 (by omega);have B:=k 5 (by omega);have C:=k 6 (by omega);rw[Deep.add_add] at t u y z A B C;exact⟨⟨ad,ab,W⟩,by simpa using t,by simpa using u,by simpa using y,by simpa using z,by simpa using A,by simpa using B,by simpa using C,DZ aa,X,V⟩
  obtain⟨f,j⟩:= @Deep.choose_lt cF ⟨⟨0,⟨T7,0,⟨#[]⟩⟩,⟨T7,0,⟨#[]⟩⟩⟩⟩ _ _ S;have o:((UK g).map f).length=g:=by simp
  have N:∀c∈(UK g).map f,lP c.col/\(rC c.low/\c.low.s.size<=Uq)/\rC c.high/\c.high.s.size<=Uq:=λx q=>by
   obtain⟨e,M,rfl⟩:=U7.1 q;exact(j e (Vt.1 M)).2.2.2.2.2.2.2
  have n:∀a,(d:a<((UK g).map f).length)->((UK g).map f)[a]=f a:=λa d=>by simp
  by_cases J:0<g
  ·obtain⟨b,off,ae⟩:=i;have Z:ae=K:=by simpa [Yr] using World.cell?_spot (j 0 J).1
   subst Z;have s:∀a,a<g->aM w b (off+a*7) (.int .i64 (f a).col):=λa d=>by have:=(j a d).1;rwa [VL] at this
   refine⟨(UK g).map f,I ⟨b,off,K⟩,b,off,cap,by rw[o],by rw[o];exact O,⟨λ_=>rfl,λ_=>World.block_lt_of_cell? w ⟨b,off+0*7,K⟩ (s 0 J),?_,?_,?_,?_,?_,?_,?_⟩,λhF=>?_,N⟩
   ·intro a d;rw[n a d];exact s a (by simpa using d)
   ·intro a d;rw[n a d];have:=(j a (by simpa using d)).2.1;rwa [VL,<-U5] at this
   ·intro a d;rw[n a d];have:=(j a (by simpa using d)).2.2.1;rwa [VL,<-U5] at this
   ·intro a d;rw[n a d];have:=(j a (by simpa using d)).2.2.2.1;rwa [VL,<-U5] at this
   ·intro a d;rw[n a d];have:=(j a (by simpa using d)).2.2.2.2.1;rwa [VL,<-U5] at this
   ·intro a d;rw[n a d];have:=(j a (by simpa using d)).2.2.2.2.2.1;rwa [VL,<-U5] at this
   ·intro a d;rw[n a d];have:=(j a (by simpa using d)).2.2.2.2.2.2.1;rwa [VL,<-U5] at this
   ·have:=hF.slice Tryz.underlying23;rw[Tt] at this;simp at this ⊢;omega
  ·refine⟨(UK g).map f,I i,0,0,cap,by rw[o],by rw[o];exact O,⟨λh=>?_,λh=>?_,λa h=>?_,λa h=>?_,λa h=>?_,λa h=>?_,λa h=>?_,λa h=>?_,λa h=>?_⟩,λ_=>?_,N⟩
   all_goals (rw[o] at *;omega)
def Gj(h:DataW.trod enc T4 w 0 spare held fuel 43 [v]=I x):
 ∃(l:List aE) (r:Option Addr) (b off cap:Nat),v= .slice r l.length cap/\sJ w r b off l/\(rz x.1 43->l.length<=140737488351232)/\∀c∈l,rC c/\c.s.size<=Uq:=by
 rcases Deep.open_slice Wz h with⟨j,_⟩|⟨i,e,cap,m,T,D,O,j,_,Q,S,G,rfl,o⟩
 ·simp at j;subst j;exact⟨[],K,0,0,0,rfl,⟨λh=>by simp at h,λh=>by simp at h,λa h=>by simp at h,λa h=>by simp at h,λa h=>by simp at h⟩,λ_=>by simp,λc h=>by simp at h⟩
 ·simp at j;subst j;have R:e<=m:=by rw[G];split<;>omega
  rw[Tu] at o;have C:∀g,g<e->∃c:aE,w.cell? (i.add (g*3))=I (.bool c.null)/\w.cell? (i.add (g*3+1))=I (.int .i64 c.n)/\w.cell? (i.add (g*3+2))=I (.string c.s)/\rC c/\c.s.size<=Uq:=by
   intro g A;obtain⟨P,E,F⟩:=o g (by omega);obtain⟨_,n,p⟩:=World.cells?_some E;obtain⟨N,rfl,L⟩:=uF F;have t:=p 0 (by omega);have u:=p 1 (by omega);have y:=p 2 (by omega);rw[Deep.add_add] at t u y;exact⟨N,by simpa using t,by simpa using u,by simpa using y,L⟩
  obtain⟨f,k⟩:= @Deep.choose_lt aE ⟨⟨T7,0,⟨#[]⟩⟩⟩ _ _ C;have n:((UK e).map f).length=e:=by simp
  have B:∀c∈(UK e).map f,rC c/\c.s.size<=Uq:=λx o=>by
   obtain⟨g,A,rfl⟩:=U7.1 o;exact(k g (Vt.1 A)).2.2.2
  have q:∀a,(d:a<((UK e).map f).length)->((UK e).map f)[a]=f a:=λa d=>by simp
  by_cases z:0<e
  ·obtain⟨b,off,M⟩:=i;have J:M=K:=by simpa [Yr] using World.cell?_spot (k 0 z).1
   subst J;have s:∀a,a<e->aM w b (off+a*3) (.bool (f a).null):=λa d=>by have:=(k a d).1;rwa [VL] at this
   refine⟨(UK e).map f,I ⟨b,off,K⟩,b,off,cap,by rw[n],⟨λ_=>rfl,λ_=>World.block_lt_of_cell? w ⟨b,off+0*3,K⟩ (s 0 z),?_,?_,?_⟩,λhF=>?_,B⟩
   ·intro a d;rw[q a d];exact s a (by simpa using d)
   ·intro a d;rw[q a d];have:=(k a (by simpa using d)).2.1;rwa [VL,<-U5] at this
   ·intro a d;rw[q a d];have:=(k a (by simpa using d)).2.2.1;rwa [VL,<-U5] at this
   ·have:=hF.slice Wz;rw[Tv] at this;simp at this ⊢;omega
  ·refine⟨(UK e).map f,I i,0,0,cap,by rw[n],⟨λh=>?_,λh=>?_,λa h=>?_,λa h=>?_,λa h=>?_⟩,λ_=>?_,B⟩
   all_goals (rw[n] at *;omega)
end
end Cc
end Go.Proofs.YtjidbonhhpkljaaGreat
namespace Go.Proofs.YtjidbonhhpkljaaGreat.kept
open Go.ChangeShapes Go.WideShapes Go.ChangeAt Go.RowKit
open Go.ChangeMaps (open_string shut_string)
open Go.Conc Go.Proofs.YtjidbonhhpkljaaGreat.Cc
def own:ownKnob T4.godebug=K:=by kernel_rfl
def laidOut:laidOutB T4=Z:=by kernel_rfl
def lifted(os:Os)(c9:os.Started)(H:Type)(enc:Uh×U->H):
 ReturnsInLeavingWide {} Tryz.checked os 4 .any (Rows.keptSpec.pre6 enc T4 VX Rows.keptRow.domain T7) (Rows.keptSpec.post enc T4 VX T7 Z T7 T7):=by
 refine returnsInLeavingWide_of_change_sized (C:=Tryz.checked) own c9 Tryz.func4
  (YZ (enc:=enc) (C:=Tryz.checked) T7 ⟨#[],#[aO,aO,aO,.int .i64 0,.bool T7,aO,aO],[]⟩ 8 (by kernel_rfl) (by kernel_rfl) (by kernel_rfl) (by kernel_rfl)) ?_
 intro b base args l bj df ca t d4 b5 _;have g:(DataW.weightsEach T4 (VX.params.toList++Rows.keptSpec.plain.varTypes T4) (l++bj)).all (·<=reachBytes)=Z:=b5;have f:∀(u:Nat) E v,VX.params[u]? =I E->args[u]? =I v->Value.okWide T4 b .any base E v:=ca;have bB:=t;obtain⟨cs,eh,br,bA,rfl,d5,d6⟩:=t;have s:DataW.TrodAll enc T4 b 0 (λ_=>Z) Z VX.params.toList args.toList l cs:=br;rw[Tryz.params4] at s f g;obtain⟨F,e1,ar,dq,cu,el,d3,rfl,rfl,n,c1⟩:=trodAll_cons s;obtain⟨G,e2,av,dr,cv,em,rfl,rfl,rfl,o,c2⟩:=trodAll_cons c1;obtain⟨J,e3,aw,ds,cx,en,rfl,rfl,rfl,p,c3⟩:=trodAll_cons c2;obtain⟨K,e4,dl,dt,ee,eo,rfl,rfl,rfl,bm,c4⟩:=trodAll_cons c3;obtain⟨L,e5,dp,du,ef,eq,rfl,rfl,rfl,bo,c5⟩:=trodAll_cons c4;obtain⟨M,e6,az,dv,cR,er,rfl,rfl,rfl,q,c6⟩:=trodAll_cons c5;obtain⟨N,e7,a0,dC,c0,es,rfl,rfl,rfl,r,c7⟩:=trodAll_cons c6;obtain⟨rfl,rfl,rfl⟩:=trodAll_nil c7;obtain rfl:args=#[F,G,J,K,L,M,N]:=by cases args;simp_all
 obtain⟨rfl,rfl⟩:=trodVars_none bA;obtain⟨P,d8,ae,rfl⟩:=okWide_slice XE (f 0 22 F rfl rfl);obtain⟨Q,d9,al,rfl⟩:=okWide_slice Wz (f 1 43 G rfl rfl);obtain⟨R,ea,am,rfl⟩:=okWide_slice XE (f 2 22 J rfl rfl);obtain⟨S,eb,ao,rfl⟩:=okWide_slice XE (f 5 22 M rfl rfl);obtain⟨T,ec,ap,rfl⟩:=okWide_slice Tryz.underlying23 (f 6 23 N rfl rfl);obtain⟨j,rfl,rfl,rfl,O⟩:=open_int Tryz.underlying3 (f 3 3 K rfl rfl) bm;obtain⟨k,rfl,rfl,rfl⟩:=open_bool Tryz.underlying4 (f 4 4 L rfl rfl) bo;have w:=n;have ck:∀e∈cu,e.block<b.heap.size:=by obtain⟨m,c⟩:=w;exact DataW.trod_lt m _ _ _ c
 have bs:rz ar 22:=λa d=>of_decide_eq_true (Uz.1 g a (DataW.weights_mem_each (j:=0) Y Y a d));obtain⟨dO,b0⟩:=n;have x:=o;have cl:∀e∈cv,e.block<b.heap.size:=by obtain⟨m,c⟩:=x;exact DataW.trod_lt m _ _ _ c
 have bt:rz av 43:=λa d=>of_decide_eq_true (Uz.1 g a (DataW.weights_mem_each (j:=1) Y Y a d));obtain⟨dT,b1⟩:=o;have y:=p;have cn:∀e∈cx,e.block<b.heap.size:=by obtain⟨m,c⟩:=y;exact DataW.trod_lt m _ _ _ c
 have bu:rz aw 22:=λa d=>of_decide_eq_true (Uz.1 g a (DataW.weights_mem_each (j:=2) Y Y a d));obtain⟨d0,b2⟩:=p;have z:=q;have co:∀e∈cR,e.block<b.heap.size:=by obtain⟨m,c⟩:=z;exact DataW.trod_lt m _ _ _ c
 have bv:rz az 22:=λa d=>of_decide_eq_true (Uz.1 g a (DataW.weights_mem_each (j:=5) Y Y a d));obtain⟨d1,b3⟩:=q;have A:=r;have cp:∀e∈c0,e.block<b.heap.size:=by obtain⟨m,c⟩:=A;exact DataW.trod_lt m _ _ _ c
 have bx:rz a0 23:=λa d=>of_decide_eq_true (Uz.1 g a (DataW.weights_mem_each (j:=6) Y Y a d));obtain⟨d2,b4⟩:=r;obtain⟨B,d7,cb,gM,fF,a1,-,cc,cd,cf,ch,ci⟩:=so b0;obtain⟨C,e0,da,ki,gP,a2,db,dc,dd⟩:=Gj b1;obtain⟨dU,dE,a6,jg,bW,a3,-,a7,a8,a9,ba,bb⟩:=so b2;obtain⟨ah,dk,aq,bE,aJ,a4,V,W,X,aa,ab,ad⟩:=so b3;obtain⟨D,et,c8,bh,aN,a5,bc,bd,be,bi⟩:=Gi b4;obtain⟨rfl,rfl,rfl⟩:=X3 a1;obtain⟨rfl,rfl,rfl⟩:=X3 a2;obtain⟨rfl,rfl,rfl⟩:=X3 a3;obtain⟨rfl,rfl,rfl⟩:=X3 a4;obtain⟨rfl,rfl,rfl⟩:=X3 a5;obtain⟨eQ,b6⟩:=O3 (Post:=λv i=>Rows.keptSpec.post enc T4 VX T7 Z T7 T7 b #[.slice P B.length ae,.slice Q C.length al,.slice R dU.length am,.int .i64 j,.bool k,.slice S ah.length ao,.slice T D.length ap] v i) (kinds:=B) (raw:=C) (dU:=dU) (Fv:=j) (bo:=k) (ah:=ah) (rs:=D) (kb:=cb) (gM:=gM) (vb:=da) (ki:=ki) (eb:=a6) (jg:=jg) (cb:=aq) (bE:=bE) (rb:=c8) (bh:=bh) (w0:=b) (by have:=ch bs;unfold Uq;omega) (by have:=dc bt;unfold Uq;omega) (by have:=ba bu;unfold Uq;omega) ci bb dd (DZ O) ad bi (by have:=ab bv;unfold Uq;omega) V (by have:=be bx;unfold Uq;omega) bc ⟨cc,cd,cf⟩ db ⟨a7,a8,a9⟩ W X aa bd trivial (λi h=>by
  have dg:aP b i:=⟨h.os,h.tape,h.output,h.size,h.at_⟩;exact⟨_,_,_,[],_,[],bB,trodAll_mk1 (shut_bool Tryz.underlying4 _),(trodAll_cons_mk (Below.trod laidOut (by kernel_rfl) (of_decide_eq_true (by kernel_rfl)) w dg ck) (trodAll_cons_mk (Below.trod laidOut (by kernel_rfl) (of_decide_eq_true (by kernel_rfl)) x dg cl) (trodAll_cons_mk (Below.trod laidOut (by kernel_rfl) (of_decide_eq_true (by kernel_rfl)) y dg cn) (trodAll_cons_mk (shut_int Tryz.underlying3 O) (trodAll_cons_mk (shut_bool Tryz.underlying4 _) (trodAll_cons_mk (Below.trod laidOut (by kernel_rfl) (of_decide_eq_true (by kernel_rfl)) z dg co) (trodAll_cons_mk (Below.trod laidOut (by kernel_rfl) (of_decide_eq_true (by kernel_rfl)) A dg cp) trodAll_mk0))))))),rfl,dg.frame _,λbl=>by cases bl⟩)
 exact EE b6 trivial
def over:Rows.keptRow.holds Tryz.pinned (OpenSpec.ofChange Rows.keptSpec):=
 OpenClaim.holds_of_wide_leaving 4 VX Y Y Y Y Y Y Y ⟨rfl,rfl,rfl,rfl,rfl⟩ Y Y Y Y Y (by kernel_rfl) Tryz.func4 (by kernel_rfl)
  (of_decide_eq_true (by kernel_rfl)) (by unfold Func.isWrapper;first|(rw[if_pos (by decide +kernel)];kernel_rfl)|(rw[if_neg (by decide +kernel)];exact⟨rfl,rfl⟩))
  (λc d a b _=>lifted c d a b)
end Go.Proofs.YtjidbonhhpkljaaGreat.kept
namespace Go.Proofs.YtjidbonhhpkljaaGreat
theorem kept_holds:Rows.KeptSaid:=kept.over
end Go.Proofs.YtjidbonhhpkljaaGreat
