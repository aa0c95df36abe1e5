/- Proved: at every text, columns and ranges the statement Fewer answers true and leaves its arguments as they were; no condition beside the form's own reach. -/
import Derived.OpenShut
import Derived.Deep.Slices
import Derived.Deep.Strs
import Derived.SizedLaws
import Derived.Test.YtjidbonhhpkljaaGreatRows
import Derived.WalkKit
import Derived.ProofKit
import Derived.ShutString
import Derived.ChangeOld
import Derived.Below
import Derived.Conc.LeavingOf
import Derived.Conc.Holds
import Derived.Test.YtjidbonhhpkljaaGreatMe
set_option linter.all false
set_option maxRecDepth 100000
set_option maxHeartbeats 8000000
open Bool renaming false → RE, true → RF
open Go renaming Addr → Sl, TypeId → RO, Value → RB, World → RD, maxLen → R3
open Go.Addr renaming add → VN, add_lit → TC
open Go.ChangeSpec renaming witness6 → Wm
open Go.Proofs.Tryz renaming f6 → VO, prog → Rz
open Go.RowKit renaming Below → RQ
open Go.Value.slice renaming inj → Wd
open List renaming all_eq_true → Sf, range → Sw
open Nat renaming add_assoc → SL, le_refl → RG, le_trans → R4
open Option renaming none → RA, some → Ry
set_option maxRecDepth 100000
set_option maxHeartbeats 8000000
namespace Go.Proofs.YtjidbonhhpkljaaGreat
namespace Cc
open Go Go.Conc
open Ec (aD cj cY)
theorem Q0:Rz.cellsOf 3=1:=by kernel_rfl
theorem Rt:Rz.cellsOf 4=1:=by kernel_rfl
theorem Rw:Rz.cellsOf 9=1:=by kernel_rfl
theorem Ri:Rz.cellsOf 59=3:=by kernel_rfl
theorem Rv:Rz.cellsOf 61=7:=by kernel_rfl
theorem Ru:Rz.bytesOf 3=8:=by kernel_rfl
theorem Q1:Rz.bytesOf 61=72:=by kernel_rfl
def zf {H:Type}(d:DataW H)(t:RO):Prop:=∀ a∈d.weights Rz t,a≤140737488351232
theorem zf.slice{H:Type}{es a:List (DataW H)}{t e:RO}(h:zf (.slice es a) t)(b:Rz.underlying t=Ry (.slice e)):es.length*Rz.bytesOf e≤140737488351232:=by
 have:=h ((es.length+a.length)*Rz.bytesOf e) (by simp[DataW.weights,b]);exact R4 (Nat.mul_le_mul_right _ (Nat.le_add_right _ _)) this
section
variable {H:Type}{enc:RO×RB→H}{w:RD}{spare:Nat→Bool}{held:Bool}{fuel:Nat}{v:RB}{x:DataW H×List MemPlace}
theorem open_ints(h:DataW.trod enc Rz w 0 spare held fuel 22 [v]=Ry x):
 ∃ (l:List Int) (k:Option Sl) (b off cap:Nat),v= .slice k l.length cap∧l.length≤cap∧(0<l.length→k=Ry ⟨b,off,RA⟩)∧(0<l.length→b<w.heap.size)∧(∀ j,j<l.length→w.cell? ⟨b,off+j,RA⟩=Ry (.int .i64 (l.getD j 0)))∧(zf x.1 22→l.length≤140737488351232):=by
 rcases Deep.open_slice1 Tryz.underlying22 Q0 h with⟨d,_⟩|⟨i,a,cap,m,L,V,D,F,d,_,q,J,z,rfl,B⟩
 ·simp at d;subst d;exact⟨[],RA,0,0,0,rfl,RG _,fun h=>by simp at h,fun h=>by simp at h,fun j h=>by simp at h,fun _=>by simp⟩
 ·simp at d;subst d;have I:a≤m:=by rw[z];split<;>omega
  have t:∀ g,g<a→∃ s:Int,w.cell? (i.add g)=Ry (.int .i64 s):=by
   intro g G;obtain⟨u,y⟩:=B g (by omega);obtain⟨C,r,_,K⟩:=DataW.trod_int Tryz.underlying3 y;simp at r;exact⟨C,by rw[u,r]⟩
  obtain⟨f,p⟩:=Deep.choose_lt t;have c:((Sw a).map f).length=a:=by simp
  by_cases o:0<a
  ·obtain⟨b,off,E⟩:=i;have A:E=RA:=by simpa [VN] using World.cell?_spot (p 0 o)
   subst A;have n:∀ j,j<a→w.cell? ⟨b,off+j,RA⟩=Ry (.int .i64 (f j)):=fun j e=>by have:=p j e;rwa [TC] at this
   refine⟨(Sw a).map f,Ry ⟨b,off,RA⟩,b,off,cap,by rw[c],by rw[c];exact q,fun _=>rfl,fun _=>World.block_lt_of_cell? w ⟨b,off+0,RA⟩ (n 0 o),?_,fun hF=>?_⟩
   ·intro j e;rw[c] at e;rw[n j e];simp[e]
   ·have:=hF.slice Tryz.underlying22;rw[Ru] at this;simp at this ⊢;omega
  ·refine⟨(Sw a).map f,Ry i,0,0,cap,by rw[c],by rw[c];exact q,fun h=>?_,fun h=>?_,fun j h=>?_,fun _=>?_⟩
   all_goals (rw[c] at *;omega)
theorem CS{fuel:Nat}{cs:List RB}{x:DataW H×List MemPlace}(h:DataW.trod enc Rz w 0 spare held fuel 59 cs=Ry x):∃ y:aD,cs=[.bool y.null,.int .i64 y.n,.string y.s]:=by
 obtain⟨q,r,t,m,_,e,a,b,c⟩:=Deep.trod_struct3 Tryz.underlying59 h;rw[Ri] at e
 match cs,e with
 | [n,o,p],_=>
  simp[Q0,Rw,Rt] at a b c;obtain⟨i,d,_⟩:=DataW.trod_bool Tryz.underlying4 a;obtain⟨j,f,_,l⟩:=DataW.trod_int Tryz.underlying3 b;obtain⟨s,g,_,k⟩:=DataW.trod_string Tryz.underlying9 c;simp at d f g;subst d f g;exact⟨⟨i,j,s⟩,rfl⟩
theorem Iu(h:DataW.trod enc Rz w 0 spare held fuel 23 [v]=Ry x):
 ∃ (l:List cj) (q:Option Sl) (b off cap:Nat),v= .slice q l.length cap∧l.length≤cap∧cY w q b off l∧(zf x.1 23→l.length≤140737488351232):=by
 rcases Deep.open_slice Tryz.underlying23 h with⟨p,_⟩|⟨g,e,cap,m,al,D,X,p,_,J,ab,S,rfl,M⟩
 ·simp at p;subst p;exact⟨[],RA,0,0,0,rfl,RG _,⟨fun h=>by simp at h,fun h=>by simp at h,fun a h=>by simp at h,fun a h=>by simp at h,fun a h=>by simp at h,fun a h=>by simp at h,fun a h=>by simp at h,fun a h=>by simp at h,fun a h=>by simp at h⟩,fun _=>by simp⟩
 ·simp at p;subst p;have Z:e≤m:=by rw[S];split<;>omega
  rw[Rv] at M;have O:∀ d,d<e→∃ j:cj,w.cell? (g.add (d*7))=Ry (.int .i64 j.col)∧w.cell? (g.add (d*7+1))=Ry (.bool j.low.null)∧w.cell? (g.add (d*7+2))=Ry (.int .i64 j.low.n)∧w.cell? (g.add (d*7+3))=Ry (.string j.low.s)∧w.cell? (g.add (d*7+4))=Ry (.bool j.high.null)∧w.cell? (g.add (d*7+5))=Ry (.int .i64 j.high.n)∧w.cell? (g.add (d*7+6))=Ry (.string j.high.s):=by
   intro d Y;obtain⟨N,P,Q⟩:=M d (by omega);obtain⟨_,o,k⟩:=World.cells?_some P;obtain⟨a3,a4,a5,ae,_,_,C,E,F⟩:=Deep.trod_struct3 Tryz.underlying61 Q
   match N,o with
   | [am,ao,ar,aw,a0,a1,a2],_=>
    simp[Q0,Ri] at C E F;obtain⟨V,L,_,ad⟩:=DataW.trod_int Tryz.underlying3 C;obtain⟨U,K⟩:=CS E;obtain⟨R,I⟩:=CS F;simp at L K I;obtain⟨rfl,rfl,rfl⟩:=K;obtain⟨rfl,rfl,rfl⟩:=I;subst L;have s:=k 0 (by omega);have t:=k 1 (by omega);have u:=k 2 (by omega);have y:=k 3 (by omega);have z:=k 4 (by omega);have A:=k 5 (by omega);have B:=k 6 (by omega);rw[Deep.add_add] at s t u y z A B;exact⟨⟨V,U,R⟩,by simpa using s,by simpa using t,by simpa using u,by simpa using y,by simpa using z,by simpa using A,by simpa using B⟩
  obtain⟨f,i⟩:= @Deep.choose_lt cj ⟨⟨0,⟨RE,0,⟨#[]⟩⟩,⟨RE,0,⟨#[]⟩⟩⟩⟩ _ _ O;have o:((Sw e).map f).length=e:=by simp
  have n:∀ a,(c:a<((Sw e).map f).length)→((Sw e).map f)[a]=f a:=fun a c=>by simp
  by_cases G:0<e
  ·obtain⟨b,off,W⟩:=g;have T:W=RA:=by simpa [VN] using World.cell?_spot (i 0 G).1
   subst T;have r:∀ a,a<e→w.cell? ⟨b,off+a*7,RA⟩=Ry (.int .i64 (f a).col):=fun a c=>by have:=(i a c).1;rwa [TC] at this
   refine⟨(Sw e).map f,Ry ⟨b,off,RA⟩,b,off,cap,by rw[o],by rw[o];exact J,⟨fun _=>rfl,fun _=>World.block_lt_of_cell? w ⟨b,off+0*7,RA⟩ (r 0 G),?_,?_,?_,?_,?_,?_,?_⟩,fun hF=>?_⟩
   ·intro a c;rw[n a c];exact r a (by simpa using c)
   ·intro a c;rw[n a c];have:=(i a (by simpa using c)).2.1;rwa [TC,← SL] at this
   ·intro a c;rw[n a c];have:=(i a (by simpa using c)).2.2.1;rwa [TC,← SL] at this
   ·intro a c;rw[n a c];have:=(i a (by simpa using c)).2.2.2.1;rwa [TC,← SL] at this
   ·intro a c;rw[n a c];have:=(i a (by simpa using c)).2.2.2.2.1;rwa [TC,← SL] at this
   ·intro a c;rw[n a c];have:=(i a (by simpa using c)).2.2.2.2.2.1;rwa [TC,← SL] at this
   ·intro a c;rw[n a c];have:=(i a (by simpa using c)).2.2.2.2.2.2;rwa [TC,← SL] at this
   ·have:=hF.slice Tryz.underlying23;rw[Q1] at this;simp at this ⊢;omega
  ·refine⟨(Sw e).map f,Ry g,0,0,cap,by rw[o],by rw[o];exact J,⟨fun h=>?_,fun h=>?_,fun a h=>?_,fun a h=>?_,fun a h=>?_,fun a h=>?_,fun a h=>?_,fun a h=>?_,fun a h=>?_⟩,fun _=>?_⟩
   all_goals (rw[o] at *;omega)
end
end Cc
end Go.Proofs.YtjidbonhhpkljaaGreat
namespace Go.Proofs.YtjidbonhhpkljaaGreat.Ok
open Go.ChangeShapes Go.WideShapes Go.ChangeAt Go.RowKit
open Go.ChangeMaps (open_string shut_string)
open Go.Conc Go.Proofs.YtjidbonhhpkljaaGreat.Cc
theorem own:ownKnob Rz.godebug=RA:=by kernel_rfl
theorem laidOut:laidOutB Rz=RF:=by kernel_rfl
theorem lifted(os:Os)(a4:os.Started)(H:Type)(enc:RO×RB→H):
 ReturnsInLeavingWide {} Tryz.checked os 6 .any (Rows.fewerSpec.pre6 enc Rz VO Rows.fewerRow.domain RE) (Rows.fewerSpec.post enc Rz VO RE RF RE RE):=by
 refine returnsInLeavingWide_of_change_sized (C:=Tryz.checked) own a4 Tryz.func6
  (Wm (enc:=enc) (C:=Tryz.checked) RE ⟨#[],#[.string ByteArray.empty,.slice RA 0 0,.slice RA 0 0],[]⟩ 8 (by kernel_rfl) (by kernel_rfl) (by kernel_rfl) (by kernel_rfl)) ?_
 intro a base args n T a5 t s be ae _;have h:(DataW.weightsEach Rz (VO.params.toList ++ Rows.fewerSpec.plain.varTypes Rz) (n ++ T)).all (·≤reachBytes)=RF:=ae;have d:∀ (u:Nat) z v,VO.params[u]? =Ry z→args[u]? =Ry v→Value.okWide Rz a .any base z v:=t;have Z:=s;obtain⟨ar,br,r,Y,rfl,bi,bj⟩:=s;have q:DataW.TrodAll enc Rz a 0 (fun _=>RF) RF VO.params.toList args.toList n ar:=r;rw[Tryz.params6] at q d h;obtain⟨A,bA,a7,a8,bo,bs,bd,rfl,rfl,V,a1⟩:=trodAll_cons q;obtain⟨B,bB,P,a9,aw,bt,rfl,rfl,rfl,o,i⟩:=trodAll_cons a1;obtain⟨C,b0,Q,ba,a0,bu,rfl,rfl,rfl,p,j⟩:=trodAll_cons i;obtain⟨rfl,rfl,rfl⟩:=trodAll_nil j;obtain rfl:args=#[A,B,C]:=by cases args;simp_all
 obtain⟨rfl,rfl⟩:=trodVars_none Y;obtain⟨l,rfl,rfl,rfl,D⟩:=open_string Tryz.underlying9 (d 0 9 A rfl rfl) V;obtain⟨E,bl,M,rfl⟩:=okWide_slice Tryz.underlying22 (d 1 22 B rfl rfl);obtain⟨F,bm,N,rfl⟩:=okWide_slice Tryz.underlying23 (d 2 23 C rfl rfl);have w:=o;have x:=p;have am:∀ k∈aw,k.block<a.heap.size:=by obtain⟨m,f⟩:=w;exact DataW.trod_lt m _ _ _ f
 have ao:∀ k∈a0,k.block<a.heap.size:=by obtain⟨m,f⟩:=x;exact DataW.trod_lt m _ _ _ f
 have W:zf P 22:=fun c g=>of_decide_eq_true (Sf.1 h c (DataW.weights_mem_each (j:=1) rfl rfl c g));have X:zf Q 23:=fun c g=>of_decide_eq_true (Sf.1 h c (DataW.weights_mem_each (j:=2) rfl rfl c g));obtain⟨bb,ab⟩:=o;obtain⟨bc,ad⟩:=p;obtain⟨ah,a6,O,bk,aF,R,G,I,J,K,L⟩:=open_ints ab;obtain⟨y,bv,a3,bq,aI,S,i,j,a2⟩:=Iu ad;obtain⟨rfl,rfl,rfl⟩:=Wd R;obtain⟨rfl,rfl,rfl⟩:=Wd S;clear r t;obtain⟨bx,al⟩:=Ku (Post:=fun v e=>Rows.fewerSpec.post enc Rz VO RE RF RE RE a #[.string l,.slice E ah.length M,.slice F y.length N] v e) (s:=l) (ah:=ah) (rs:=y) (cb:=O) (bk:=bk) (rb:=a3) (bq:=bq) (w0:=a) D (by have:=L W;unfold R3;omega) G (by have:=a2 X;unfold R3;omega) i I J K j trivial (fun e b=>by
  have fA:RQ a.heap.size a e:=⟨b.os,b.tape,b.output,b.size,b.at_⟩;exact⟨_,_,_,[],_,[],Z,trodAll_mk1 (shut_bool Tryz.underlying4 _),(trodAll_cons_mk (shut_string Tryz.underlying9 D) (trodAll_cons_mk (Below.trod laidOut (by kernel_rfl) (of_decide_eq_true (by kernel_rfl)) w fA am) (trodAll_cons_mk (Below.trod laidOut (by kernel_rfl) (of_decide_eq_true (by kernel_rfl)) x fA ao) trodAll_mk0))),rfl,fA.frame _,fun U=>by cases U⟩)
 exact Dg al trivial
theorem over:Rows.fewerRow.holds Tryz.pinned (OpenSpec.ofChange Rows.fewerSpec):=
 OpenClaim.holds_of_wide_leaving 6 VO rfl rfl rfl rfl rfl rfl rfl ⟨rfl,rfl,rfl,rfl,rfl⟩ rfl rfl rfl rfl rfl (by kernel_rfl) Tryz.func6 (by kernel_rfl)
  (of_decide_eq_true (by kernel_rfl)) (by unfold Func.isWrapper;first|(rw[if_pos (by decide +kernel)];kernel_rfl)|(rw[if_neg (by decide +kernel)];exact⟨rfl,rfl⟩))
  (fun c d a b _=>lifted c d a b)
end Go.Proofs.YtjidbonhhpkljaaGreat.Ok
namespace Go.Proofs.YtjidbonhhpkljaaGreat
theorem fewer_holds:Rows.FewerSaid:=Ok.over
end Go.Proofs.YtjidbonhhpkljaaGreat
