/- Proved: at every text, columns, ranges and skip the statement Scans answers true and leaves its arguments as they were; no condition beside the form's own reach. -/
import Derived.Test.YtjidbonhhpkljaaGreatRows
import Derived.WalkKit
import Derived.ProofKit
import Derived.OpenShut
import Derived.ShutString
import Derived.ChangeOld
import Derived.Below
import Derived.SizedLaws
import Derived.Conc.LeavingOf
import Derived.Conc.Holds
import Derived.Test.YtjidbonhhpkljaaGreatMe
set_option linter.all false
set_option maxRecDepth 100000
set_option maxHeartbeats 8000000
open Array renaming size->U
open Bool renaming false->ai,true->af
open Go.ChangeSpec renaming witness6->abK
open Go.Proofs.Tryz renaming f3->eB,prog->av
open Go.Value renaming bool->ak,slice->ah,string->au
open List renaming all_eq_true->fD,length->I
namespace Go.Proofs.YtjidbonhhpkljaaGreat.LV
open Go.ChangeShapes Go.WideShapes Go.ChangeAt Go.RowKit
open Go.ChangeMaps (open_string shut_string)
open Go.Conc Go.Proofs.YtjidbonhhpkljaaGreat.Cc
def own:ownKnob av.godebug=none:=bl
def laidOut:laidOutB av=af:=bl
def lifted{z:Os}(aY:z.Started){J:Type}{b:TypeId×Value->J}:
 ReturnsInLeavingWide {} Tryz.checked z 3 .any (Rows.scansSpec.pre6 b av eB Rows.scansRow.domain ai) (Rows.scansSpec.post b av eB ai af ai ai):=by
 refine returnsInLeavingWide_of_change_sized (C:=Tryz.checked) own aY Tryz.func3
  (abK (enc:=b) (C:=Tryz.checked) ai ⟨#[],#[au ByteArray.empty,aH,aH,ak ai],[]⟩ 8 bl bl bl bl) ?_
 intro a base args q Z aZ aF u ba aC _;have j:List.all (DataW.weightsEach av (eB.params.toList++Rows.scansSpec.plain.varTypes av) (q++Z)) (·<=reachBytes)=af:=aC;have d:∀(w:Nat) B v,eB.params[w]? =some B->args[w]? =some v->Value.okWide av a .any base B v:=aF;have aw:=u;obtain⟨aJ,bj,am,ar,rfl,bb,bc⟩:=u;have t:DataW.TrodAll b av a 0 (λ_=>af) af eB.params.toList (Array.toList args) q aJ:=am;rw[Tryz.params3] at t d j;obtain⟨C,bu,a1,a3,bh,bk,a9,rfl,rfl,ae,aQ⟩:=trodAll_cons t;obtain⟨D,bv,W,a4,aL,bm,rfl,rfl,rfl,r,k⟩:=trodAll_cons aQ;obtain⟨E,bx,X,a5,aM,bn,rfl,rfl,rfl,s,l⟩:=trodAll_cons k;obtain⟨G,bD,a2,a6,bi,bo,rfl,rfl,rfl,al,n⟩:=trodAll_cons l;obtain⟨rfl,rfl,rfl⟩:=trodAll_nil n;obtain rfl:args=#[C,D,E,G]:=by cases args;simp_all
 obtain⟨rfl,rfl⟩:=trodVars_none ar;obtain⟨p,rfl,rfl,rfl,H⟩:=open_string Tryz.underlying9 (d 0 9 C rfl rfl) ae;obtain⟨L,bd,S,rfl⟩:=okWide_slice Tryz.underlying22 (d 1 22 D rfl rfl);obtain⟨M,be,T,rfl⟩:=okWide_slice Tryz.underlying23 (d 2 23 E rfl rfl);obtain⟨g,rfl,rfl,rfl⟩:=open_bool Tryz.underlying4 (d 3 4 G rfl rfl) al;have x:=r;have y:=s;have aG:∀o∈aL,o.block<U a.heap:=by have⟨m,h⟩:=x;exact DataW.trod_lt m _ _ _ h
 have aI:∀o∈aM,o.block<U a.heap:=by have⟨m,h⟩:=y;exact DataW.trod_lt m _ _ _ h
 have ao:yG W 22:=λe i=>of_decide_eq_true (fD.1 j e (DataW.weights_mem_each (j:=1) Y Y e i));have ap:yG X 23:=λe i=>of_decide_eq_true (fD.1 j e (DataW.weights_mem_each (j:=2) Y Y e i));have⟨a7,ay⟩:=r;have⟨a8,az⟩:=s;have⟨aj,a0,V,bN,bH,aa,N,O,P,Q,R⟩:=open_ints ay;have⟨A,br,rb,bY,bE,ab,k,l,n⟩:=Vf az;obtain⟨rfl,rfl,rfl⟩:=N9 aa;obtain⟨rfl,rfl,rfl⟩:=N9 ab;have⟨bs,aE⟩:=Y9 (Post:=λv f=>Rows.scansSpec.post b av eB ai af ai ai a #[au p,ah L (I aj) S,ah M (I A) T,ak g] v f) (s:=p) (aj:=aj) (rs:=A) (sk:=g) (cb:=V) (bN:=bN) (rb:=rb) (bY:=bY) (w0:=a) H (by have:=R ao;unfold maxLen;omega) N (by have:=n ap;unfold maxLen;omega) k O P Q l trivial (λf c=>by
  have j9:aD a f:=⟨c.os,c.tape,c.output,c.size,c.at_⟩;exact⟨_,_,_,[],_,[],aw,trodAll_mk1 (shut_bool Tryz.underlying4 _),(trodAll_cons_mk (shut_string Tryz.underlying9 H) (trodAll_cons_mk (Below.trod laidOut bl (of_decide_eq_true bl) x j9 aG) (trodAll_cons_mk (Below.trod laidOut bl (of_decide_eq_true bl) y j9 aI) (trodAll_cons_mk (shut_bool Tryz.underlying4 g) trodAll_mk0)))),rfl,j9.frame _,λad=>cV ad⟩)
 exact YA aE trivial
def over:Rows.scansRow.holds Tryz.pinned (OpenSpec.ofChange Rows.scansSpec):=
 OpenClaim.holds_of_wide_leaving 3 eB Y Y Y Y Y Y Y ⟨rfl,rfl,rfl,rfl,rfl⟩ Y Y Y Y Y bl Tryz.func3 bl
  (of_decide_eq_true bl) (by unfold Func.isWrapper;first|(rw[if_pos (by decide +kernel)];kernel_rfl)|(rw[if_neg (by decide +kernel)];exact⟨rfl,rfl⟩))
  (λd a b c _=>lifted a)
end Go.Proofs.YtjidbonhhpkljaaGreat.LV
namespace Go.Proofs.YtjidbonhhpkljaaGreat
theorem scans_holds:Rows.ScansSaid:=LV.over
end Go.Proofs.YtjidbonhhpkljaaGreat
