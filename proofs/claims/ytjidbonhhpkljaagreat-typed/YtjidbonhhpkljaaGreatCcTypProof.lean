/- Proved: at every text, columns, ranges and word on skipping the statement Typed answers true and leaves its arguments as they were; no condition beside the form's own reach. -/
import Derived.Test.YtjidbonhhpkljaaGreatRows
import Derived.WalkKit
import Derived.ProofKit
import Derived.OpenShut
import Derived.ShutString
import Derived.ChangeOld
import Derived.Below
import Derived.SizedLaws
import Derived.Conc.LeavingOf
import Derived.Conc.Holds
import Derived.Test.YtjidbonhhpkljaaGreatMe
set_option linter.all false
set_option maxRecDepth 100000
set_option maxHeartbeats 8000000
open Bool renaming false → R6, true → R7
open Go renaming Addr → SL, Program → Sd, TypeId → Sg, Value → R2, World → R3, maxLen → Sw
open Go.ChangeSpec renaming witness6 → WG
open Go.Conc renaming G → Se
open Go.Ending.returned renaming inj → Vj
open Go.Frame renaming enter → SW
open Go.Proofs.Tryz renaming f5 → VX, prog → RY
open Go.RowKit renaming Below → Si
open Go.RowKit.Below renaming refl → So
open Go.Value renaming int → T7
open Go.Value.slice renaming inj → Wz
open List renaming all_eq_true → SC, getD_eq_getElem?_getD → Sj, getElem?_take → T3, getElem_mem → Sl, length_map → SV, length_take → TO
open Nat renaming le_trans → Ss, lt_of_lt_of_le → Sa
open Option renaming none → RZ, some → RX
open Prod renaming fst → SB
set_option maxRecDepth 100000
set_option maxHeartbeats 8000000
namespace Go.Proofs.YtjidbonhhpkljaaGreat
namespace Cc
open Go Go.Conc
open Go.RowKit
open Ec
open Pk
def JI:(Tryz.f21.name == "runtime.NumGoroutine")=R6:=by kernel_rfl
def rL{P0:Sd}{w d:R3}{base:Nat}{v:R2}{cs:List bG}(h:w.ownsRow base 63 2 v cs.length (dg cs))(l:∀ (b:Nat) o,w.heap[b]? =RX o→aR P0 o→d.heap[b]? =RX o):d.ownsRow base 63 2 v cs.length (dg cs):=by
 obtain⟨f,⟨a,c⟩|⟨e,g,i,a,c,j,k⟩⟩:=h
 ·exact⟨f,.inl ⟨a,c⟩⟩
 ·exact⟨f,.inr ⟨e,g,i,a,c,l e _ j trivial,k⟩⟩
def Pd{w:R3}{c:Option SL}{b off cap:Nat}{a:List Int}(h1:0<a.length→c=RX ⟨b,off,RZ⟩)(d:0<a.length→b<w.heap.size)(e:∀ j,j<a.length→w.cell? ⟨b,off+j,RZ⟩=RX (.int .i64 (a.getD j 0))):qx w (.slice c a.length cap) a:=⟨c,b,off,cap,rfl,h1,d,e⟩
theorem Hx{s:ByteArray}{F:AE}{V:Nat→Nat→List az}{cs:List bG}{n m:Nat}(hF:kI s F)(h:G3 s cs n m):m=3↔(cY F V [] [] R7).2=3:=by
 rw[(Jd (F:=F) (V:=V)).1];rcases h with⟨d,c,a,_,_,rfl,_⟩|⟨a,_,_,rfl⟩
 ·cases F with
  |none=>exact(hF _ _ a).elim
  |some b=>exact⟨fun h=>(by cases h),fun h=>(by cases h)⟩
 ·cases F with
  |none=>exact⟨fun _=>rfl,fun _=>rfl⟩
  |some b=>obtain⟨d,c⟩:=b;exact(a _ _ hF.1).elim
def Kq{s:ByteArray}{cs:List bG}{n m:Nat}(h:G3 s cs n m):cs.length≤Sw:=by
 rcases h with⟨c,b,a,rfl,_,_,_⟩|⟨_,rfl,_,_⟩
 ·have:=a.1.pl.1.2.1;simp only[SV] at this ⊢;unfold Sw;omega
 ·simp[Sw]
theorem DZ{s:ByteArray}{F:AE}{V:Nat→Nat→List az}{cs:List bG}{n m:Nat}{ah:List Int}{rs:List bZ}{sk:Bool}(hF:kI s F)(l:sJ F V)(hc:G3 s cs n m)(h:(cY F V ah rs sk).2=0):m=0∧∀ x∈(cY F V ah rs sk).1,MN cs ah rs x:=by
 obtain⟨y,t,rfl,o,q⟩:=Fw hF l h;rcases hc with⟨f,u,c,rfl,_,rfl,_⟩|⟨c,_⟩
 ·obtain⟨rfl,rfl⟩:=hF.2 _ _ c;refine⟨rfl,fun x r=>?_⟩;have d:=q x r;refine⟨d.len,fun b g k=>?_,d.j9⟩;obtain⟨v,w⟩:=o ah[b] (Sl g);obtain⟨a,hc⟩:∃ a:Nat,ah[b]=(a:Int):=⟨ah[b].toNat,by omega⟩;have e:a<f.length:=by omega
  have p:gD f ah[b]=((f.map SB)[a]'(by simpa using e)).kind:=by
   unfold gD;rw[hc];simp[Sj,e]
  obtain⟨i,j⟩:=d.may b g k;rw[p] at i j;exact⟨a,by simpa using e,hc,i,j⟩
 ·exact(c _ _ hF.1).elim
section
variable {Post:R2→R3→Prop}{s:ByteArray}{ah:List Int}{rs:List bZ}{sk:Bool}{co:Option SL}{cb aV aD:Nat}{ro:Option SL}{rb bh aF:Nat}{w0:R3}
theorem Mq(L:s.size≤Sw)(b1:ah.length≤Sw)(b0:ah.length≤aD)(ck:rs.length≤Sw)(ch:rs.length≤aF)
 (W:0<ah.length→co=RX ⟨cb,aV,RZ⟩) (a6:0<ah.length→cb<w0.heap.size) (a5:∀ j,j<ah.length→w0.cell? ⟨cb,aV+j,RZ⟩=RX (.int .i64 (ah.getD j 0))) (ad:cM w0 ro rb bh rs) (cc:vW (aa.of RY) w0)
 (ce:∀ i,RelB (ff w0) w0 i→Post (.bool R7) i):
 sH (aa.of RY) RY Post (Se (SW RY 5 #[.string s,.slice co ah.length aD,.slice ro rs.length aF,.bool sk] .normal) []) w0:=by
 have c:=fV (aa.of RY) RY Post;refine Xe.go (own:=ff w0) ?_ (fun r b=>b) cc;rw[enter_at _ Tryz.func5 rfl];have a:=Rn (.string s) (.slice co ah.length aD) (.slice ro rs.length aF) (.bool sk) 170 (by decide);obtain⟨z,hF⟩:=Gk s w0 L;obtain⟨V,U⟩:=CO w0 hF;have cl:(ah.take 16).length=min ah.length 16:=by rw[TO];omega
 have bl:(rs.take 16).length=min rs.length 16:=by rw[TO];omega
 have A:∀ j,j<(ah.take 16).length→j<ah.length:=fun j h=>by simp at h;omega
 have a7:∀ j,j<(ah.take 16).length→RX (T7 .i64 (ah.getD j 0))=RX (.int .i64 ((ah.take 16).getD j 0)):=fun j h=>by
  have w:j<16:=by simp at h;omega
  simp[Sj,T3,w]
 refine aH c ?_;refine aU c [0] rfl ?_;refine m8 c a (.bool R6) fun a=>?_;refine aj c ?_;refine aH c ?_;refine aU c [0,1,2] rfl ?_;refine bV c a fun a=>?_;refine oa (vs:= #[.slice co ah.length aD]) (R:=fun f v k=>∃ o,v= .slice co (ah.take 16).length o) dJ rfl rfl rfl rfl (lH (a.of rfl)) Tryz.func8 QR rfl (jg rfl rfl rfl).symm (dM rfl (by simp only[put_defers]) (by kernel_rfl)) (fun f l x=>(Na co ah.length aD f b1 b0 fun b=>⟨_,_,W b⟩).mono fun d k ⟨⟨o,_,E⟩,w⟩=>⟨by rw[w];exact So _ _,_,E,o,by rw[cl]⟩) fun v f k i l x c8 e db bd=>?_;obtain⟨K,rfl⟩:=e;replace a:=a.put (d:=23) (by decide) (.slice co (ah.take 16).length K);refine fE c a fun a=>?_;refine aj c ?_;refine aH c ?_;refine aU c [0,1,2] rfl ?_;refine bV c a fun a=>?_;refine oa (vs:= #[.slice ro rs.length aF]) (R:=fun f v k=>∃ o,v= .slice ro (rs.take 16).length o∧(rs.take 16).length≤o) dJ rfl rfl rfl rfl (lH (a.of rfl)) Tryz.func9 Ed rfl (jg rfl rfl rfl).symm (dM rfl (by simp only[put_defers]) (by kernel_rfl)) (fun f l x=>(za ro rs.length aF f ck ch fun b=>⟨_,_,ad.addr b⟩).mono fun d k ⟨⟨o,bu,E⟩,w⟩=>⟨by rw[w];exact So _ _,_,E,o,by rw[bl],by rw[bl];exact bu⟩) fun v c3 c4 dk da dd c9 e dc be=>?_;obtain⟨O,rfl,ci⟩:=e;replace a:=a.put (d:=25) (by decide) (.slice ro (rs.take 16).length O);refine fE c a fun a=>?_;refine aj c ?_;have a9:=iE bd be;refine aH c ?_;refine aU c [0,1] rfl ?_;refine n9 (vs:= #[]) (R:=fun i d g=>d= .returned (.bool R7)∧(∀ r,r<i.heap.size→g.heap[r]? =i.heap[r]?)∧i.heap.size≤g.heap.size) rfl rfl rfl rfl (by simp) Tryz.func26 Oj rfl (dM rfl (by simp only[put_defers]) (by kernel_rfl)) (fun cs al=>D8) (fun cs v y al F q cd=>?_) (fun y ar g b=>by cases b.1) (fun y g b=>by cases b.1);obtain⟨d,a8,M⟩:=F;have D:=Vj d;subst D;have ba:=xT (iE a9 al) a8 M q;clear bd be a9 a8 M q al d;refine Xe.go (own:=ff y) ?_ (fun r b=>b) cd;replace a:=a.put (d:=26) (by decide) (.bool R7);refine fE c a fun a=>?_;refine aj c ?_;have cn:∀ (P:R3),RelB (ff w0) w0 P→kG (aa.of RY) RY Post 13 #[.string s,.slice co (ah.take 16).length K,.slice ro (rs.take 16).length O,.bool sk] P (zA (cY z V (ah.take 16) (rs.take 16) sk) P):=fun P N=>by
  refine rq (cb:=cb) (aV:=aV) (rb:=rb) (bh:=bh) L hF U (by simp;omega) (by simp;omega) (fun b=>W (A 0 b)) (fun b=>Sa (a6 (A 0 b)) N.size) (fun j h=>?_) (vJ (l7 N) N.size (cM.take ad 16));rw[iX (l7 N) (a5 j (A j h))];exact a7 j h
 refine aH c ?_;refine aU c [0,1,2,3,4,5,6,7,8] rfl ?_;refine bV c a fun a=>?_;refine oa (vs:= #[.string s]) (R:=fun f v k=>∃ (t:List bG) (B m:Nat) (u:R2),v= .tuple #[u,.int .i64 (B:Int),.int .i64 (m:Int)]∧G3 s t B m∧k.ownsRow f.heap.size 63 2 u t.length (dg t)) dJ rfl rfl rfl rfl (lH (a.of rfl)) Tryz.func21 JI rfl (jg rfl rfl rfl).symm (dM rfl (by simp only[put_defers]) (by kernel_rfl)) (fun f l x=>(Bx s f L).mono fun d k ⟨E,t,B,m,u,w,bv,bx,_⟩=>⟨E,_,w,t,B,m,u,rfl,bv,bx⟩) fun v c5 c6 dl bB M bA e a4 bi=>?_;obtain⟨t,B,m,u,rfl,X,n⟩:=e;replace n:=vL a4 n;have bb:=iE ba bi;clear ba bi bB M bA a4;replace a:=a.put (d:=29) (by decide) (.tuple #[u,.int .i64 (B:Int),.int .i64 (m:Int)]);refine bV c a fun a=>?_;refine oB c a fun a=>?_;refine oB c a fun a=>?_;refine oB c a fun a=>?_;refine fE c a fun a=>?_;refine fE c a fun a=>?_;refine fE c a fun a=>?_;refine aj c ?_;refine aH c ?_;refine aU c [0,1,2,3,4,5,6] rfl ?_;refine bV c a fun a=>?_;refine n9 (vs:= #[.string s,.slice RZ 0 0,.slice RZ 0 0,.bool R7]) (R:=fun i d g=>zA (cY z V [] [] R7) i d g) rfl rfl rfl rfl (rF (a.of rfl) rfl rfl rfl) Tryz.func13 F9 rfl (dM rfl (by simp only[put_defers]) (by kernel_rfl)) (fun cu p=>rq (cb:=0) (aV:=0) (rb:=0) (bh:=0) (ah:=[]) (rs:=[]) L hF U (by simp) (by simp) (fun b=>by simp at b) (fun b=>by simp at b) (fun j h=>by simp at h) ⟨fun b=>by simp at b,fun b=>by simp at b,fun j b=>by simp at b,fun j b=>by simp at b,fun j b=>by simp at b,fun j b=>by simp at b,fun j b=>by simp at b,fun j b=>by simp at b,fun j b=>by simp at b⟩) (fun cu v cv p F q Z=>?_) (fun y ar g ⟨_,d,_⟩=>by cases d) (fun y g ⟨_,d,_⟩=>by cases d);obtain⟨c1,d,-,b4,G,J⟩:=F;have D:=Vj d;subst D;have am:=xT p G J q;have bc:=iE bb am;replace n:=rL n (l7 am);clear bb p G J q d am;refine Xe.go (own:=ff cv) ?_ (fun r b=>b) Z;replace a:=a.put (d:=35) (by decide) (.tuple #[c1,.int .i64 ((cY z V [] [] R7).2:Int)]);refine bV c a fun a=>?_;refine oB c a fun a=>?_;refine oB c a fun a=>?_;refine fE c a fun a=>?_;refine fE c a fun a=>?_;refine aj c ?_;refine aH c ?_;refine vQ dJ a (by simp only[put_defers]) (GU VX) (fun f C k=>Knows C 170 [(0,.string s),(1,.slice co (ah.take 16).length K),(2,.slice ro (rs.take 16).length O),(3,.bool sk),(10,u),(12,.int .i64 (m:Int))]∧C.defers=[]) (QZ (fun s=>by simp)) (dM rfl (by simp only[put_defers]) (by kernel_rfl)) (fun v f e l x=>?_) fun br bm bo cx a3 bj a1 ab a2 I=>?_
 ·have bs:=e 0 _ rfl;have R:=e 1 _ rfl;have T:=e 2 _ rfl;have bt:=e 3 _ rfl;have S:=e 10 _ rfl;have aw:=e 12 _ rfl;have:=PR f v m (cY z V [] [] R7).2 (e 9 _ rfl) aw (e 14 _ rfl) (Hx hF X) (fun b=>by rw[e 13 _ rfl];exact b4 (by omega));refine Code.wp_mono (fun d c7 k b=>?_) this;rw[bs,R,T,bt,S,aw] at b;exact b
 obtain⟨a,Y⟩:=ab;have ae:=iE bc I;replace n:=rL n (l7 I);clear bc I a3 bj a1 a2;refine aH c ?_;refine aU c [0,1,2,3,4,5,6,7,8,9] rfl ?_;refine bV c a fun a=>?_;refine bV c a fun a=>?_;refine bV c a fun a=>?_;refine bV c a fun a=>?_;refine n9 (vs:= #[.string s,.slice co (ah.take 16).length K,.slice ro (rs.take 16).length O,.bool sk]) (R:=fun i d g=>zA (cY z V (ah.take 16) (rs.take 16) sk) i d g) rfl rfl rfl rfl (rF (a.of rfl) (a.of rfl) (a.of rfl) (a.of rfl)) Tryz.func13 F9 rfl (dM rfl (by simp only[put_defers];exact Y) (by kernel_rfl)) (fun Q p=>cn Q (iE ae p)) (fun Q v cp p F q Z=>?_) (fun y ar g ⟨_,d,_⟩=>by cases d) (fun y g ⟨_,d,_⟩=>by cases d);obtain⟨c2,d,ca,b3,G,J⟩:=F;have D:=Vj d;subst D;have ao:=xT p G J q;have H:=iE ae ao;replace n:=rL n (l7 ao);clear ae p G J q d ao;refine Xe.go (own:=ff cp) ?_ (fun r b=>b) Z;replace a:=a.put (d:=56) (by decide) (.tuple #[c2,.int .i64 ((cY z V (ah.take 16) (rs.take 16) sk).2:Int)]);refine bV c a fun a=>?_;refine oB c a fun a=>?_;refine oB c a fun a=>?_;refine fE c a fun a=>?_;refine fE c a fun a=>?_;refine aj c ?_;refine Og dJ a (by simp only[put_defers];exact Y) (BR VX) (fun f C k=>Knows C 170 [(8,.bool R7)]∧C.defers=[]) (fun s b=>by simp at b) (dM rfl (by simp only[put_defers];exact Y) (by kernel_rfl)) (fun v f e l x=>?_) fun br bm bo cx df a3 bj a1 ab a2 I=>?_
 ·have R:=e 1 _ rfl;have T:=e 2 _ rfl;have S:=e 10 _ rfl;have a0:=e 15 _ rfl;obtain⟨cR,c0,dp⟩:=(rE.like ca l).RU;refine N4 f v (ah.take 16) (rs.take 16) _ t _ m ?_ ?_ ?_ (e 12 _ rfl) (by rw[a0];exact cR) (e 16 _ rfl) (by simp[Sw];omega) (by simp[Sw];omega) ?_ c0 (fun b=>by rw[a0];exact b3 b) (fun b=>DZ hF U X b)
  ·rw[R];exact Pd (fun b=>W (A 0 b)) (fun b=>Sa (a6 (A 0 b)) (Ss H.size x)) fun j h=>(iX l (by rw[iX (l7 H) (a5 j (A j h))];exact a7 j h))
  ·rw[T];exact⟨_,_,_,_,rfl,ci,vJ l x (vJ (l7 H) H.size (cM.take ad 16))⟩
  ·rw[S];exact vB.cy (rL n l)
  ·exact Kq X
 ·obtain⟨a,b2⟩:=ab;exact QO (by kernel_rfl) rfl b2 Tryz.func5 (jn Tryz.results5 (a.slot 8 _ rfl)) fun Q cf=>ce Q (iE (iE H I) cf)
end
end Cc
end Go.Proofs.YtjidbonhhpkljaaGreat
namespace Go.Proofs.YtjidbonhhpkljaaGreat.OJ
open Go.ChangeShapes Go.WideShapes Go.ChangeAt Go.RowKit
open Go.ChangeMaps (open_string shut_string)
open Go.Conc Go.Proofs.YtjidbonhhpkljaaGreat.Cc
def own:ownKnob RY.godebug=RZ:=by kernel_rfl
def laidOut:laidOutB RY=R7:=by kernel_rfl
theorem lifted(os:Os)(a7:os.Started)(H:Type)(enc:Sg×R2→H):
 ReturnsInLeavingWide {} Tryz.checked os 5 .any (Rows.typedSpec.pre6 enc RY VX Rows.typedRow.domain R6) (Rows.typedSpec.post enc RY VX R6 R7 R6 R6):=by
 refine returnsInLeavingWide_of_change_sized (C:=Tryz.checked) own a7 Tryz.func5
  (WG (enc:=enc) (C:=Tryz.checked) R6 ⟨#[],#[.string ByteArray.empty,.slice RZ 0 0,.slice RZ 0 0,.bool R6],[]⟩ 8 (by kernel_rfl) (by kernel_rfl) (by kernel_rfl) (by kernel_rfl)) ?_
 intro a base args p W a8 w u bo ar _;have i:(DataW.weightsEach RY (VX.params.toList ++ Rows.typedSpec.plain.varTypes RY) (p ++ W)).all (·≤reachBytes)=R7:=ar;have c:∀ (x:Nat) B v,VX.params[x]? =RX B→args[x]? =RX v→Value.okWide RY a .any base B v:=w;have al:=u;obtain⟨a2,bA,t,ae,rfl,br,bs⟩:=u;have s:DataW.TrodAll enc RY a 0 (fun _=>R7) R7 VX.params.toList args.toList p a2:=t;rw[Tryz.params5] at s c i;obtain⟨C,ca,ba,bc,bv,bB,bm,rfl,rfl,Y,a5⟩:=trodAll_cons s;obtain⟨D,cb,S,bd,a3,b0,rfl,rfl,rfl,q,j⟩:=trodAll_cons a5;obtain⟨E,cc,T,be,a4,b1,rfl,rfl,rfl,r,k⟩:=trodAll_cons j;obtain⟨F,cd,bb,bi,bx,b2,rfl,rfl,rfl,Z,l⟩:=trodAll_cons k;obtain⟨rfl,rfl,rfl⟩:=trodAll_nil l;obtain rfl:args=#[C,D,E,F]:=by cases args;simp_all
 obtain⟨rfl,rfl⟩:=trodVars_none ae;obtain⟨o,rfl,rfl,rfl,G⟩:=open_string Tryz.underlying9 (c 0 9 C rfl rfl) Y;obtain⟨I,bt,P,rfl⟩:=okWide_slice Tryz.underlying22 (c 1 22 D rfl rfl);obtain⟨J,bu,Q,rfl⟩:=okWide_slice Tryz.underlying23 (c 2 23 E rfl rfl);obtain⟨f,rfl,rfl,rfl⟩:=open_bool Tryz.underlying4 (c 3 4 F rfl rfl) Z;have y:=q;have z:=r;have a0:∀ n∈a3,n.block<a.heap.size:=by obtain⟨m,g⟩:=y;exact DataW.trod_lt m _ _ _ g
 have a1:∀ n∈a4,n.block<a.heap.size:=by obtain⟨m,g⟩:=z;exact DataW.trod_lt m _ _ _ g
 have ab:zx S 22:=fun d h=>of_decide_eq_true (SC.1 i d (DataW.weights_mem_each (j:=1) rfl rfl d h));have ad:zx T 23:=fun d h=>of_decide_eq_true (SC.1 i d (DataW.weights_mem_each (j:=2) rfl rfl d h));obtain⟨bj,am⟩:=q;obtain⟨bl,ao⟩:=r;obtain⟨ah,a9,R,aV,aD,U,K,L,M,N,O⟩:=open_ints am;obtain⟨A,b3,a6,bh,aF,V,j,k,l⟩:=IJ ao;obtain⟨rfl,rfl,rfl⟩:=Wz U;obtain⟨rfl,rfl,rfl⟩:=Wz V;clear t w;obtain⟨b4,aw⟩:=Mq (Post:=fun v e=>Rows.typedSpec.post enc RY VX R6 R7 R6 R6 a #[.string o,.slice I ah.length P,.slice J A.length Q,.bool f] v e) (s:=o) (ah:=ah) (rs:=A) (sk:=f) (cb:=R) (aV:=aV) (rb:=a6) (bh:=bh) (w0:=a) G (by have:=O ab;unfold Sw;omega) K (by have:=l ad;unfold Sw;omega) j L M N k trivial (fun e b=>by
  have fq:Si a.heap.size a e:=⟨b.os,b.tape,b.output,b.size,b.at_⟩;exact⟨_,_,_,[],_,[],al,trodAll_mk1 (shut_bool Tryz.underlying4 _),(trodAll_cons_mk (shut_string Tryz.underlying9 G) (trodAll_cons_mk (Below.trod laidOut (by kernel_rfl) (of_decide_eq_true (by kernel_rfl)) y fq a0) (trodAll_cons_mk (Below.trod laidOut (by kernel_rfl) (of_decide_eq_true (by kernel_rfl)) z fq a1) (trodAll_cons_mk (shut_bool Tryz.underlying4 f) trodAll_mk0)))),rfl,fq.frame _,fun X=>by cases X⟩)
 exact Dw aw trivial
def over:Rows.typedRow.holds Tryz.pinned (OpenSpec.ofChange Rows.typedSpec):=
 OpenClaim.holds_of_wide_leaving 5 VX rfl rfl rfl rfl rfl rfl rfl ⟨rfl,rfl,rfl,rfl,rfl⟩ rfl rfl rfl rfl rfl (by kernel_rfl) Tryz.func5 (by kernel_rfl)
  (of_decide_eq_true (by kernel_rfl)) (by unfold Func.isWrapper;first|(rw[if_pos (by decide +kernel)];kernel_rfl)|(rw[if_neg (by decide +kernel)];exact⟨rfl,rfl⟩))
  (fun c d a b _=>lifted c d a b)
end Go.Proofs.YtjidbonhhpkljaaGreat.OJ
namespace Go.Proofs.YtjidbonhhpkljaaGreat
theorem typed_holds:Rows.TypedSaid:=OJ.over
end Go.Proofs.YtjidbonhhpkljaaGreat
