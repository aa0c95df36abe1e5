/- Proved: at all its arguments the statement Kept answers true and leaves its arguments as they were; no condition beside the form's own reach. -/
import Derived.OpenShut
import Derived.Deep.Slices
import Derived.Deep.Strs
import Derived.SizedLaws
import Derived.Test.YtjidbonhhpkljaaGreatRows
import Derived.WalkKit
import Derived.ProofKit
import Derived.ShutString
import Derived.ChangeOld
import Derived.Below
import Derived.Conc.LeavingOf
import Derived.Conc.Holds
import Derived.Test.YtjidbonhhpkljaaGreatMe
set_option linter.all false
set_option maxRecDepth 100000
set_option maxHeartbeats 8000000
open Bool renaming false->T5,true->Z
open Go renaming Addr->UJ,TypeId->Ug,Value->U,World->F,maxLen->Up
open Go.Addr renaming add->Yr,add_lit->VL
open Go.ChangeSpec renaming witness6->YZ
open Go.Ending.returned renaming inj->YA
open Go.IntKind renaming bits->Yg,signed->XU
open Go.Proofs.Tryz renaming f4->VX,prog->T9,underlying22->XE,underlying43->Wz
open Go.Value.slice renaming inj->X3
open List renaming all_eq_true->Uy,length_map->UG,length_take->Vs,mem_map->U7,mem_of_mem_take->V4,mem_range->Vt,range->UK
open Nat renaming add_assoc->U5,le_refl->T6,lt_of_lt_of_le->Uc
open Option renaming none->K,some->I
open Prod renaming fst->Uw
set_option maxRecDepth 100000
set_option maxHeartbeats 8000000
namespace Go.Proofs.YtjidbonhhpkljaaGreat
namespace Cc
open Go Go.Conc
open Go.RowKit (Below)
open Ec
section
variable {Post:U->F->Prop}{kinds:List Int}{raw:List aD}{dS:List Int}{Fu:Int}{bo:Bool}{ah:List Int}{rs:List cE}{ko:Option UJ}{kb gL fE:Nat}{vo:Option UJ}{vb kg gO:Nat}{eo:Option UJ}{eb jf bV:Nat}{co:Option UJ}{cb bE aJ:Nat}{ro:Option UJ}{rb bh aN:Nat}{w0:F}
def O2(dE:kinds.length<=Up)(bA:raw.length<=Up)(dC:dS.length<=Up)(dq:∀x∈kinds,lO x)(dp:∀x∈dS,lO x)(dt:∀x∈raw,rB x/\x.s.size<=Up)(c9:lO Fu)(ds:∀x∈ah,lO x)(dr:∀x∈rs,lO x.col/\(rB x.low/\x.low.s.size<=Up)/\rB x.high/\x.high.s.size<=Up)
 (dl:ah.length<=Up) (dd:ah.length<=aJ) (eh:rs.length<=Up) (ef:rs.length<=aN)
 (a0:(0<kinds.length->ko=I ⟨kb,gL,K⟩)/\(0<kinds.length->kb<w0.heap.size)/\∀j,j<kinds.length->aM w0 kb (gL+j) (.int .i64 (kinds.getD j 0))) (Q:sI w0 vo vb kg raw) (aw:(0<dS.length->eo=I ⟨eb,jf,K⟩)/\(0<dS.length->eb<w0.heap.size)/\∀j,j<dS.length->aM w0 eb (jf+j) (.int .i64 (dS.getD j 0)))
 (bu:0<ah.length->co=I ⟨cb,bE,K⟩) (dk:0<ah.length->cb<w0.heap.size) (dc:∀j,j<ah.length->aM w0 cb (bE+j) (.int .i64 (ah.getD j 0))) (b1:dA w0 ro rb bh rs) (A:xF aI w0)
 (bB:∀H,RelB (gd w0) w0 H->Post (.bool Z) H):
 tQ aI T9 Post (Conc.G (Frame.enter T9 4 #[.slice ko kinds.length fE,.slice vo raw.length gO,.slice eo dS.length bV,.int .i64 Fu,.bool bo,.slice co ah.length aJ,.slice ro rs.length aN] .normal) []) w0:=by
 have c:=iq aI T9 Post;refine Xe.go (own:=gd w0) ?_ (λbi d=>d) A;rw[enter_at _ Tryz.func4 Y];have a:=TU (.slice ko kinds.length fE) (.slice vo raw.length gO) (.slice eo dS.length bV) (.int .i64 Fu) (.bool bo) (.slice co ah.length aJ) (.slice ro rs.length aN) 227 (by decide);have eq:(ah.take 16).length=min ah.length 16:=by rw[Vs];omega
 have er:(rs.take 16).length=min rs.length 16:=by rw[Vs];omega
 refine aS c ?_;refine bq c [0] Y ?_;refine mZ c a (.bool T5) λa=>?_;refine ak c ?_;refine aS c ?_;refine bq c [0,1,2] Y ?_;refine cG c a λa=>?_;refine oW (vs:= #[.slice co ah.length aJ]) (R:=λe v y=>∃C,v= .slice co (ah.take 16).length C) cU Y Y Y Y (mq (a.of Y)) Tryz.func8 SJ Y (jW Y Y Y).symm (dI Y (by simp only[put_defers]) (by kernel_rfl)) (λe i l=>(OP co ah.length aJ e dl dd λd=>⟨_,_,bu d⟩).mono λm y ⟨⟨C,_,T⟩,P⟩=>⟨by rw[P];exact Below.refl _ _,_,T,C,by rw[eq]⟩) λv e y H i l c2 b bs D=>?_;obtain⟨bj,rfl⟩:=b;replace a:=a.put (d:=38) (by decide) (.slice co (ah.take 16).length bj);refine gW c a λa=>?_;refine ak c ?_;refine aS c ?_;refine bq c [0,1,2] Y ?_;refine cG c a λa=>?_;refine oW (vs:= #[.slice ro rs.length aN]) (R:=λe v y=>∃C,v= .slice ro (rs.take 16).length C) cU Y Y Y Y (mq (a.of Y)) Tryz.func9 Fc Y (jW Y Y Y).symm (dI Y (by simp only[put_defers]) (by kernel_rfl)) (λe i l=>(Ad ro rs.length aN e eh ef λd=>⟨_,_,b1.addr d⟩).mono λm y ⟨⟨C,_,T⟩,P⟩=>⟨by rw[P];exact Below.refl _ _,_,T,C,by rw[er]⟩) λv e6 e7 hm gy hd gf b g5 X=>?_;obtain⟨ch,rfl⟩:=b;replace a:=a.put (d:=40) (by decide) (.slice ro (rs.take 16).length ch);refine gW c a λa=>?_;refine ak c ?_;have k:=ed D X;refine aS c ?_;refine nB cU a (by simp only[put_defers]) (kp 3 VX) _ (Ps λs d=>by cases d) (dI Y (by simp only[put_defers]) (by kernel_rfl)) (λv e b i l=>by
  have g:=(ij k).trans (m9 i l);have:=O4 e v raw.length bo (by
   rw[b 0 _ Y,b 1 _ Y,b 2 _ Y,b 3 _ Y,b 4 _ Y];exact MI kinds raw dS Fu bo ko kb gL fE vo vb kg gO eo eb jf bV e dE bA dC ⟨a0.1,λd=>Uc (a0.2.1 d) g.2,λj n=>g.cell (a0.2.2 j n)⟩ ⟨Q.addr,λd=>Uc (Q.lt d) g.2,λj n=>g.cell (Q.c0 j n),λj n=>g.cell (Q.c1 j n),λj n=>g.cell (Q.c2 j n)⟩ ⟨aw.1,λd=>Uc (aw.2.1 d) g.2,λj n=>g.cell (aw.2.2 j n)⟩ dq dp dt c9)
  rw[b 1 _ Y,b 5 _ Y,b 6 _ Y] at this;exact this) λfv e8 e9 hn g0 he gg d5 c6 ee=>?_
 obtain⟨⟨f8,base,f6,q,hk,o,f7,O,N,h,t,g8,a⟩,f⟩:=d5;replace h:=h.ce (AM c6);replace k:=ed k ee;have az:1<=q.length/\q.length<=8:=⟨t.table.1.1,t.table.1.2.1⟩;have bv:=gu t.table.1;refine aS c ?_;refine nB cU a f (kp 4 VX) _ (Ps λs d=>by cases d) (dI Y f (by kernel_rfl)) (λv e b i l=>by
  have:=ME v (b 15 _ Y) (h.ce (m9 i l)) t;rw[b 1 _ Y,b 5 _ Y,b 6 _ Y,b 15 _ Y] at this;exact this) λfx fa fb al g1 hf gi d6 gn b3=>?_
 obtain⟨⟨s,hj,en,a⟩,f⟩:=d6;replace h:=h.ce (ij b3);replace k:=ed k b3;refine aS c ?_;rcases en with⟨g7,rfl,rfl⟩|⟨hi,rfl,rfl⟩
 ·have c1:100<raw.length:=by
   rcases Nat.lt_or_ge 100 raw.length with d|d
   ·exact d
   ·have:=GK t bo (by rw[UG];omega);omega
  refine IQ cU a f (kp 5 VX) (λe M y=>Knows M 227 [(14,.bool Z)]/\M.defers=[]) (Ps λs d=>by cases d) (dI Y f (by kernel_rfl)) (λv e b i l=>O3 e v raw.length vo gO (b 1 _ Y) (b 16 _ Y) (b 17 _ Y) c1 bA) λcx cu cv e0 eQ c8 em c3 a1 c7 a4=>?_;obtain⟨a,f⟩:=a1;exact QH (by kernel_rfl) Y f Tryz.func4 (j5 Tryz.results4 (a.slot 14 _ Y)) λae J=>bB ae (ed (ed k a4) J)
 have bx:(eB q (o.map Uw) O bo N).length<=65536:=by omega
 refine nB cU a f (kp 5 VX) _ (Ps λs d=>by cases d) (dI Y f (by kernel_rfl)) (λv e b i l=>by
  have:=MC e v (b 17 _ Y);rw[b 5 _ Y,b 6 _ Y,b 15 _ Y,b 16 _ Y] at this;exact this) λfz fd fe L g2 hg gj d7 gq u=>?_
 obtain⟨a,f⟩:=d7;replace h:=h.ce (ij u);replace k:=ed k u;refine aS c ?_;refine bq c [0,1,2,3,4,5,6,7,8] Y ?_;refine cG c a λa=>?_;refine oW (vs:= #[.string (Pk.strOf (eB q (o.map Uw) O bo N))]) (R:=λe v y=>∃bl,v= .tuple #[bl,.int .i64 (o.length:Int),.int .i64 0]/\y.ownsRow e.heap.size 63 2 bl q.length (eG q)) cU Y Y Y Y (mq (a.of Y)) Tryz.func21 Ht Y (jW Y Y Y).symm (dI Y (by simp only[put_defers];exact f) (by kernel_rfl)) (λe i l=>by have:=xa t bx e;rw[UG] at this;exact this) λv e y ck i l c2 b bs b4=>?_;obtain⟨et,rfl,V⟩:=b;replace V:=(AM bs).own V;generalize e.heap.size=cR at V;replace a:=a.put (d:=66) (by decide) (.tuple #[et,.int .i64 (o.length:Int),.int .i64 0]);refine cG c a λa=>?_;refine rf c a λa=>?_;refine rf c a λa=>?_;refine rf c a λa=>?_;refine gW c a λa=>?_;refine gW c a λa=>?_;refine gW c a λa=>?_;refine ak c ?_;replace h:=h.ce (ij b4);replace k:=ed k b4;refine aS c ?_;refine nB cU a (by simp only[put_defers];exact f) (kp 7 VX) _ (Ps λs d=>by cases d) (dI Y (by simp only[put_defers];exact f) (by kernel_rfl)) (λv e b i l=>by
  have g:=m9 i l;have:=O5 v (b 15 _ Y) (h.ce g) (b2:=cR) (by rw[b 18 _ Y];exact g.own V);rw[b 5 _ Y,b 6 _ Y,b 15 _ Y,b 16 _ Y,b 17 _ Y,b 19 _ Y,b 20 _ Y] at this;exact this) λf0 fg fi ho g3 hh gl d8 gr b5=>?_
 obtain⟨a,f⟩:=d8;replace h:=h.ce (ij b5);replace k:=ed k b5;refine aS c ?_;refine nB cU a f (kp 8 VX) _ (Ps λs d=>by cases d) (dI Y f (by kernel_rfl)) (λv e b i l=>by
  have g:=m9 i l;have:=O7 v (b 15 _ Y) (h.ce g) (b 17 _ Y) (b 19 _ Y) (b 20 _ Y) (b 21 _ Y);rw[b 5 _ Y,b 6 _ Y,b 15 _ Y,b 16 _ Y] at this;exact this) λf1 fk fl cl g4 ca gm d9 gs b6=>?_
 obtain⟨a,f⟩:=d9;replace h:=h.ce (ij b6);replace k:=ed k b6;refine aS c ?_;refine bq c [0] Y ?_;refine mZ c a aO λa=>?_;refine ak c ?_;have U:∀j,j<(ah.take 16).length->j<ah.length:=λj n=>by simp at n;omega
 have df:=ij k;have db:∀e,Ce w0 e->(0<(ah.take 16).length->co=I ⟨cb,bE,K⟩)/\(0<(ah.take 16).length->cb<e.heap.size)/\∀j,j<(ah.take 16).length->aM e cb (bE+j) (.int .i64 ((ah.take 16).getD j 0)):=λe g=>⟨λd=>bu (U 0 d),λd=>Uc (dk (U 0 d)) g.2,λj n=>by
  rw[g.cell (dc j (U j n))];have T:=U j n;have P:j<16:=by simp at n;omega
  simp[List.getD_eq_getElem?_getD,List.getElem?_take,P]⟩
 have da:(ah.take 16).length<=16:=by omega
 have ec:(rs.take 16).length<=16:=by omega
 refine aS c ?_;refine nB cU a (by simp only[put_defers];exact f) (kp 10 VX) _ (Ps λs d=>by cases d) (dI Y (by simp only[put_defers];exact f) (by kernel_rfl)) (λv e b i l=>by
  have g:=m9 i l;have:=MB v (ah.take 16) co cb bE bj (b 5 _ Y) (b 15 _ Y) (b 22 _ Y) (h.ce g) az da (db e (df.trans g)) (λx a9=>ds x (V4 a9));rw[b 6 _ Y,b 15 _ Y,b 16 _ Y] at this;exact this) λfm cp e3 ae gt ha f9 d2 c4 J=>?_
 obtain⟨⟨f2,z,r,g6,bt,a⟩,f⟩:=d2;replace h:=h.ce (ij J);replace r:=(AM c4).own r;generalize cp.heap.size=f3 at r;replace k:=ed k J;obtain⟨S,R,rfl⟩:=bC r;refine aS c ?_;refine bq c [0] Y ?_;refine mZ c a aO λa=>?_;refine ak c ?_;refine aS c ?_;refine nB cU a (by simp only[put_defers];exact f) (kp 12 VX) _ (Ps λs d=>by cases d) (dI Y (by simp only[put_defers];exact f) (by kernel_rfl)) (λv e b i l=>by
  have g:=m9 i l;have:=JH v (rs.take 16) ro rb bh ch (b 6 _ Y) (b 15 _ Y) (b 24 _ Y) (h.ce g) az bv ec (((ij k).trans g).Su (dA.take b1 16)) (λx a9=>dr x (V4 a9));rw[b 15 _ Y,b 16 _ Y,b 22 _ Y] at this;exact this) λft cs e4 hl gv hb gc d3 c5 a3=>?_
 obtain⟨⟨qv,w,B,g9,b0,a⟩,f⟩:=d3;replace h:=h.ce (ij a3);replace B:=(AM c5).own B;generalize cs.heap.size=f4 at B;replace r:=(ij a3).own r;replace k:=ed k a3;obtain⟨ab,aa,rfl⟩:=bC B;refine aS c ?_;refine bq c [0] Y ?_;refine mZ c a aO λa=>?_;refine ak c ?_;have ea:∀E∈w,0<=E.col/\E.col<(q.length:Int):=λE d=>(Nk bv t.eH.1.symm (b0 E d)).1;refine aS c ?_;refine nB cU a (by simp only[put_defers];exact f) (kp 14 VX) _ (Ps λs d=>by cases d) (dI Y (by simp only[put_defers];exact f) (by kernel_rfl)) (λv e b i l=>by
  have g:=m9 i l;have:=(by
   obtain⟨cd,cf,a2⟩:=Ei (g.own B);obtain⟨bd,be,ar,au,av⟩:=Eh (g.own r);exact O8 v z w ab cd cf aa (b 15 _ Y) (by rw[b 22 _ Y];exact⟨S,bd,be,R,rfl,ar,au,av⟩) (b 24 _ Y) (b 28 _ Y) (h.ce g) (by omega) (by omega) (by have:=t.table.2.1;rw[UG] at this;exact this) (λp A=>t.len p.1 (U7.2 ⟨p,A,rfl⟩)) az bt ea a2:(kp 14 VX).wp aI _ (nJ v) e)
  rw[b 16 _ Y,b 22 _ Y,b 24 _ Y] at this;exact this) λfu bc e5 bb gx hc ge d4 bm W=>?_
 obtain⟨⟨hp,cn,br,ao,a⟩,f⟩:=d4;replace h:=h.ce (ij W);have a8:=(AM bm).own br.rows;have a7:∀p∈cn,bb.ownsRow bc.heap.size 59 3 p.2 p.1.length (aG p.1):=λp A=>(AM bm).own (br.each p A);generalize bc.heap.size=f5 at a8 a7;replace B:=(ij W).own B;replace r:=(ij W).own r;replace k:=ed k W;have dO:(((o.map Uw).filter (fF w)).map (eS z)).length<=Up:=by rw[<-ao,UG];exact nu a8
 have dT:∀E∈((o.map Uw).filter (fF w)).map (eS z),E.length<=Up:=λE b2=>by
  rw[<-ao] at b2;obtain⟨p,A,rfl⟩:=U7.1 b2;exact nu (a7 p A)
 obtain⟨cd,cf,a2⟩:=Ei B;obtain⟨bd,be,ar,au,av⟩:=Eh r;have ci:∀(sk:Bool) (ad:F),RelB (gd bb) bb ad->mh aI T9 Post 13 #[.string (Pk.strOf (eB q (o.map Uw) O bo N)),.slice S z.length R,.slice ab w.length aa,.bool sk] ad (Df (((o.map Uw).filter (fF w)).map (eS z),0) ad):=λsk ad a6=>JG t bx bt b0 (by omega) (by omega) sk ar (λd=>Uc (au d) a6.size) (λj n=>(ij a6).cell (av j n)) ((ij a6).Su a2);refine aS c ?_;refine bq c [0,1,2,3,4,5,6,7,8] Y ?_;refine cG c a λa=>?_;refine cG c a λa=>?_;refine cG c a λa=>?_;refine sC (vs:= #[.string (Pk.strOf (eB q (o.map Uw) O bo N)),.slice S z.length R,.slice ab w.length aa,.bool T5]) (R:=λH m G=>Df (((o.map Uw).filter (fF w)).map (eS z),0) H m G) Y Y Y Y (xJ (a.of Y) (a.of Y) (a.of Y) Y) Tryz.func13 Oh Y (dI Y (by simp only[put_defers];exact f) (by kernel_rfl)) (λL u=>ci T5 L u) (λL v ck u ap a5 d0=>?_) (λal c0 G ⟨_,m,_⟩=>by cases m) (λal G ⟨_,m,_⟩=>by cases m);obtain⟨e1,m,ba,-,du,el⟩:=ap;have am:=YA m;subst am;have D:=Es u du el a5;refine Xe.go (own:=gd ck) ?_ (λbi d=>d) d0;replace a:=a.put (d:=199) (by decide) (.tuple #[e1,.int .i64 0]);refine cG c a λa=>?_;refine rf c a λa=>?_;refine rf c a λa=>?_;refine gW c a λa=>?_;refine gW c a λa=>?_;refine ak c ?_;refine aS c ?_;refine bq c [0,1,2,3,4,5,6,7,8] Y ?_;refine cG c a λa=>?_;refine cG c a λa=>?_;refine cG c a λa=>?_;refine sC (vs:= #[.string (Pk.strOf (eB q (o.map Uw) O bo N)),.slice S z.length R,.slice ab w.length aa,.bool Z]) (R:=λH m G=>Df (((o.map Uw).filter (fF w)).map (eS z),0) H m G) Y Y Y Y (xJ (a.of Y) (a.of Y) (a.of Y) Y) Tryz.func13 Oh Y (dI Y (by simp only[put_defers];exact f) (by kernel_rfl)) (λL u=>ci Z L (ed D u)) (λL v cl u ap a5 d1=>?_) (λal c0 G ⟨_,m,_⟩=>by cases m) (λal G ⟨_,m,_⟩=>by cases m);obtain⟨e2,m,es,-,dv,ca⟩:=ap;have am:=YA m;subst am;have X:=Es u dv ca a5;replace ba:=sH.like ba (Nh X);replace D:=ed D X;refine Xe.go (own:=gd cl) ?_ (λbi d=>d) d1;replace a:=a.put (d:=206) (by decide) (.tuple #[e2,.int .i64 0]);refine cG c a λa=>?_;refine rf c a λa=>?_;refine rf c a λa=>?_;refine gW c a λa=>?_;refine gW c a λa=>?_;refine ak c ?_;refine IQ cU a (by simp only[put_defers];exact f) (kd 17 VX) (λe M y=>Knows M 227 [(14,.bool Z)]/\M.defers=[]) (λs d=>by simp at d) (dI Y (by simp only[put_defers];exact f) (by kernel_rfl)) (λv e b i l=>?_) λcx cu cv e0 eQ c8 em c3 a1 c7 a4=>?_
 ·have g:=(ij D).trans (m9 i l);have cc:=vS (g.own a8) (λp A=>g.own (a7 p A));rw[ao] at cc;exact O6 e v _ (b 17 _ Y) (b 20 _ Y) (by rw[b 33 _ Y];exact(sH.like ba i).TN.1) (by rw[b 34 _ Y];exact(sH.like es i).TN.1) (by rw[b 28 _ Y];exact cc) dO dT
 ·obtain⟨a,f⟩:=a1;exact QH (by kernel_rfl) Y f Tryz.func4 (j5 Tryz.results4 (a.slot 14 _ Y)) λae J=>bB ae (ed (ed (ed k D) a4) J)
end
end Cc
namespace Cc
open Go Go.Conc
open Ec
def Tq:T9.cellsOf 3=1:=by kernel_rfl
def TW:T9.cellsOf 4=1:=by kernel_rfl
def TZ:T9.cellsOf 9=1:=by kernel_rfl
def Tt:T9.cellsOf 59=3:=by kernel_rfl
def TY:T9.cellsOf 61=7:=by kernel_rfl
def Tu:T9.bytesOf 59=32:=by kernel_rfl
def TX:T9.bytesOf 3=8:=by kernel_rfl
def Ts:T9.bytesOf 61=72:=by kernel_rfl
def ry {H:Type}(d:DataW H)(t:Ug):Prop:=∀a∈d.weights T9 t,a<=140737488351232
def ry.slice{H:Type}{es a:List (DataW H)}{t e:Ug}(h:ry (.slice es a) t)(b:T9.underlying t=I (.slice e)):es.length*T9.bytesOf e<=140737488351232:=by
 have:=h ((es.length+a.length)*T9.bytesOf e) (by simp[DataW.weights,b]);exact Nat.le_trans (Nat.mul_le_mul_right _ (Nat.le_add_right _ _)) this
def DY{n:Int}(h:(Lit.int .i64 n).wf=Z):lO n:=by
 simp[Lit.wf,IntKind.min,IntKind.max,XU,Yg] at h;unfold lO;omega
section
variable {H:Type}{enc:Ug×U->H}{w:F}{spare:Nat->Bool}{held:Bool}{fuel:Nat}{v:U}{x:DataW H×List MemPlace}
def sn(h:DataW.trod enc T9 w 0 spare held fuel 22 [v]=I x):
 ∃(l:List Int) (o:Option UJ) (b off cap:Nat),v= .slice o l.length cap/\l.length<=cap/\(0<l.length->o=I ⟨b,off,K⟩)/\(0<l.length->b<w.heap.size)/\(∀j,j<l.length->aM w b (off+j) (.int .i64 (l.getD j 0)))/\(ry x.1 22->l.length<=140737488351232)/\∀x∈l,lO x:=by
 rcases Deep.open_slice1 XE Tq h with⟨e,_⟩|⟨i,a,cap,m,O,V,D,L,e,_,u,N,C,rfl,n⟩
 ·simp at e;subst e;exact⟨[],K,0,0,0,rfl,T6 _,λh=>by simp at h,λh=>by simp at h,λj h=>by simp at h,λ_=>by simp,λx h=>by simp at h⟩
 ·simp at e;subst e;have M:a<=m:=by rw[C];split<;>omega
  have z:∀d,d<a->∃p:Int,w.cell? (i.add d)=I (.int .i64 p)/\lO p:=by
   intro d s;obtain⟨A,B⟩:=n d (by omega);obtain⟨G,y,_,F⟩:=DataW.trod_int Tryz.underlying3 B;simp at y;exact⟨G,by rw[A,y],DY F⟩
  obtain⟨f,k⟩:=Deep.choose_lt z;have c:((UK a).map f).length=a:=by simp
  have t:∀x∈(UK a).map f,lO x:=λx n=>by
   obtain⟨d,s,rfl⟩:=U7.1 n;exact(k d (Vt.1 s)).2
  by_cases r:0<a
  ·obtain⟨b,off,J⟩:=i;have E:J=K:=by simpa [Yr] using World.cell?_spot (k 0 r).1
   subst E;have q:∀j,j<a->aM w b (off+j) (.int .i64 (f j)):=λj g=>by have:=(k j g).1;rwa [VL] at this
   refine⟨(UK a).map f,I ⟨b,off,K⟩,b,off,cap,by rw[c],by rw[c];exact u,λ_=>rfl,λ_=>World.block_lt_of_cell? w ⟨b,off+0,K⟩ (q 0 r),?_,λhF=>?_,t⟩
   ·intro j g;rw[c] at g;rw[q j g];simp[g]
   ·have:=hF.slice XE;rw[TX] at this;simp at this ⊢;omega
  ·refine⟨(UK a).map f,I i,0,0,cap,by rw[c],by rw[c];exact u,λh=>?_,λh=>?_,λj h=>?_,λ_=>?_,t⟩
   all_goals (rw[c] at *;omega)
def uE{fuel:Nat}{cs:List U}{x:DataW H×List MemPlace}(h:DataW.trod enc T9 w 0 spare held fuel 59 cs=I x):∃y:aD,cs=[.bool y.null,.int .i64 y.n,.string y.s]/\rB y/\y.s.size<=Up:=by
 obtain⟨q,r,t,m,_,e,a,b,c⟩:=Deep.trod_struct3 Tryz.underlying59 h;rw[Tt] at e
 match cs,e with
 | [n,o,p],_=>
  simp[Tq,TZ,TW] at a b c;obtain⟨j,d,_⟩:=DataW.trod_bool Tryz.underlying4 a;obtain⟨l,f,_,i⟩:=DataW.trod_int Tryz.underlying3 b;obtain⟨s,g,_,k⟩:=DataW.trod_string Tryz.underlying9 c;simp at d f g;subst d f g;exact⟨⟨j,l,s⟩,rfl,⟨(DY i).1,(DY i).2⟩,k⟩
def Gh(h:DataW.trod enc T9 w 0 spare held fuel 23 [v]=I x):
 ∃(l:List cE) (r:Option UJ) (b off cap:Nat),v= .slice r l.length cap/\l.length<=cap/\dA w r b off l/\(ry x.1 23->l.length<=140737488351232)/\∀c∈l,lO c.col/\(rB c.low/\c.low.s.size<=Up)/\rB c.high/\c.high.s.size<=Up:=by
 rcases Deep.open_slice Tryz.underlying23 h with⟨p,_⟩|⟨i,g,cap,m,ar,D,al,p,_,O,ao,Y,rfl,q⟩
 ·simp at p;subst p;exact⟨[],K,0,0,0,rfl,T6 _,⟨λh=>by simp at h,λh=>by simp at h,λa h=>by simp at h,λa h=>by simp at h,λa h=>by simp at h,λa h=>by simp at h,λa h=>by simp at h,λa h=>by simp at h,λa h=>by simp at h⟩,λ_=>by simp,λc h=>by simp at h⟩
 ·simp at p;subst p;have am:g<=m:=by rw[Y];split<;>omega
  rw[TY] at q;have S:∀e,e<g->∃c:cE,w.cell? (i.add (e*7))=I (.int .i64 c.col)/\w.cell? (i.add (e*7+1))=I (.bool c.low.null)/\w.cell? (i.add (e*7+2))=I (.int .i64 c.low.n)/\w.cell? (i.add (e*7+3))=I (.string c.low.s)/\w.cell? (i.add (e*7+4))=I (.bool c.high.null)/\w.cell? (i.add (e*7+5))=I (.int .i64 c.high.n)/\w.cell? (i.add (e*7+6))=I (.string c.high.s)/\lO c.col/\(rB c.low/\c.low.s.size<=Up)/\rB c.high/\c.high.s.size<=Up:=by
   intro e M;obtain⟨R,T,U⟩:=q e (by omega);obtain⟨_,o,k⟩:=World.cells?_some T;obtain⟨a3,a4,a5,ap,_,_,E,F,G⟩:=Deep.trod_struct3 Tryz.underlying61 U
   match R,o with
   | [au,av,aw,az,a0,a1,a2],_=>
    simp[Tq,Tt] at E F G;obtain⟨ad,Q,_,aa⟩:=DataW.trod_int Tryz.underlying3 E;obtain⟨ab,P,X⟩:=uE F;obtain⟨W,L,V⟩:=uE G;simp at Q P L;obtain⟨rfl,rfl,rfl⟩:=P;obtain⟨rfl,rfl,rfl⟩:=L;subst Q;have t:=k 0 (by omega);have u:=k 1 (by omega);have y:=k 2 (by omega);have z:=k 3 (by omega);have A:=k 4 (by omega);have B:=k 5 (by omega);have C:=k 6 (by omega);rw[Deep.add_add] at t u y z A B C;exact⟨⟨ad,ab,W⟩,by simpa using t,by simpa using u,by simpa using y,by simpa using z,by simpa using A,by simpa using B,by simpa using C,DY aa,X,V⟩
  obtain⟨f,j⟩:= @Deep.choose_lt cE ⟨⟨0,⟨T5,0,⟨#[]⟩⟩,⟨T5,0,⟨#[]⟩⟩⟩⟩ _ _ S;have o:((UK g).map f).length=g:=by simp
  have N:∀c∈(UK g).map f,lO c.col/\(rB c.low/\c.low.s.size<=Up)/\rB c.high/\c.high.s.size<=Up:=λx q=>by
   obtain⟨e,M,rfl⟩:=U7.1 q;exact(j e (Vt.1 M)).2.2.2.2.2.2.2
  have n:∀a,(d:a<((UK g).map f).length)->((UK g).map f)[a]=f a:=λa d=>by simp
  by_cases J:0<g
  ·obtain⟨b,off,ae⟩:=i;have Z:ae=K:=by simpa [Yr] using World.cell?_spot (j 0 J).1
   subst Z;have s:∀a,a<g->aM w b (off+a*7) (.int .i64 (f a).col):=λa d=>by have:=(j a d).1;rwa [VL] at this
   refine⟨(UK g).map f,I ⟨b,off,K⟩,b,off,cap,by rw[o],by rw[o];exact O,⟨λ_=>rfl,λ_=>World.block_lt_of_cell? w ⟨b,off+0*7,K⟩ (s 0 J),?_,?_,?_,?_,?_,?_,?_⟩,λhF=>?_,N⟩
   ·intro a d;rw[n a d];exact s a (by simpa using d)
   ·intro a d;rw[n a d];have:=(j a (by simpa using d)).2.1;rwa [VL,<-U5] at this
   ·intro a d;rw[n a d];have:=(j a (by simpa using d)).2.2.1;rwa [VL,<-U5] at this
   ·intro a d;rw[n a d];have:=(j a (by simpa using d)).2.2.2.1;rwa [VL,<-U5] at this
   ·intro a d;rw[n a d];have:=(j a (by simpa using d)).2.2.2.2.1;rwa [VL,<-U5] at this
   ·intro a d;rw[n a d];have:=(j a (by simpa using d)).2.2.2.2.2.1;rwa [VL,<-U5] at this
   ·intro a d;rw[n a d];have:=(j a (by simpa using d)).2.2.2.2.2.2.1;rwa [VL,<-U5] at this
   ·have:=hF.slice Tryz.underlying23;rw[Ts] at this;simp at this ⊢;omega
  ·refine⟨(UK g).map f,I i,0,0,cap,by rw[o],by rw[o];exact O,⟨λh=>?_,λh=>?_,λa h=>?_,λa h=>?_,λa h=>?_,λa h=>?_,λa h=>?_,λa h=>?_,λa h=>?_⟩,λ_=>?_,N⟩
   all_goals (rw[o] at *;omega)
def Gi(h:DataW.trod enc T9 w 0 spare held fuel 43 [v]=I x):
 ∃(l:List aD) (r:Option UJ) (b off cap:Nat),v= .slice r l.length cap/\sI w r b off l/\(ry x.1 43->l.length<=140737488351232)/\∀c∈l,rB c/\c.s.size<=Up:=by
 rcases Deep.open_slice Wz h with⟨j,_⟩|⟨i,e,cap,m,T,D,O,j,_,Q,S,G,rfl,o⟩
 ·simp at j;subst j;exact⟨[],K,0,0,0,rfl,⟨λh=>by simp at h,λh=>by simp at h,λa h=>by simp at h,λa h=>by simp at h,λa h=>by simp at h⟩,λ_=>by simp,λc h=>by simp at h⟩
 ·simp at j;subst j;have R:e<=m:=by rw[G];split<;>omega
  rw[Tt] at o;have C:∀g,g<e->∃c:aD,w.cell? (i.add (g*3))=I (.bool c.null)/\w.cell? (i.add (g*3+1))=I (.int .i64 c.n)/\w.cell? (i.add (g*3+2))=I (.string c.s)/\rB c/\c.s.size<=Up:=by
   intro g A;obtain⟨P,E,F⟩:=o g (by omega);obtain⟨_,n,p⟩:=World.cells?_some E;obtain⟨N,rfl,L⟩:=uE F;have t:=p 0 (by omega);have u:=p 1 (by omega);have y:=p 2 (by omega);rw[Deep.add_add] at t u y;exact⟨N,by simpa using t,by simpa using u,by simpa using y,L⟩
  obtain⟨f,k⟩:= @Deep.choose_lt aD ⟨⟨T5,0,⟨#[]⟩⟩⟩ _ _ C;have n:((UK e).map f).length=e:=by simp
  have B:∀c∈(UK e).map f,rB c/\c.s.size<=Up:=λx o=>by
   obtain⟨g,A,rfl⟩:=U7.1 o;exact(k g (Vt.1 A)).2.2.2
  have q:∀a,(d:a<((UK e).map f).length)->((UK e).map f)[a]=f a:=λa d=>by simp
  by_cases z:0<e
  ·obtain⟨b,off,M⟩:=i;have J:M=K:=by simpa [Yr] using World.cell?_spot (k 0 z).1
   subst J;have s:∀a,a<e->aM w b (off+a*3) (.bool (f a).null):=λa d=>by have:=(k a d).1;rwa [VL] at this
   refine⟨(UK e).map f,I ⟨b,off,K⟩,b,off,cap,by rw[n],⟨λ_=>rfl,λ_=>World.block_lt_of_cell? w ⟨b,off+0*3,K⟩ (s 0 z),?_,?_,?_⟩,λhF=>?_,B⟩
   ·intro a d;rw[q a d];exact s a (by simpa using d)
   ·intro a d;rw[q a d];have:=(k a (by simpa using d)).2.1;rwa [VL,<-U5] at this
   ·intro a d;rw[q a d];have:=(k a (by simpa using d)).2.2.1;rwa [VL,<-U5] at this
   ·have:=hF.slice Wz;rw[Tu] at this;simp at this ⊢;omega
  ·refine⟨(UK e).map f,I i,0,0,cap,by rw[n],⟨λh=>?_,λh=>?_,λa h=>?_,λa h=>?_,λa h=>?_⟩,λ_=>?_,B⟩
   all_goals (rw[n] at *;omega)
end
end Cc
end Go.Proofs.YtjidbonhhpkljaaGreat
namespace Go.Proofs.YtjidbonhhpkljaaGreat.kept
open Go.ChangeShapes Go.WideShapes Go.ChangeAt Go.RowKit
open Go.ChangeMaps (open_string shut_string)
open Go.Conc Go.Proofs.YtjidbonhhpkljaaGreat.Cc
def own:ownKnob T9.godebug=K:=by kernel_rfl
def laidOut:laidOutB T9=Z:=by kernel_rfl
def lifted(os:Os)(c9:os.Started)(H:Type)(enc:Ug×U->H):
 ReturnsInLeavingWide {} Tryz.checked os 4 .any (Rows.keptSpec.pre6 enc T9 VX Rows.keptRow.domain T5) (Rows.keptSpec.post enc T9 VX T5 Z T5 T5):=by
 refine returnsInLeavingWide_of_change_sized (C:=Tryz.checked) own c9 Tryz.func4
  (YZ (enc:=enc) (C:=Tryz.checked) T5 ⟨#[],#[aO,aO,aO,.int .i64 0,.bool T5,aO,aO],[]⟩ 8 (by kernel_rfl) (by kernel_rfl) (by kernel_rfl) (by kernel_rfl)) ?_
 intro b base args l bj df ca t d4 b5 _;have g:(DataW.weightsEach T9 (VX.params.toList++Rows.keptSpec.plain.varTypes T9) (l++bj)).all (·<=reachBytes)=Z:=b5;have f:∀(u:Nat) E v,VX.params[u]? =I E->args[u]? =I v->Value.okWide T9 b .any base E v:=ca;have bB:=t;obtain⟨cs,eh,br,bA,rfl,d5,d6⟩:=t;have s:DataW.TrodAll enc T9 b 0 (λ_=>Z) Z VX.params.toList args.toList l cs:=br;rw[Tryz.params4] at s f g;obtain⟨F,e1,au,dq,cu,el,d3,rfl,rfl,n,c1⟩:=trodAll_cons s;obtain⟨G,e2,av,dr,cv,em,rfl,rfl,rfl,o,c2⟩:=trodAll_cons c1;obtain⟨J,e3,aw,ds,cx,en,rfl,rfl,rfl,p,c3⟩:=trodAll_cons c2;obtain⟨K,e4,dl,dt,ee,eo,rfl,rfl,rfl,bm,c4⟩:=trodAll_cons c3;obtain⟨L,e5,dp,du,ef,eq,rfl,rfl,rfl,bo,c5⟩:=trodAll_cons c4;obtain⟨M,e6,az,dv,cR,er,rfl,rfl,rfl,q,c6⟩:=trodAll_cons c5;obtain⟨N,e7,a0,dC,c0,es,rfl,rfl,rfl,r,c7⟩:=trodAll_cons c6;obtain⟨rfl,rfl,rfl⟩:=trodAll_nil c7;obtain rfl:args=#[F,G,J,K,L,M,N]:=by cases args;simp_all
 obtain⟨rfl,rfl⟩:=trodVars_none bA;obtain⟨P,d8,ae,rfl⟩:=okWide_slice XE (f 0 22 F rfl rfl);obtain⟨Q,d9,al,rfl⟩:=okWide_slice Wz (f 1 43 G rfl rfl);obtain⟨R,ea,am,rfl⟩:=okWide_slice XE (f 2 22 J rfl rfl);obtain⟨S,eb,ao,rfl⟩:=okWide_slice XE (f 5 22 M rfl rfl);obtain⟨T,ec,ap,rfl⟩:=okWide_slice Tryz.underlying23 (f 6 23 N rfl rfl);obtain⟨j,rfl,rfl,rfl,O⟩:=open_int Tryz.underlying3 (f 3 3 K rfl rfl) bm;obtain⟨k,rfl,rfl,rfl⟩:=open_bool Tryz.underlying4 (f 4 4 L rfl rfl) bo;have w:=n;have ck:∀e∈cu,e.block<b.heap.size:=by obtain⟨m,c⟩:=w;exact DataW.trod_lt m _ _ _ c
 have bs:ry au 22:=λa d=>of_decide_eq_true (Uy.1 g a (DataW.weights_mem_each (j:=0) Y Y a d));obtain⟨dO,b0⟩:=n;have x:=o;have cl:∀e∈cv,e.block<b.heap.size:=by obtain⟨m,c⟩:=x;exact DataW.trod_lt m _ _ _ c
 have bt:ry av 43:=λa d=>of_decide_eq_true (Uy.1 g a (DataW.weights_mem_each (j:=1) Y Y a d));obtain⟨dT,b1⟩:=o;have y:=p;have cn:∀e∈cx,e.block<b.heap.size:=by obtain⟨m,c⟩:=y;exact DataW.trod_lt m _ _ _ c
 have bu:ry aw 22:=λa d=>of_decide_eq_true (Uy.1 g a (DataW.weights_mem_each (j:=2) Y Y a d));obtain⟨d0,b2⟩:=p;have z:=q;have co:∀e∈cR,e.block<b.heap.size:=by obtain⟨m,c⟩:=z;exact DataW.trod_lt m _ _ _ c
 have bv:ry az 22:=λa d=>of_decide_eq_true (Uy.1 g a (DataW.weights_mem_each (j:=5) Y Y a d));obtain⟨d1,b3⟩:=q;have A:=r;have cp:∀e∈c0,e.block<b.heap.size:=by obtain⟨m,c⟩:=A;exact DataW.trod_lt m _ _ _ c
 have bx:ry a0 23:=λa d=>of_decide_eq_true (Uy.1 g a (DataW.weights_mem_each (j:=6) Y Y a d));obtain⟨d2,b4⟩:=r;obtain⟨B,d7,cb,gL,fE,a1,-,cc,cd,cf,ch,ci⟩:=sn b0;obtain⟨C,e0,da,kg,gO,a2,db,dc,dd⟩:=Gi b1;obtain⟨dS,dE,a6,jf,bV,a3,-,a7,a8,a9,ba,bb⟩:=sn b2;obtain⟨ah,dk,ar,bE,aJ,a4,V,W,X,aa,ab,ad⟩:=sn b3;obtain⟨D,et,c8,bh,aN,a5,bc,bd,be,bi⟩:=Gh b4;obtain⟨rfl,rfl,rfl⟩:=X3 a1;obtain⟨rfl,rfl,rfl⟩:=X3 a2;obtain⟨rfl,rfl,rfl⟩:=X3 a3;obtain⟨rfl,rfl,rfl⟩:=X3 a4;obtain⟨rfl,rfl,rfl⟩:=X3 a5;obtain⟨eQ,b6⟩:=O2 (Post:=λv i=>Rows.keptSpec.post enc T9 VX T5 Z T5 T5 b #[.slice P B.length ae,.slice Q C.length al,.slice R dS.length am,.int .i64 j,.bool k,.slice S ah.length ao,.slice T D.length ap] v i) (kinds:=B) (raw:=C) (dS:=dS) (Fu:=j) (bo:=k) (ah:=ah) (rs:=D) (kb:=cb) (gL:=gL) (vb:=da) (kg:=kg) (eb:=a6) (jf:=jf) (cb:=ar) (bE:=bE) (rb:=c8) (bh:=bh) (w0:=b) (by have:=ch bs;unfold Up;omega) (by have:=dc bt;unfold Up;omega) (by have:=ba bu;unfold Up;omega) ci bb dd (DY O) ad bi (by have:=ab bv;unfold Up;omega) V (by have:=be bx;unfold Up;omega) bc ⟨cc,cd,cf⟩ db ⟨a7,a8,a9⟩ W X aa bd trivial (λi h=>by
  have de:aP b i:=⟨h.os,h.tape,h.output,h.size,h.at_⟩;exact⟨_,_,_,[],_,[],bB,trodAll_mk1 (shut_bool Tryz.underlying4 _),(trodAll_cons_mk (Below.trod laidOut (by kernel_rfl) (of_decide_eq_true (by kernel_rfl)) w de ck) (trodAll_cons_mk (Below.trod laidOut (by kernel_rfl) (of_decide_eq_true (by kernel_rfl)) x de cl) (trodAll_cons_mk (Below.trod laidOut (by kernel_rfl) (of_decide_eq_true (by kernel_rfl)) y de cn) (trodAll_cons_mk (shut_int Tryz.underlying3 O) (trodAll_cons_mk (shut_bool Tryz.underlying4 _) (trodAll_cons_mk (Below.trod laidOut (by kernel_rfl) (of_decide_eq_true (by kernel_rfl)) z de co) (trodAll_cons_mk (Below.trod laidOut (by kernel_rfl) (of_decide_eq_true (by kernel_rfl)) A de cp) trodAll_mk0))))))),rfl,de.frame _,λbl=>by cases bl⟩)
 exact ED b6 trivial
def over:Rows.keptRow.holds Tryz.pinned (OpenSpec.ofChange Rows.keptSpec):=
 OpenClaim.holds_of_wide_leaving 4 VX Y Y Y Y Y Y Y ⟨rfl,rfl,rfl,rfl,rfl⟩ Y Y Y Y Y (by kernel_rfl) Tryz.func4 (by kernel_rfl)
  (of_decide_eq_true (by kernel_rfl)) (by unfold Func.isWrapper;first|(rw[if_pos (by decide +kernel)];kernel_rfl)|(rw[if_neg (by decide +kernel)];exact⟨rfl,rfl⟩))
  (λc d a b _=>lifted c d a b)
end Go.Proofs.YtjidbonhhpkljaaGreat.kept
namespace Go.Proofs.YtjidbonhhpkljaaGreat
theorem kept_holds:Rows.KeptSaid:=kept.over
end Go.Proofs.YtjidbonhhpkljaaGreat
