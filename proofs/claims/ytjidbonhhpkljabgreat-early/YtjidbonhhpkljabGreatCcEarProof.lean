/- Proved: at every text, columns, ranges, word on skipping and number the statement Early answers true and leaves its arguments as they were; no condition beside the form's own reach. -/
import Derived.Test.YtjidbonhhpkljabGreatRows
import Derived.WalkKit
import Derived.ProofKit
import Derived.OpenShut
import Derived.ShutString
import Derived.ChangeOld
import Derived.Below
import Derived.SizedLaws
import Derived.Conc.LeavingOf
import Derived.Conc.Holds
import Derived.Test.YtjidbonhhpkljabGreatMe
set_option linter.all false
set_option maxRecDepth 100000
set_option maxHeartbeats 8000000
open Array renaming getElem?_eq_some_iff->U4
open Bool renaming false->U5,true->Z
open False renaming elim->YJ
open Go renaming World->F,maxLen->Vp
open Go.Addr.mk renaming injEq->Xk
open Go.ChangeSpec renaming witness6->Z2
open Go.Ending.returned renaming inj->XG
open Go.IntKind renaming bits->Zf,signed->YV
open Go.Proofs.Tryz renaming f3->Wp,prog->U1
open Go.Value renaming cells->WV
open Go.Value.slice renaming inj->ZW,injEq->V7
open List renaming all_eq_true->Vx,length_take->WB
open Nat renaming le_refl->U7,le_trans->Vm,lt_of_lt_of_le->U9,zero_le->VB
open Option renaming none->K,some->I
open Option.some renaming injEq->VY
open Or renaming inr->ZD
open Prod renaming fst->Vy,snd->WD
set_option maxRecDepth 100000
set_option maxHeartbeats 8000000
namespace Go.Proofs.YtjidbonhhpkljabGreat
namespace Cc
open Go Go.Conc
open Go.RowKit (Below)
open Ec Pk
section
variable {Post:Value->F->Prop}{s:ByteArray}{ah:List Int}{rs:List bT}{co:Option Addr}{cb bH aG:Nat}{ro:Option Addr}{rb bF aK:Nat}{sk:Bool}{kk:Int}{w0:F}
def MX(c1:s.size<=Vp)(f1:ah.length<=Vp)(f0:ah.length<=aG)(g6:rs.length<=Vp)(g5:rs.length<=aK)(f9: -9223372036854775808<=kk)(gc:kk<=9223372036854775807)
 (cB:0<ah.length->co=I ⟨cb,bH,K⟩) (dE:0<ah.length->cb<w0.heap.size) (dC:∀j,j<ah.length->w0.cell? ⟨cb,bH+j,K⟩=I (.int .i64 (ah.getD j 0))) (c5:dK w0 ro rb bF rs) (bj:xR (ax U1) w0)
 (d8:∀y,RelB (dY w0) w0 y->Post (.bool Z) y):
 ux (ax U1) U1 Post (Conc.G (Frame.enter U1 3 #[.string s,.slice co ah.length aG,.slice ro rs.length aK,.bool sk,.int .i64 kk] .normal) []) w0:=by
 have d:=eX (ax U1) U1 Post;refine Xe.go (own:=dY w0) ?_ (λa c=>c) bj;rw[enter_at _ Tryz.func3 Y];have b:=UI (.string s) (.slice co ah.length aG) (.slice ro rs.length aK) (.bool sk) (.int .i64 kk) 196 (by decide);obtain⟨P,hF⟩:=Ja s w0 c1;obtain⟨V,du⟩:=EE w0 hF;have hc:(ah.take 16).length=min ah.length 16:=by rw[WB];omega
 have he:(rs.take 16).length=min rs.length 16:=by rw[WB];omega
 refine aJ d ?_;refine bg d [0] Y ?_;refine oz d b (.bool U5) λb=>?_;refine aj d ?_;refine aJ d ?_;refine bg d [0,1,2] Y ?_;refine bX d b λb=>?_;refine nS (vs:= #[.slice co ah.length aG]) (R:=λk v u=>∃T,v= .slice co (ah.take 16).length T) bI Y Y Y Y (mK (b.of Y)) Tryz.func4 TY Y (iW Y Y Y).symm (bL Y (by simp only[put_defers]) (by kernel_rfl)) (λk x C=>(PK co ah.length aG k f1 f0 λc=>⟨_,_,cB c⟩).mono λe u ⟨⟨T,_,D⟩,B⟩=>⟨by rw[B];exact Below.refl _ _,_,D,T,by rw[hc]⟩) λv k u y x C fd h cf g2=>?_;obtain⟨bx,rfl⟩:=h;replace b:=b.put (d:=27) (by decide) (.slice co (ah.take 16).length bx);refine gw d b λb=>?_;refine aj d ?_;refine aJ d ?_;refine bg d [0,1,2] Y ?_;refine bX d b λb=>?_;refine nS (vs:= #[.slice ro rs.length aK]) (R:=λk v u=>∃T,v= .slice ro (rs.take 16).length T) bI Y Y Y Y (mK (b.of Y)) Tryz.func5 F8 Y (iW Y Y Y).symm (bL Y (by simp only[put_defers]) (by kernel_rfl)) (λk x C=>(AH ro rs.length aK k g6 g5 λc=>⟨_,_,c5.addr c⟩).mono λe u ⟨⟨T,_,D⟩,B⟩=>⟨by rw[B];exact Below.refl _ _,_,D,T,by rw[he]⟩) λv hy hz j0 h0 il hQ h h2 g4=>?_;obtain⟨b7,rfl⟩:=h;replace b:=b.put (d:=29) (by decide) (.slice ro (rs.take 16).length b7);refine gw d b λb=>?_;refine aj d ?_;have g0:=cL g2 g4;refine aJ d ?_;refine bg d [0,1] Y ?_;refine oa (vs:= #[]) (R:=λy e G=>e= .returned (.bool Z)/\(∀a,a<y.heap.size->G.heap[a]? =y.heap[a]?)/\y.heap.size<=G.heap.size) Y Y Y Y (by simp) Tryz.func6 Q3 Y (bL Y (by simp only[put_defers]) (by kernel_rfl)) (λho ef=>F4) (λho v S ef aw a3 gq=>?_) (λS cv G c=>by cases c.1) (λS G c=>by cases c.1);obtain⟨e,gf,g8⟩:=aw;have J:=XG e;subst J;have d9:=Fb (cL g0 ef) gf g8 a3;refine Xe.go (own:=dY S) ?_ (λa c=>c) gq;replace b:=b.put (d:=30) (by decide) (.bool Z);refine gw d b λb=>?_;refine aj d ?_;have a2:∀j,j<(ah.take 16).length->j<ah.length:=λj M=>by simp at M;omega
 have dD:∀j,j<(ah.take 16).length->ah.getD j 0=(ah.take 16).getD j 0:=λj M=>by
  have D:=a2 j M;have B:j<16:=by simp at M;omega
  simp[List.getD_eq_getElem?_getD,List.getElem?_take,B]
 have hl:∀(cs:F),RelB (dY w0) w0 cs->kq (ax U1) U1 Post 7 #[.string s,.slice co (ah.take 16).length bx,.slice ro (rs.take 16).length b7,.bool sk] cs (DW (iN P V (ah.take 16) (rs.take 16) sk) cs):=λcs ck=>by
  refine zH (cb:=cb) (bH:=bH) (rb:=rb) (bF:=bF) c1 hF du (by simp;omega) (by simp;omega) (λc=>cB (a2 0 c)) (λc=>U9 (dE (a2 0 c)) ck.size) (λj M=>?_) (xE (jZ ck) ck.size (dK.take c5 16));show _=_;rw[jM (jZ ck) (dC j (a2 j M)),dD j M]
 refine aJ d ?_;refine bg d [0,1,2,3,4,5,6,7,8,9] Y ?_;refine bX d b λb=>?_;refine bX d b λb=>?_;refine bX d b λb=>?_;refine bX d b λb=>?_;refine oa (vs:= #[.string s,.slice co (ah.take 16).length bx,.slice ro (rs.take 16).length b7,.bool sk]) (R:=λy e G=>DW (iN P V (ah.take 16) (rs.take 16) sk) y e G) Y Y Y Y (oo (b.of Y) (b.of Y) (b.of Y) (b.of Y)) Tryz.func7 O9 Y (bL Y (by simp only[put_defers]) (by kernel_rfl)) (λdd c7=>hl dd (cL d9 c7)) (λdd v hp c7 aw a3 gr=>?_) (λS cv G ⟨_,e,_⟩=>by cases e) (λS G ⟨_,e,_⟩=>by cases e);generalize em:iN P V (ah.take 16) (rs.take 16) sk=z at*;obtain⟨ao,e,c3,-,gg,g9⟩:=aw;have J:=XG e;subst J;have bB:=Fb (cL d9 c7) gg g9 a3;refine Xe.go (own:=dY hp) ?_ (λa c=>c) gr;replace b:=b.put (d:=36) (by decide) (.tuple #[ao,.int .i64 (z.2:Int)]);refine bX d b λb=>?_;refine qu d b λb=>?_;refine qu d b λb=>?_;refine gw d b λb=>?_;refine gw d b λb=>?_;refine aj d ?_;refine aJ d ?_;refine bg d [0,1,2,3,4,5,6,7,8,9] Y ?_;refine bX d b λb=>?_;refine bX d b λb=>?_;refine bX d b λb=>?_;refine bX d b λb=>?_;refine nS (vs:= #[.string s,.slice co (ah.take 16).length bx,.slice ro (rs.take 16).length b7,.bool sk]) (R:=λk v u=>tD k P (ah.take 16) (rs.take 16) sk (.returned v) u) bI Y Y Y Y (oo (b.of Y) (b.of Y) (b.of Y) (b.of Y)) Tryz.func8 O7 Y (iW Y Y Y).symm (bL Y (by simp only[put_defers]) (by kernel_rfl)) (λk x C=>?_) λv k u ca x C fd h cf eh=>?_
 ·have dT:=jZ bB;refine(oM s P (ah.take 16) (rs.take 16) co cb bH bx ro rb bF b7 sk k c1 hF (by simp;omega) (by simp;omega) (λc=>cB (a2 0 c)) (λc=>U9 (U9 (dE (a2 0 c)) bB.size) C) (λj M=>?_) (xE x C (xE dT bB.size (dK.take c5 16)))).mono λe u c=>⟨c.1,?_⟩
  ·show _=_;rw[jM x (jM dT (dC j (a2 j M))),dD j M]
  ·rcases c.2 with⟨_,rfl⟩|⟨i,g,m,ae,be,U,bd,au,cx,cm,cJ,lS,ar,cu,bc,a7,db,bu,_,_,rfl,_⟩
   ·exact⟨_,rfl,c⟩
   ·exact⟨_,rfl,c⟩
 ·have eb:=cL bB eh;rcases h.2 with⟨X,e⟩|⟨i,g,m,ae,be,U,bd,au,cx,cm,cJ,lS,ar,cu,bc,a7,db,bu,cd,dr,e,h4,bA,fg,hf⟩
  ·have J:=XG e;subst J;have d7:iV P (ah.take 16) (rs.take 16)≠0:=X;have ci:z.2=iV P (ah.take 16) (rs.take 16):=by
    rw[<-em];unfold iN;rw[if_neg d7]
   generalize iV P (ah.take 16) (rs.take 16)=hj at*;replace b:=b.put (d:=44) (by decide) (.tuple #[.pointer K,.int .i64 (hj:Int)]);refine bX d b λb=>?_;refine qu d b λb=>?_;refine qu d b λb=>?_;refine gw d b λb=>?_;refine gw d b λb=>?_;refine aj d ?_;refine JM bI b (by simp only[put_defers]) (xz 6 Wp) (λk o u=>Knows o 196 [(10,.bool Z)]/\o.defers=[]) (λs c=>by simp at c) (bL Y (by simp only[put_defers]) (by kernel_rfl)) (λv k h x C=>RS k v (h 11 _ Y) (by rw[<-ci];exact h 13 _ Y) (h 14 _ Y) (h 15 _ Y) d7) λe6 e4 e5 hq i9 fv ha fe c4 fu ch=>?_;obtain⟨b,W⟩:=c4;exact Rt (by kernel_rfl) Y W Tryz.func3 (iM Tryz.results3 (b.slot 10 _ Y)) λer c6=>d8 er (cL (cL eb ch) c6)
  ·have J:=XG e;subst J;replace bA:=cf.row.1 bA;have fi:FM ca i g (ah.take 16) (rs.take 16) ae U au cx cJ lS ar cu 0 a7 db 0:=fg.kept (by rw[cf.size];exact U7 _) (λa _=>EH cf);have hi:m<ca.heap.size:=(U4.1 bA).1;have b4:∀r,sE ae U cx cJ cu db g.length (ah.take 16).length (rs.take 16).length r->r<m:=λr a4=>(hf r a4).2;have fx:uH i.length (ah.take 16) (rs.take 16)=Z:=by
    obtain⟨i0,hJ,dl,e8,_⟩:=Ba dr;rw[cd] at dl;cases dl;exact e8
   have f8:gQ s i g:=by
    rw[cd] at hF;exact hF.1
   have cp:FQ i g (ah.take 16) (rs.take 16) V:=Rm f8 fx (by simp;omega) (by simp;omega) (cd▸du);have ci:z=if (bV sk g (ah.take 16) (rs.take 16) (aI i.length (ah.take 16++(rs.take 16).map bT.col)) V (λ_=>Z) 0 g.length [] 0).2.2=0 then((bV sk g (ah.take 16) (rs.take 16) (aI i.length (ah.take 16++(rs.take 16).map bT.col)) V (λ_=>Z) 0 g.length [] 0).1.map WD,0) else([],(bV sk g (ah.take 16) (rs.take 16) (aI i.length (ah.take 16++(rs.take 16).map bT.col)) V (λ_=>Z) 0 g.length [] 0).2.2):=by
    rw[<-em];unfold iN;have:vv P V (ah.take 16) (rs.take 16) sk (λ_=>Z)=(bV sk g (ah.take 16) (rs.take 16) (aI i.length (ah.take 16++(rs.take 16).map bT.col)) V (λ_=>Z) 0 g.length [] 0):=by rw[cd];rfl
    rw[if_pos dr,this]
   have en:(bV sk g (ah.take 16) (rs.take 16) (aI i.length (ah.take 16++(rs.take 16).map bT.col)) V (λ_=>Z) 0 g.length [] 0).2.2=z.2:=by
    rw[ci]
    split
    ·rename_i c;exact c
    ·rfl
   have hb:(bV sk g (ah.take 16) (rs.take 16) (aI i.length (ah.take 16++(rs.take 16).map bT.col)) V (λ_=>Z) 0 g.length [] 0).2.2=0->(bV sk g (ah.take 16) (rs.take 16) (aI i.length (ah.take 16++(rs.take 16).map bT.col)) V (λ_=>Z) 0 g.length [] 0).1.map WD=z.1:=λc=>by rw[ci,if_pos c]
   replace c3:=lQ.like c3 (jZ eh);have h5:w0.heap.size<=m:=by have:=bB.size;omega
   replace b:=b.put (d:=44) (by decide) (.tuple #[(aP m),.int .i64 0]);refine bX d b λb=>?_;refine qu d b λb=>?_;refine qu d b λb=>?_;refine gw d b λb=>?_;refine gw d b λb=>?_;refine aj d ?_;refine aJ d ?_;refine fQ bI b (by simp only[put_defers]) (pY 6 Wp) (λk o u=>Knows o 196 [(14,(aP m)),(13,.int .i64 (z.2:Int)),(12,ao),(4,.int .i64 kk)]/\o.defers=[]) (Gd λs c=>by cases c) (bL Y (by simp only[put_defers]) (by kernel_rfl)) (λv k h x C=>Ty k v (h 4 _ Y) (h 11 _ Y) (h 12 _ Y) (h 13 _ Y) (h 14 _ Y) (h 15 _ Y)) λhH hA hB ka h1 im hR gW hV el=>?_;obtain⟨e1,d2⟩:=gW;refine aJ d ?_;refine fQ bI e1 d2 (pY 7 Wp) (λk o u=>Knows o 196 [(14,(aP m)),(13,.int .i64 (z.2:Int)),(12,ao),(4,.int .i64 kk)]/\o.defers=[]) (Gd λs c=>by cases c) (bL Y d2 (by kernel_rfl)) (λv k h x C=>Tz k v (h 4 _ Y) (h 12 _ Y) (h 13 _ Y) (h 14 _ Y)) λe6 e4 e5 hq fv ha fe c4 fu ch=>?_;obtain⟨e2,d3⟩:=c4;refine aJ d ?_;refine fQ bI e2 d3 (pY 8 Wp) (λk o u=>(Knows o 196 ((16,(aP k.heap.size))::[(14,(aP m)),(13,.int .i64 (z.2:Int)),(12,ao),(4,.int .i64 kk)])/\o.defers=[])/\Q9 k u) (Gd λs c=>by cases c) (bL Y d3 (by kernel_rfl)) (λv k h x C=>TA k v (h 4 _ Y) (h 12 _ Y) (h 13 _ Y) (h 14 _ Y)) λhC e3 hr er hW g7 hM gt ft c6=>?_;obtain⟨⟨eQ,d0⟩,⟨a0⟩⟩:=gt;replace a0:=ft.row.1 a0;generalize e3.heap.size=n at*;refine aJ d ?_;refine fQ bI eQ d0 (pY 9 Wp) (λk o u=>∃q:Nat,1<=q/\q<=20/\Knows o 196 [(16,(aP n)),(14,(aP m)),(13,.int .i64 (z.2:Int)),(12,ao),(4,.int .i64 (q:Int))]/\o.defers=[]) (Gd λs c=>by cases c) (bL Y d0 (by kernel_rfl)) (λv k h x C=>TB k v f9 gc (h 4 _ Y) (h 12 _ Y) (h 13 _ Y) (h 14 _ Y) (h 16 _ Y)) λhD hs ht a9 hX ih hN gv hS ec=>?_;obtain⟨q,gj,ge,b,W⟩:=gv;have b0:=cL (cL (cL el ch) c6) ec;have aa:=cL eb b0;have i1:ca.heap.size<=n:=Vm (cL el ch).size g7;replace a0:a9.heap[n]? =_:=(ec.at_ n (U4.1 a0).1).trans a0;have hh:n<a9.heap.size:=(U4.1 a0).1;have ds:=fi.kept b0.size λr a4=>oJ (b0.at_ r (by have:=b4 r a4;show r<ca.heap.size;omega));have f2:=(b0.at_ m hi).trans bA;have fk:nF (q:Int) []=Z:=Nf (by simp;omega);refine aJ d ?_;refine bg d [0,1,2,3,4,5] Y ?_;refine bX d b λb=>?_;refine bX d b λb=>?_;refine bX d b λb=>?_;refine oa (vs:= #[(aP m),.int .i64 (q:Int),.int .i64 0,(aP n)]) (R:=λy=>Uj y m n (q:Int) aM [] (dR ae i.length be U i.length bd au g.length cm ar (ah.take 16).length bc a7 (rs.take 16).length bu sk) (bV sk g (ah.take 16) (rs.take 16) (aI i.length (ah.take 16++(rs.take 16).map bT.col)) V (nF (q:Int)) 0 g.length [] 0)) Y Y Y Y (oo (b.of Y) (b.of Y) Y (b.of Y)) Tryz.func10 F9 Y (bL Y (by simp only[put_defers];exact W) (by kernel_rfl)) (λhn E=>?_) (λhn v A E aw a3 gl=>?_) (λS cv G ⟨_,_,_,_,_,_,_,_,_,e,_⟩=>by cases e) (λS G ⟨_,_,_,_,_,_,_,_,_,e,_⟩=>by cases e)
   ·exact tZ (n0:=0) (e0:=0) cp (ds.kept E.size λr a4=>oJ (E.at_ r (by have:=b4 r a4;show r<a9.heap.size;omega))) b4 ⟨(E.at_ n hh).trans a0,World.ownsRow_nil _ _ _ _,λe t=>by simp at t⟩ (λe t=>by simp at t) (λa f=>by
     rcases f with rfl|f|⟨e,t,_⟩
     ·omega
     ·cases f
     ·simp at t) (by simp) fk ((E.at_ m (by show m<a9.heap.size;omega)).trans f2)
   obtain⟨a8,a6,ad,cc,Ap,dp,es,et,eA,e,p,fl,f5,d4,d6,dO,ip⟩:=aw;have J:=XG e;subst J;rw[List.nil_append] at p d4;refine Xe.go (own:=dY A) ?_ (λa c=>c) gl;replace b:=b.put (d:=75) (by decide) (.agg #[.bool U5,a8,a6,aM]);refine kg d (λa f=>f.elim YJ (λc=>c)) (by decide) Y Y (.cells #[.bool U5,aM,aM,aM] 44) trivial (λw=>(aP w)) (oL Y Ru) λL jc h7 is b1 fz=>?_;replace b:=b.put (d:=17) (by decide) (aP L);refine nY d (λa f=>by
    rcases f with c|c|c
    ·exact c.elim
    ·have:a<A.heap.size:=c;omega
    ·omega) (n:=L) (by decide) Y Y (.inr Y) (.cells #[.bool U5,a8,a6,aM] 44) trivial (iy (n:=L) (off:=0) (v:=.agg #[.bool U5,a8,a6,aM]) Y (b.of Y) (b.of Y) tO (λhm b3=>by
    simp[WV] at b3;rcases b3 with rfl|rfl|rfl|rfl
    ·rfl
    ·exact(gO p.rows).2
    ·exact(gO p.tS).2
    ·rfl) (ZD (.inr rfl)) fz (U7 4)) λjp bs=>?_
   refine aj d ?_;refine DH λO bo=>?_;have R:RelB (dY A) A O:=⟨λa f=>(bo.at_ a (.inl f)).trans ((bs.at_ a (.inr (.inl f)) (λe=>by have:a<A.heap.size:=f;omega)).trans (b1.at_ a (.inr f))),Vm b1.size (Vm bs.size bo.size),bo.tape.trans (bs.tape.trans b1.tape),bo.os.trans (bs.os.trans b1.os),bo.output.trans (bs.output.trans b1.output)⟩;have dv:O.heap[L]? =I (.cells #[.bool U5,a8,a6,aM] 44 (0,0)):=(bo.at_ L (.inr Y)).trans bs.set;have i5:=E.size;have i6:=R.size;have gb:∀a,a<w0.heap.size->A.heap[a]? =w0.heap[a]? :=λa f=>by
    have bi:=aa.size;refine(d6 a (by omega) (λc=>?_) (by omega)).trans ((E.at_ a (by show a<a9.heap.size;omega)).trans (aa.at_ a f));rcases c with rfl|c|⟨e,t,_⟩
    ·omega
    ·cases c
    ·simp at t
   have bl:RelB (dY w0) w0 O:=⟨λa f=>(R.at_ a (by have:=aa.size;have:a<w0.heap.size:=f;show a<A.heap.size;omega)).trans (gb a f),by have:=aa.size;omega,R.tape.trans (a3.tape.trans (E.tape.trans aa.tape)),R.os.trans (a3.os.trans (E.os.trans aa.os)),R.output.trans (a3.output.trans (E.output.trans aa.output))⟩;have c0:∀a,q7 dp es et eA n a8 a6 ad cc Ap a->n<=a:=λa f=>by
    rcases d4 a f with c|c
    ·rcases c with rfl|c|⟨e,t,_⟩
     ·exact U7 _
     ·cases c
     ·simp at t
    ·omega
   have a1:∀a,Mb n ad Ap a->q7 dp es et eA n a8 a6 ad cc Ap a:=λa f=>by
    rcases f with c|c|c
    ·exact .inr (.inr (.inr (.inr (.inl c))))
    ·exact .inr (.inr (.inr (.inr (.inr (.inr (.inr (.inl c)))))))
    ·exact .inr (.inr (.inr (.inr (.inr (.inr (.inr (.inr (.inr c))))))))
   have cR:=(R.at_ m (by show m<A.heap.size;omega)).trans dO;have eo:∀a,a<ca.heap.size->a≠m->O.heap[a]? =a9.heap[a]? :=λa f X=>by
    refine(R.at_ a (by show a<A.heap.size;omega)).trans ((d6 a (by omega) (λc=>?_) X).trans (E.at_ a (by show a<a9.heap.size;omega)));rcases c with rfl|c|⟨e,t,_⟩
    ·omega
    ·cases c
    ·simp at t
   have ib:=oQ (sk:=sk) (bs:=g) (ah:=ah.take 16) (rs:=rs.take 16) (ws:=aI i.length (ah.take 16++(rs.take 16).map bT.col)) (V:=V) (nF (q:Int)) g.length 0 [] 0 (by omega) (VB _) (VB _);have h9:=mU g g.length;have hd:=cp.tot;have fa:∀w e:Nat,(fN (dR ae i.length be U i.length bd au g.length cm ar (ah.take 16).length bc a7 (rs.take 16).length bu sk) w e)[6]? =I (.int .i64 (w:Int)):=λw e=>rfl;have fb:∀w e:Nat,(fN (dR ae i.length be U i.length bd au g.length cm ar (ah.take 16).length bc a7 (rs.take 16).length bu sk) w e)[7]? =I (.int .i64 (e:Int)):=λw e=>rfl;refine aJ d ?_;refine fQ bI b (by simp only[put_defers];exact W) (pY 11 Wp) (λk o u=>Knows o 196 [(18,.int .i64 ((bV sk g (ah.take 16) (rs.take 16) (aI i.length (ah.take 16++(rs.take 16).map bT.col)) V (nF (q:Int)) 0 g.length [] 0).2.1:Int)),(17,(aP L)),(16,(aP n)),(14,(aP m)),(13,.int .i64 (z.2:Int)),(12,ao),(4,.int .i64 (q:Int))]/\o.defers=[]) (Gd λs c=>by cases c) (bL Y (by simp only[put_defers];exact W) (by kernel_rfl)) (λv k h x C=>RU k v (h 4 _ Y) (h 12 _ Y) (h 13 _ Y) (h 14 _ Y) (h 16 _ Y) (h 17 _ Y) (gU (x m _ cR trivial) (fa _ _))) λhE hu hv jt hY ii hO gx hT ee=>?_;obtain⟨e0,d1⟩:=gx;have f3:=(ee.at_ m (by show m<O.heap.size;omega)).trans cR;refine aJ d ?_;refine fQ bI e0 d1 (pY 12 Wp) (λk o u=>Knows o 196 ((19,.int .i64 ((bV sk g (ah.take 16) (rs.take 16) (aI i.length (ah.take 16++(rs.take 16).map bT.col)) V (nF (q:Int)) 0 g.length [] 0).2.2:Int))::[(18,.int .i64 ((bV sk g (ah.take 16) (rs.take 16) (aI i.length (ah.take 16++(rs.take 16).map bT.col)) V (nF (q:Int)) 0 g.length [] 0).2.1:Int)),(17,(aP L)),(16,(aP n)),(14,(aP m)),(13,.int .i64 (z.2:Int)),(12,ao),(4,.int .i64 (q:Int))])/\o.defers=[]) (Gd λs c=>by cases c) (bL Y d1 (by kernel_rfl)) (λv k h x C=>RV k v (h 4 _ Y) (h 12 _ Y) (h 13 _ Y) (h 14 _ Y) (h 16 _ Y) (h 17 _ Y) (h 18 _ Y) (gU (x m _ f3 trivial) (fb _ _))) λhG hw hx dc hZ ik hP gy hU g3=>?_;obtain⟨b,W⟩:=gy;have bm:=cL ee g3;have dq:∀al,RelB (dY dc) dc al->∀a,a<O.heap.size->al.heap[a]? =O.heap[a]? :=λal c a f=>(c.at_ a (by have:=bm.size;show a<dc.heap.size;omega)).trans (bm.at_ a f);have i7:=bm.size;have e9:L<O.heap.size:=(U4.1 dv).1;refine aJ d ?_;refine bg d [0,1,2,3,4] Y ?_;refine bX d b λb=>?_;refine bX d b λb=>?_;refine oa (vs:= #[(aP m),.int .i64 (-1),.int .i64 0,(aP n)]) (R:=λy=>Uj y m n (-1) ad Ap (dR ae i.length be U i.length bd au g.length cm ar (ah.take 16).length bc a7 (rs.take 16).length bu sk) (bV sk g (ah.take 16) (rs.take 16) (aI i.length (ah.take 16++(rs.take 16).map bT.col)) V (λ_=>Z) 0 g.length [] 0)) Y Y Y Y (oo (b.of Y) Y Y (b.of Y)) Tryz.func10 F9 Y (bL Y (by simp only[put_defers];exact W) (by kernel_rfl)) (λal ab=>?_) (λal v am ab aw c8 gn=>?_) (λS cv G ⟨_,_,_,_,_,_,_,_,_,e,_⟩=>by cases e) (λS G ⟨_,_,_,_,_,_,_,_,_,e,_⟩=>by cases e)
   ·have hk:=ab.size;have b5:=dq al ab;have da:∀a,a<A.heap.size->al.heap[a]? =A.heap[a]? :=λa f=>(b5 a (by omega)).trans (R.at_ a f);have:=tZ (Post:=Post) (most:= -1) (B:=n) (iv:=ad) (jv:=Ap) (n0:=(bV sk g (ah.take 16) (rs.take 16) (aI i.length (ah.take 16++(rs.take 16).map bT.col)) V (nF (q:Int)) 0 g.length [] 0).2.1) (e0:=(bV sk g (ah.take 16) (rs.take 16) (aI i.length (ah.take 16++(rs.take 16).map bT.col)) V (nF (q:Int)) 0 g.length [] 0).2.2) cp (ds.kept (by have:=E.size;omega) λr a4=>oJ (by
     have:=b4 r a4;exact(b5 r (by omega)).trans (eo r (by omega) (by omega)))) b4 (qZ p.book (da n (p.lt (a1 n (.inl Y)))) (λa _ _ f=>da a (p.lt (a1 a (.inr (.inl f))))) (λe t a w bv _ D bi _=>da a (p.lt (a1 a (.inr (.inr ⟨e,t,w,bv,D,bi⟩)))))) p.Rp (λa f=>by have:=c0 a (a1 a f);omega) (by omega) Y ((b5 m (by omega)).trans cR)
    rw[PO] at this;exact this
   obtain⟨b8,b6,hg,df,dn,hL,kb,kc,kd,e,Q,fm,f6,h6,gi,f4,iv⟩:=aw;have J:=XG e;subst J;refine Xe.go (own:=dY am) ?_ (λa c=>c) gn;replace b:=b.put (d:=82) (by decide) (.agg #[.bool U5,b8,b6,aM]);refine kg d (λa f=>f.elim YJ (λc=>c)) (by decide) Y Y (.cells #[.bool U5,aM,aM,aM] 44) trivial (λw=>(aP w)) (oL Y Ru) λbb j1 h8 it b2 fA=>?_;replace b:=b.put (d:=20) (by decide) (aP bb);refine nY d (λa f=>by
    rcases f with c|c|c
    ·exact c.elim
    ·have:a<am.heap.size:=c;omega
    ·omega) (n:=bb) (by decide) Y Y (.inr Y) (.cells #[.bool U5,b8,b6,aM] 44) trivial (iy (n:=bb) (off:=0) (v:=.agg #[.bool U5,b8,b6,aM]) Y (b.of Y) (b.of Y) tO (λhm b3=>by
    simp[WV] at b3;rcases b3 with rfl|rfl|rfl|rfl
    ·rfl
    ·exact(gO Q.rows).2
    ·exact(gO Q.tS).2
    ·rfl) (ZD (.inr rfl)) fA (U7 4)) λj2 bt=>?_
   refine aj d ?_;refine DH λba br=>?_;have bk:RelB (dY am) am ba:=⟨λa f=>(br.at_ a (.inl f)).trans ((bt.at_ a (.inr (.inl f)) (λe=>by have:a<am.heap.size:=f;omega)).trans (b2.at_ a (.inr f))),Vm b2.size (Vm bt.size br.size),br.tape.trans (bt.tape.trans b2.tape),br.os.trans (bt.os.trans b2.os),br.output.trans (bt.output.trans b2.output)⟩;have fB:ba.heap[bb]? =I (.cells #[.bool U5,b8,b6,aM] 44 (0,0)):=(br.at_ bb (.inr Y)).trans bt.set;have hk:=ab.size;have i8:=bk.size;have b5:=dq al ab;have cl:∀a,a<O.heap.size->¬Mb n ad Ap a->a≠m->ba.heap[a]? =O.heap[a]? :=λa f c2 X=>(bk.at_ a (by show a<am.heap.size;omega)).trans ((gi a (by omega) c2 X).trans (b5 a f));have g1:RelB (dY w0) w0 ba:=⟨λa f=>by
    have h3:a<w0.heap.size:=f;have:=bl.size;exact(cl a (by omega) (λc=>by have:=c0 a (a1 a c);have:=aa.size;omega) (by omega)).trans (bl.at_ a f),by have:=bl.size;omega,bk.tape.trans (c8.tape.trans (ab.tape.trans (bm.tape.trans bl.tape))),bk.os.trans (c8.os.trans (ab.os.trans (bm.os.trans bl.os))),bk.output.trans (c8.output.trans (ab.output.trans (bm.output.trans bl.output)))⟩
   have a5:∀a,a<am.heap.size->ba.heap[a]? =am.heap[a]? :=λa f=>bk.at_ a f;have e7:∀a H N,A.heap[a]? =I (.cells H N (0,0))->Mb n ad Ap a->N=40\/N=78\/N=54:=λa H N l f=>by
    rcases f with rfl|c|⟨e,t,w,bv,D,bi⟩
    ·rw[p.book.blk] at l;cases l;exact .inl Y
    ·obtain⟨dk,B⟩:=mZ p.book.own c;rw[B] at l;cases l;exact .inr (.inl Y)
    ·obtain⟨hI,i2,T,B,_,f7⟩:=p.book.full e t;rw[D] at B;simp only[V7] at B;obtain⟨rfl,rfl,rfl⟩:=B;obtain⟨hK,dk,d5,f,_⟩:=f7 bi;simp only[VY,Xk,and_true] at d5;subst d5;rw[f] at l;cases l;exact .inr (.inr Y)
   have eq:∀a H N,A.heap[a]? =I (.cells H N (0,0))->¬Mb n ad Ap a->N≠72->ba.heap[a]? =A.heap[a]? :=λa H N l c2 c9=>by
    have f:=(U4.1 l).1;refine(cl a (by omega) c2 (λe=>?_)).trans (R.at_ a f);rw[e,dO] at l;cases l;exact c9 Y
   have bz:Rx ba m n L bb (dR ae i.length be U i.length bd au g.length cm ar (ah.take 16).length bc a7 (rs.take 16).length bu sk) (bV sk g (ah.take 16) (rs.take 16) (aI i.length (ah.take 16++(rs.take 16).map bT.col)) V (λ_=>Z) 0 g.length [] 0).2.1 z.2 a8 a6 b8 b6 ao hg (cc.map Vy) (df.map Vy) z.1 ((bV sk g (ah.take 16) (rs.take 16) (aI i.length (ah.take 16++(rs.take 16).map bT.col)) V (λ_=>Z) 0 g.length [] 0).1.map λr=>(r.1:Int)) (Ap++dn) dd.heap.size:=by
    refine⟨?_,rfl,?_,fB,Jx (eE p.rows λa H l _=>eq a H _ l (λc=>?_) (by decide)) (λcn bj=>eE (p.each cn bj) λa H l gs=>eq a H _ l (λc=>?_) (by decide)) p.apart,Jx (eE Q.rows λa _ l _=>a5 a (U4.1 l).1) (λcn bj=>eE (Q.each cn bj) λa _ l _=>a5 a (U4.1 l).1) Q.apart,lQ.ce c3 λa H N l c9=>?_,?_,?_⟩
    ·rw[<-en];exact(a5 m (by omega)).trans f4
    ·refine(cl L e9 (λc=>?_) (by omega)).trans dv;have:=p.lt (a1 L c);omega
    ·rcases e7 a H _ l c with c|c|c
     ·exact absurd c (by decide)
     ·exact absurd c (by decide)
     ·exact absurd c (by decide)
    ·rcases c with rfl|c|⟨e,t,w,bv,D,bi⟩
     ·rw[p.book.blk] at l;cases l
     ·obtain⟨dk,B⟩:=mZ p.book.own c;rw[B] at l;cases l
     ·exact p.uy cn bj e t a w bv D bi gs
    ·have f:=(U4.1 l).1;have X:a≠m:=λe=>by
      rw[e,bA] at l;cases l;rcases c9 with c|c
      ·exact absurd c (by decide)
      ·exact absurd c (by decide)
     exact(cl a (by omega) (λc=>by have:=c0 a (a1 a c);omega) X).trans ((eo a f X).trans ((b0.at_ a f).trans l))
    ·exact eE Q.tS λa _ l _=>a5 a (U4.1 l).1
    ·exact qZ Q.book (a5 n (U4.1 Q.book.blk).1) (λa _ l _=>a5 a (U4.1 l).1) (λe _ a w bv _ _ _ l=>a5 a (U4.1 l).1)
   have ie:=oQ (sk:=sk) (bs:=g) (ah:=ah.take 16) (rs:=rs.take 16) (ws:=aI i.length (ah.take 16++(rs.take 16).map bT.col)) (V:=V) (λ_=>Z) g.length 0 [] 0 (by omega) (VB _) (VB _);have dt:=Tx (sk:=sk) (bs:=g) (ah:=ah.take 16) (rs:=rs.take 16) (ws:=aI i.length (ah.take 16++(rs.take 16).map bT.col)) (V:=V) (k:=q) (L1:=cc) (LA:=df) (zr:=z.1) (es:=Ap++dn) gj ge hd (by have:=cp.nb;omega) fl fm hb Q.Rp (by rw[List.length_append,f5,f6];omega) bz.rz.SI.2.1 bz.r1.SI.2.2 bz.rA.SI.2.2 bz.rz.SI.2.2;rw[en] at dt;generalize (bV sk g (ah.take 16) (rs.take 16) (aI i.length (ah.take 16++(rs.take 16).map bT.col)) V (nF (q:Int)) 0 g.length [] 0)=i3 at*;generalize (bV sk g (ah.take 16) (rs.take 16) (aI i.length (ah.take 16++(rs.take 16).map bT.col)) V (λ_=>Z) 0 g.length [] 0)=i4 at*;exact Kj (((((((((b.nil.cons (b.slot 4 _ Y)).cons (b.slot 12 _ Y)).cons (b.slot 13 _ Y)).cons (b.slot 14 _ Y)).cons (b.slot 16 _ Y)).cons (b.slot 17 _ Y)).cons (b.slot 18 _ Y)).cons (b.slot 19 _ Y)).cons (b.slot 20 _ Y)) (by simp only[put_defers];exact W) bz dt λy D=>d8 y (cL g1 D)
end
end Cc
end Go.Proofs.YtjidbonhhpkljabGreat
namespace Go.Proofs.YtjidbonhhpkljabGreat.early
open Go.ChangeShapes Go.WideShapes Go.ChangeAt Go.RowKit
open Go.ChangeMaps (open_string shut_string)
open Go.Conc Go.Proofs.YtjidbonhhpkljabGreat.Cc
def own:ownKnob U1.godebug=K:=by kernel_rfl
def laidOut:laidOutB U1=Z:=by kernel_rfl
def lifted(os:Os)(bi:os.Started)(H:Type)(enc:TypeId×Value->H):
 ReturnsInLeavingWide {} Tryz.checked os 3 .any (Rows.earlySpec.pre6 enc U1 Wp Rows.earlyRow.domain U5) (Rows.earlySpec.post enc U1 Wp U5 Z U5 U5):=by
 refine returnsInLeavingWide_of_change_sized (C:=Tryz.checked) own bi Tryz.func3
  (Z2 (enc:=enc) (C:=Tryz.checked) U5 ⟨#[],#[.string ByteArray.empty,aM,aM,.bool U5,.int .i64 0],[]⟩ 8 (by kernel_rfl) (by kernel_rfl) (by kernel_rfl) (by kernel_rfl)) ?_
 intro a base args r ae bj a6 w bB a4 _;have k:(DataW.weightsEach U1 (Wp.params.toList++Rows.earlySpec.plain.varTypes U1) (r++ae)).all (·<=reachBytes)=Z:=a4;have b:∀(y:Nat) C v,Wp.params[y]? =I C->args[y]? =I v->Value.okWide U1 a .any base C v:=a6;have a1:=w;obtain⟨a9,b7,ar,a0,rfl,b0,b1⟩:=w;have u:DataW.TrodAll enc U1 a 0 (λ_=>Z) Z Wp.params.toList args.toList r a9:=ar;rw[Tryz.params3] at u b k;obtain⟨D,ci,bl,br,b4,b8,bA,rfl,rfl,al,bc⟩:=trodAll_cons u;obtain⟨E,ck,X,bs,ba,ca,rfl,rfl,rfl,s,l⟩:=trodAll_cons bc;obtain⟨F,cl,aa,bt,bb,cb,rfl,rfl,rfl,t,n⟩:=trodAll_cons l;obtain⟨G,cn,bm,bu,b5,cc,rfl,rfl,rfl,am,o⟩:=trodAll_cons n;obtain⟨J,co,bo,bv,b6,cd,rfl,rfl,rfl,ao,bd⟩:=trodAll_cons o;obtain⟨rfl,rfl,rfl⟩:=trodAll_nil bd;obtain rfl:args=#[D,E,F,G,J]:=by cases args;simp_all
 obtain⟨rfl,rfl⟩:=trodVars_none a0;obtain⟨q,rfl,rfl,rfl,K⟩:=open_string Tryz.underlying9 (b 0 9 D rfl rfl) al;obtain⟨M,b2,T,rfl⟩:=okWide_slice Tryz.underlying22 (b 1 22 E rfl rfl);obtain⟨N,b3,V,rfl⟩:=okWide_slice Tryz.underlying23 (b 2 23 F rfl rfl);obtain⟨g,rfl,rfl,rfl⟩:=open_bool Tryz.underlying4 (b 3 4 G rfl rfl) am;obtain⟨e,rfl,rfl,rfl,L⟩:=open_int Tryz.underlying3 (b 4 3 J rfl rfl) ao;have x: -9223372036854775808<=e/\e<=9223372036854775807:=by
  have h:=L;simp[Lit.wf,IntKind.min,IntKind.max,YV,Zf] at h;omega
 have z:=s;have A:=t;have a7:∀p∈ba,p.block<a.heap.size:=by obtain⟨m,i⟩:=z;exact DataW.trod_lt m _ _ _ i
 have a8:∀p∈bb,p.block<a.heap.size:=by obtain⟨m,i⟩:=A;exact DataW.trod_lt m _ _ _ i
 have au:A6 X 22:=λd j=>of_decide_eq_true (Vx.1 k d (DataW.weights_mem_each (j:=1) Y Y d j));have aw:A6 aa 23:=λd j=>of_decide_eq_true (Vx.1 k d (DataW.weights_mem_each (j:=2) Y Y d j));obtain⟨bx,a2⟩:=s;obtain⟨bz,a3⟩:=t;obtain⟨ah,bk,W,bH,aG,ab,O,P,Q,R,S⟩:=open_ints a2;obtain⟨B,cf,be,bF,aK,ad,l,n,o⟩:=KS a3;obtain⟨rfl,rfl,rfl⟩:=ZW ab;obtain⟨rfl,rfl,rfl⟩:=ZW ad;obtain⟨ch,a5⟩:=MX (Post:=λv f=>Rows.earlySpec.post enc U1 Wp U5 Z U5 U5 a #[.string q,.slice M ah.length T,.slice N B.length V,.bool g,.int .i64 e] v f) (s:=q) (ah:=ah) (rs:=B) (sk:=g) (kk:=e) (cb:=W) (bH:=bH) (rb:=be) (bF:=bF) (w0:=a) K (by have:=S au;unfold Vp;omega) O (by have:=o aw;unfold Vp;omega) l x.1 x.2 P Q R n trivial (λf c=>by
  have fW:aQ a f:=⟨c.os,c.tape,c.output,c.size,c.at_⟩;exact⟨_,_,_,[],_,[],a1,trodAll_mk1 (shut_bool Tryz.underlying4 _),(trodAll_cons_mk (shut_string Tryz.underlying9 K) (trodAll_cons_mk (Below.trod laidOut (by kernel_rfl) (of_decide_eq_true (by kernel_rfl)) z fW a7) (trodAll_cons_mk (Below.trod laidOut (by kernel_rfl) (of_decide_eq_true (by kernel_rfl)) A fW a8) (trodAll_cons_mk (shut_bool Tryz.underlying4 g) (trodAll_cons_mk (shut_int Tryz.underlying3 L) trodAll_mk0))))),rfl,fW.frame _,λh=>by cases h⟩)
 exact Fq a5 trivial
def over:Rows.earlyRow.holds Tryz.pinned (OpenSpec.ofChange Rows.earlySpec):=
 OpenClaim.holds_of_wide_leaving 3 Wp Y Y Y Y Y Y Y ⟨rfl,rfl,rfl,rfl,rfl⟩ Y Y Y Y Y (by kernel_rfl) Tryz.func3 (by kernel_rfl)
  (of_decide_eq_true (by kernel_rfl)) (by unfold Func.isWrapper;first|(rw[if_pos (by decide +kernel)];kernel_rfl)|(rw[if_neg (by decide +kernel)];exact⟨rfl,rfl⟩))
  (λc d a b _=>lifted c d a b)
end Go.Proofs.YtjidbonhhpkljabGreat.early
namespace Go.Proofs.YtjidbonhhpkljabGreat
theorem early_holds:Rows.EarlySaid:=early.over
end Go.Proofs.YtjidbonhhpkljabGreat
