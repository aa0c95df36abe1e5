/- What the proof stands on, in short names. -/
import Derived.Test.YtjidbonhhpkljaaGreatMd

set_option linter.all false
open Array renaming getD_eq_getD_getElem?->UD,getElem?_eq_none->Vl,getElem?_eq_some_iff->Ub,getElem?_push->VB,getElem?_setIfInBounds->UP,range->Yp,replicate->U3
open Bool renaming and_eq_true->Uw,eq_iff_iff->XF,false->T7,false_eq_true->UB,not_eq_true'->WO,true->Z
open Classical renaming byContradiction->VZ,choose->Vq,choose_spec->Uv
open False renaming elim->Yq
open Go renaming Act->V6,Addr->UJ,Code->WV,Ending->WS,Frame->Ut,Func->WC,Item->WM,Oper->Vu,Operand->U6,Program->Uf,TypeId->Uh,Value->U,World->F,bodyPost->VR,execOp->UH,heap_setCell_other->Uu,heap_setCell_same->Ur,info_parts->Ve,lt_of_block->Ue,maxLen->Uq,results->UX,step_append_lies->WK,undef->Vk,wpList_append_fits->VH,yielded->Vj
open Go.Act renaming put->UW
open Go.Addr renaming add->Yr,add_mid->Xc
open Go.Addr.mk renaming injEq->Wh
open Go.ByteArray renaming toList_eq->XJ
open Go.Code renaming wp_mono->Yf
open Go.Conc renaming G->Ug
open Go.Ending.returned renaming inj->YA
open Go.Frame renaming enter->UY,finish->VW,round->WX
open Go.Instr renaming fill->X7
open Go.Lib renaming compareBytes->Vd
open Go.Proofs.Tryz renaming f13->VT,f19->Wc,f4->VX,f53->Wm,f54->Xf,f78->U2,f79->Wy,isAgg3->Yv,prog->T4,sizeOf3->X5,underlying115->WE,underlying139->V7,underlying160->WG
open Go.Region renaming binds->Vn,wanted->UF
open Go.Region.linearise renaming go->U9
open Go.RowKit renaming intOf->US
open Go.RowKit.Below renaming heap_alloc->UN,refl->Up
open Go.Value renaming cells->WH,int->VY,ownBlock->Vz
open Go.Value.slice renaming inj->X3,injEq->VA
open Go.World renaming cell?->Us,drewN_drewN->Xh,frozen?->UQ,news_of_block->VJ,ownsRow_nil->Vp
open Int renaming eq_ofNat_of_zero_le->WB
open List renaming all_eq_true->Uz,append_assoc->UC,append_nil->Wr,eq_nil_of_length_eq_zero->Vh,getD_eq_getElem?_getD->Ui,getElem?_append_left->Vw,getElem?_append_right->Vo,getElem?_eq_getElem->Um,getElem?_eq_some_iff->UA,getElem?_take->V8,getElem_map->Xr,getElem_mem->Uj,getElem_of_mem->Vv,getElem_take->VF,length_append->Ua,length_cons->VI,length_map->UG,length_nil->XH,length_take->Vs,map_append->U0,map_cons->Xw,mem_append->U1,mem_cons->VM,mem_map->U7,mem_of_getElem?->VD,mem_of_mem_take->V5,mem_range->Vt,mem_singleton->WI,not_mem_nil->XQ,range->UK,range_succ->XI,setIfInBounds_toArray->Uc,set_cons_succ->Uk,set_cons_zero->Ul,take_append_drop->Ww,take_length->Vf,take_of_length_le->UO,take_succ_eq_append_getElem->Uo
open Nat renaming le_refl->T8,le_trans->Uy,lt_of_lt_of_le->Ud,lt_or_ge->Vy,mul_add->Ye,mul_comm->Xx,mul_le_mul->Ws,zero_add->UT,zero_le->UE
open Option renaming getD_some->V2,map_some->V3,none->K,some->I
open Option.some renaming inj->Yk,injEq->U8
open Prod renaming fst->Ux,snd->VU
set_option maxRecDepth 100000
set_option maxHeartbeats 8000000
namespace Go.Proofs.YtjidbonhhpkljaaGreat
namespace Cc
open Go Go.Conc
open Ec (aE aH)
open Go.RowKit (Below)
def BO(ws:List Bool)(ch:Nat->Nat):(eE ws ch 0).toArray=madeCells #[.chan K] (ws.length*1):=by
 apply Array.toList_inj.1;rw[toList_madeCells_one,Nat.mul_one];refine List.ext_getElem (by simp[dR]) λf b d=>?_;simp[eE]
def B9(ws:List Bool)(g:Nat->Nat)(V:Nat->List aE)(N:Nat):(fq ws g V N 0).toArray=madeCells #[aO] (ws.length*1):=by
 apply Array.toList_inj.1;rw[toList_madeCells_one,Nat.mul_one];refine List.ext_getElem (by simp[dW]) λf b d=>?_;simp[fq]
def n8{P0:Uf}{c:Ut}(h:eN P0 c [])(v:U):eN P0 (c.finish v) []:=⟨(fB h.top v).1,λf b=>by simp at b,(fB h.top v).2.trans h.bot⟩
def je{P0 P:Uf}{S:Nat->Prop}{m:Bool}{d:(Nat->Prop)->Ut->List Ut->F->Prop}{own:Nat->Prop}{cs:List Ut}{w:F}{b:Ut}{a:V6}(f:nQ P0 P S m d){fn:WC}{todo:List WM}{c:Ut}{v:U}(p:b.kind= .normal)(h:a.defers=[])(l:P.funcs[b.fn]? =I fn)(q:∀w,(UX fn a.tmps).run P w= .ok v w)(j:∀w,(UX fn a.tmps).events P w #[]=#[])
 (o:d own (c.finish v) cs w):d own {b.at a todo with mode:=.returning} (c::cs) w:=kU f (λw=>stepG_leave p h l (q w) (j w)) o
def TU(v0 v1 v2:U)(m:Nat)(j:3<=m):Knows ⟨#[v0,v1,v2]++U3 (m-3) Vk,[]⟩ m [(0,v0),(1,v1),(2,v2)]:=by
 have b:∀d v,(#[v0,v1,v2]:Array U)[d]? =I v->aW ⟨#[v0,v1,v2]++U3 (m-3) Vk,[]⟩ d=v:=λd v f=>by
  unfold aW;rw[UD,Array.getElem?_append_left (Ub.1 f).1,f];rfl
 refine Knows.cons (Knows.cons (Knows.cons (l:=[]) ⟨?_,λs v h=>by simp at h⟩ (b 2 v2 Y)) (b 1 v1 Y)) (b 0 v0 Y);simp;omega
def RS:∃i,T4.info? 193=I i/\i.zero=I (.chan K)/\i.size=1/\i.bytes=8:=⟨Tryz.t193,by kernel_rfl,rfl,rfl,rfl⟩
def Oj:∃i,T4.info? 43=I i/\i.zero=I aO/\i.size=1/\i.bytes=24:=⟨Tryz.t43,by kernel_rfl,rfl,rfl,rfl⟩
section
variable {S O:Nat->Prop}{w0 w w':F}{s:Nat->ByteArray}{k e:Nat->Int}{N cb n cap kb nk ck eb ne ce wb gU:Nat}{x:U}{ws:List Bool}{V:Nat->List aE}{ch g:Nat->Nat}{bb fb cS lb i:Nat}{μ:Nat->Option (List U)}{a:V6}{Post:U->F->Prop}{cs:List Ut}{lA:Bool}{c:Ut}
def NV(h:zS S O w0 w N cb n cap kb nk ck eb ne ce x wb gU ws V ch g bb fb cS lb ws.length lA μ a)
 (j:ku (aB T4) T4 Post S O μ (Ug (c.finish (.tuple #[.slice (I ⟨lb,0,K⟩) ws.length ws.length,.bool lA])) cs) w):
 ku (aB T4) T4 Post S O μ (Ug ((base 78).at a [.code (nl U2),.inLoop (nl U2),.inBlock 2,.code (FX U2)]) (c::cs)) w:=by
 have d:=h.kn;have b:=dS (aB T4) T4 Post S μ;refine aS b ?_;refine bq b [0] Y ?_;refine dD b d Y (.bool T7) (jx Y (d.of Y) (d.of Y) (by simp)) λd=>?_;refine ak b ?_;refine aS b ?_;refine dn b T7 (d.of Y) ?_;refine ud b (k':=[.code (FX U2)]) Y ?_;refine aS b ?_;refine bq b [0,1,2,3] Y ?_;refine cH b d λd=>?_;refine cH b d λd=>?_;refine gX b d λd=>?_;refine gX b d λd=>?_;refine ak b ?_;refine pL b ?_;have f:=gI (P:=T4) Tryz.results78 (d.slot 6 _ Y) (d.slot 7 _ Y);exact je b Y (by simp only[put_defers];exact h.df) Tryz.func78 f.1 f.2 j
def KO(j:Fj S w0 s k e N cb n kb nk eb ne wb ws V)(t:∀O w a g lA μ,zS S O w0 w N cb n cap kb nk ck eb ne ce x wb gU ws V ch g bb fb cS lb ws.length lA μ a->ku (aB T4) T4 Post S O μ (Ug (c.finish (.tuple #[.slice (I ⟨lb,0,K⟩) ws.length ws.length,.bool lA])) cs) w):
 ∀(d i:Nat),i+d=ws.length->∀O w a g lA μ,zS S O w0 w N cb n cap kb nk ck eb ne ce x wb gU ws V ch g bb fb cS lb i lA μ a->
 ku (aB T4) T4 Post S O μ (Ug ((base 78).at a [.code (nl U2),.inLoop (nl U2),.inBlock 2,.code (FX U2)]) (c::cs)) w:=by
 intro d
 induction d with
 |zero=>
  intro i r O w a g lA μ b;have:i=ws.length:=by omega
  subst this;exact NV b (t O w a g lA μ b)
 |succ d o=>
  intro i r O w a g lA μ b;have u:i<ws.length:=by omega
  have m:ws[i]? =I ws[i]:=Um u;cases l:ws[i] with
  |true=>exact G6 j b (by rw[m,l]) λp w' f q v y h=>o (i+1) (by omega) p w' f q v y h
  |false=>exact KP j b (by rw[m,l]) λf h=>o (i+1) (by omega) O w f g lA μ h
def Ra(q:Fj S w0 s k e N cb n kb nk eb ne wb ws V)(h:IV S O w0 w N cb n cap kb nk ck eb ne ce x wb gU ws V ch bb fb cS ws.length μ a)
 (A:∀lb O w a g lA μ,zS S O w0 w N cb n cap kb nk ck eb ne ce x wb gU ws V ch g bb fb cS lb ws.length lA μ a->ku (aB T4) T4 Post S O μ (Ug (c.finish (.tuple #[.slice (I ⟨lb,0,K⟩) ws.length ws.length,.bool lA])) cs) w):
 ku (aB T4) T4 Post S O μ (Ug ((base 78).at a [.code (dw U2),.inLoop (dw U2),.inBlock 0,.code (gV U2)]) (c::cs)) w:=by
 obtain⟨b,v,f,o,P,L,M,y,m⟩:=h;have d:=dS (aB T4) T4 Post S μ;obtain⟨G,z,F,D,u⟩:=Oj;have Q:=q.mm;refine aS d ?_;refine bq d [0] Y ?_;refine dD d b Y (.bool T7) (jx Y (b.of Y) (b.of Y) (by simp)) λb=>?_;refine ak d ?_;refine aS d ?_;refine dn d T7 (b.of Y) ?_;refine ud d (k':=[.code (gV U2)]) Y ?_;refine aS d ?_;refine bq d [0,1,2,3] Y ?_;refine cH d b λb=>?_;refine dD d b Y (.int .i64 (ws.length:Int)) (sn Y (b.of Y) WG) λb=>?_;refine mB d f.inr (by decide) Y Y (.cells (madeCells (J).cells (ws.length*G.size)) 43) trivial (λn=>.slice (I ⟨n,0,K⟩) ws.length ws.length) (Cb Y (b.of Y) (b.of Y) Tryz.underlying26 z F (T8 _) (by rw[u];omega) (by omega)) λlb H B E hrel t=>?_;replace b:=b.put (d:=39) (by decide) (.slice (I ⟨lb,0,K⟩) ws.length ws.length);refine gX d b λb=>?_;refine ak d ?_;refine aS d ?_;refine bq d [0] Y ?_;refine m0 d b (.bool Z) λb=>?_;refine ak d ?_;refine aS d ?_;refine aS d ?_;refine bq d [0,1,2] Y ?_;refine cH d b λb=>?_;refine dD d b Y (.int .i64 (ws.length:Int)) (sn Y (b.of Y) WG) λb=>?_;refine dD d b Y (.int .i64 ((0:Nat):Int)) (cj Y Y) λb=>?_;refine ak d ?_;refine gB d ?_;refine ue d ?_;have C:=f.new B E hrel;have R:=f.inr bb (.inr f.ob);have T:=f.inr fb (.inr f.of);have U:=f.inr cS (.inr o);have W:=f.Hz.size;refine KO (lb:=lb) (ch:=ch) q (λO w a g lA μ h=>A lb O w a g lA μ h) ws.length 0 (by omega) _ H _ (λ_=>0) Z μ ⟨((((((b.nil.cons (b.slot 2 _ Y)).cons (b.slot 3 _ Y)).cons (b.slot 6 _ Y)).cons (b.slot 7 _ Y)).cons (b.slot 8 _ Y)).cons (b.slot 41 _ Y)).cons (b.slot 42 _ Y),by simp only[put_defers];exact v,C,.inl o,(hrel.at_ cS (.inr o)).trans y,.inr Y,by omega,by omega,by omega,by omega,?_,λl j=>absurd j (by omega),⟨λl r j p=>m.mu l r j p,m.no,m.inj,λl j p=>Ud (m.lt l j p) hrel.size⟩,⟨λ_ l j=>absurd j (by omega),λ_=>rfl⟩⟩;rw[B9,<-D];exact t
def go_loop(j:Fj S w0 s k e N cb n kb nk eb ne wb ws V)(t:∀ch lb O w a g lA μ,zS S O w0 w N cb n cap kb nk ck eb ne ce x wb gU ws V ch g bb fb cS lb ws.length lA μ a->ku (aB T4) T4 Post S O μ (Ug (c.finish (.tuple #[.slice (I ⟨lb,0,K⟩) ws.length ws.length,.bool lA])) cs) w):
 ∀(d i:Nat),i+d=ws.length->∀O w a ch μ,IV S O w0 w N cb n cap kb nk ck eb ne ce x wb gU ws V ch bb fb cS i μ a->
 ku (aB T4) T4 Post S O μ (Ug ((base 78).at a [.code (dw U2),.inLoop (dw U2),.inBlock 0,.code (gV U2)]) (c::cs)) w:=by
 intro d
 induction d with
 |zero=>
  intro i r O w a ch μ b;have:i=ws.length:=by omega
  subst this;exact Ra j b (λlb O w a g lA μ b=>t ch lb O w a g lA μ b)
 |succ d o=>
  intro i r O w a ch μ b;have u:i<ws.length:=by omega
  have m:ws[i]? =I ws[i]:=Um u;cases l:ws[i] with
  |true=>exact go_round j b (by rw[m,l]) λp w' f q v h=>o (i+1) (by omega) p w' f q v h
  |false=>exact go_skip j b (by rw[m,l]) λf h=>o (i+1) (by omega) O w f ch μ h
def Lx(p:Fj S w0 s k e N cb n kb nk eb ne wb ws V)
 (M:∀bb fb cS ch lb O w a g lA μ,zS S O w0 w N cb n cap kb nk ck eb ne ce x wb gU ws V ch g bb fb cS lb ws.length lA μ a->ku (aB T4) T4 Post S O μ (Ug (c.finish (.tuple #[.slice (I ⟨lb,0,K⟩) ws.length ws.length,.bool lA])) cs) w):
 ku (aB T4) T4 Post S (λb=>b<w0.heap.size/\¬S b) (λ_=>K) (Ug (UY T4 78 #[o4 (N:Int) cb n cap,o6 kb nk ck eb ne ce x,.slice (I ⟨wb,0,K⟩) ws.length gU] .normal) (c::cs)) w0:=by
 have f:=dS (aB T4) T4 Post S (λ_=>K);obtain⟨W,L,U,P,G⟩:=RS;have Z:=p.mm;rw[enter_at _ Tryz.func78 Y];have d:=TU (o4 (N:Int) cb n cap) (o6 kb nk ck eb ne ce x) (.slice (I ⟨wb,0,K⟩) ws.length gU) 73 (by decide);have v:tQ S (λb=>b<w0.heap.size/\¬S b) w0:=λb j=>j.elim (p.sz b) (λh=>h.1);refine aS f ?_;refine bq f [0,1,2,3] Y ?_;refine mB f v (by decide) Y Y (.cells #[.int .i64 (N:Int),.slice (I ⟨cb,0,K⟩) n cap] 139) trivial (λn=>.pointer (I ⟨n,0,K⟩)) (uE (v:=o4 (N:Int) cb n cap) Y (d.of Y)) λbb aa u Q r B=>?_;replace d:=d.put (d:=3) (by decide) (.pointer (I ⟨bb,0,K⟩));have y:=v.new u Q;refine mB f y (by decide) Y Y (.cells #[.slice (I ⟨kb,0,K⟩) nk ck,.slice (I ⟨eb,0,K⟩) ne ce,x] 105) trivial (λn=>.pointer (I ⟨n,0,K⟩)) (uE (v:=o6 kb nk ck eb ne ce x) Y (d.of Y)) λfb ab E R o C=>?_;replace d:=d.put (d:=4) (by decide) (.pointer (I ⟨fb,0,K⟩));have z:=y.new E R;refine m0 f d aO λd=>?_;refine m0 f d (.bool T7) λd=>?_;refine ak f ?_;refine aS f ?_;refine bq f [0,1,2,3] Y ?_;refine cH f d λd=>?_;refine dD f d Y (.int .i64 (ws.length:Int)) (sn Y (d.of Y) WG) λd=>?_;refine mB f z (by decide) Y Y (.cells (madeCells (Value.chan K).cells (ws.length*W.size)) 193) trivial (λn=>.slice (I ⟨n,0,K⟩) ws.length ws.length) (Cb Y (d.of Y) (d.of Y) Tryz.underlying192 L U (T8 _) (by rw[G];omega) (by omega)) λcS X F T l D=>?_;replace d:=d.put (d:=13) (by decide) (.slice (I ⟨cS,0,K⟩) ws.length ws.length);have J:=z.new F T;refine gX f d λd=>?_;refine ak f ?_;refine aS f ?_;refine aS f ?_;refine bq f [0,1,2] Y ?_;refine cH f d λd=>?_;refine dD f d Y (.int .i64 (ws.length:Int)) (sn Y (d.of Y) WG) λd=>?_;refine dD f d Y (.int .i64 ((0:Nat):Int)) (cj Y Y) λd=>?_;refine ak f ?_;refine gB f ?_;refine ue f ?_;have q:∀b,b<w0.heap.size->S b\/(b<w0.heap.size/\¬S b):=λb j=>by
  rcases Classical.em (S b) with h|h
  ·exact .inl h
  ·exact .inr ⟨j,h⟩
 refine go_loop (bb:=bb) (fb:=fb) (cS:=cS) p (λch lb O w a g lA μ h=>M bb fb cS ch lb O w a g lA μ h) ws.length 0 (by omega) _ X _ (λ_=>0) _ ⟨(((((d.nil.cons (d.slot 2 _ Y)).cons (d.slot 3 _ Y)).cons (d.slot 4 _ Y)).cons (d.slot 8 _ Y)).cons (d.slot 15 _ Y)).cons (d.slot 16 _ Y),by simp only[put_defers],⟨⟨?_,?_,?_,?_,λb j=>?_⟩,λb j=>?_,J,λb j t=>?_,.inl (.inl (.inr Y)),.inl (.inr Y),u,by omega,?_,?_⟩,.inr Y,by omega,by omega,by omega,?_,⟨λA _ m=>absurd m (by omega),λc H=>absurd Y H,λA _ m=>absurd m (by omega),λA m=>absurd m (by omega)⟩⟩
 ·rw[l.os,o.os,r.os]
 ·rw[l.tape,o.tape,r.tape]
 ·rw[l.output,o.output,r.output]
 ·omega
 ·rw[l.at_ b ((q b j).imp (λh=>h) (λh=>.inl (.inl h))),o.at_ b ((q b j).imp (λh=>h) (λh=>.inl h)),r.at_ b (q b j)]
 ·exact(q b j).imp (λh=>h) (λh=>.inl (.inl (.inl h)))
 ·have:=p.sz b j;rcases t with((t|rfl)|rfl)|rfl
  ·exact t.2 j
  ·omega
  ·omega
  ·omega
 ·rw[l.at_ bb (.inr (.inl (.inr Y))),o.at_ bb (.inr (.inr Y))];exact B
 ·rw[l.at_ fb (.inr (.inr Y))];exact C
 ·rw[BO,<-P];exact D
def Qn (w:F)(N:Nat)(ws:List Bool)(V:Nat->List aE)(f:WS)(w':F):Prop:=
 ∃lb lA g,f= .returned (.tuple #[.slice (I ⟨lb,0,K⟩) ws.length ws.length,.bool lA])/\aP w w'/\w.heap.size<=lb/\w'.heap[lb]? =I (.cells (fq ws g V N ws.length).toArray 43 (0,0))/\(∀b,ws[b]? =I Z->Row w' (g b) N (V b)/\w.heap.size<=g b)/\(lA=Z↔∀b,ws[b]? =I Z->(V b).length=N)
def Fj.at(b:Fj S w s k e N cb n kb nk eb ne wb ws V)(d:Nat):Fj S (w.at d) s k e N cb n kb nk eb ne wb ws V:=
 ⟨b.sz,λh f=>⟨(b.sin h f).1.rel λ_ _=>rfl,(b.sin h f).2⟩,b.wl,λh j f=>b.wc h j f,b.nn,b.mm,b.pos⟩
def Fx(p:Fj S w s k e N cb n kb nk eb ne wb ws V):mi (aB T4) T4 Post 78 #[o4 (N:Int) cb n cap,o6 kb nk ck eb ne ce x,.slice (I ⟨wb,0,K⟩) ws.length gU] w (Qn w N ws V):=by
 intro c cs u G F t;refine JV S (λd=>d<w.heap.size/\¬S d) (λd b=>⟨p.sz d b,λh=>h.2 b⟩) (λd b=>b.1) λJ A=>?_;obtain⟨o,rfl⟩:=A;refine Lx (w0:=w.at o) (p.at o) λbb fb cS ch lb O w' a g lA μ h=>?_;refine MN (λc=>?_) λr f z=>?_
 ·cases y:μ c with
  |none=>rfl
  |some H=>
   obtain⟨l,m,E,_⟩:=h.TK.no c (by rw[y];simp);omega
 ·have b:=h.own.Hz;have v:∀d,d<w.heap.size->r.heap[d]? =w.heap[d]? :=λd q=>(f.at_ d (h.own.low d q)).trans (b.block d q);refine t (.returned (.tuple #[.slice (I ⟨lb,0,K⟩) ws.length ws.length,.bool lA])) r ⟨lb,lA,g,rfl,⟨f.os.trans b.os,f.tape.trans b.tape,f.output.trans b.output,Uy b.size f.size,v⟩,h.ll,(f.at_ lb (.inr h.ol)).trans h.hl,λl j=>?_,?_⟩ z ⟨f.tape.trans b.tape,f.os.trans b.os,f.output.trans b.output,Uy b.size f.size⟩ (n8 u _)
  ·obtain⟨B,C,_,D⟩:=h.rows l (UA.1 j).1 j;exact⟨B.same (f.at_ _ (.inr C)),D⟩
  ·rw[h.ok];exact⟨λm l j=>m l (UA.1 j).1 j,λm l _ j=>m l j⟩
end
end Cc
namespace Cc
open Go Go.Conc
open Go.RowKit (Below)
open Ec (aE aH cF dB sH sg qv)
def nj (rs:List cF)(val:Int->Nat->aE)(p:Nat):Bool:=rs.all λb=>sg (val b.col p) b
def AY{rs:List cF}{val:Int->Nat->aE}{p:Nat}:nj rs val p=Z↔∀i (h:i<rs.length),sg (val rs[i].col p) rs[i]=Z:=by
 unfold nj;rw[Uz];constructor
 ·intro h i b;exact h _ (Uj b)
 ·intro h e d;obtain⟨i,b,rfl⟩:=List.mem_iff_getElem.1 d;exact h i b
def uv(Go:List dy->Bool)(pre:List dy)(x:dy)(b:List dy):feed Go pre (x::b)=if Go (pre++[x]) then feed Go (pre++[x]) b else(pre++[x],T7):=rfl
section
variable {Post:U->F->Prop}{J:List dy->(Nat->Prop)->F->Prop}{Go:List dy->Bool}{w0 w:F}{M0 M own:Nat->Prop}{l first N p qb:Nat}{pre:List dy}{a:V6}{cs:List Ut}{ah:List Int}{rs:List cF}{co:Option UJ}{cb bE aJ:Nat}{ro:Option UJ}{rb bh aN lb m mc:Nat}{val:Int->Nat->aE}{a0 b0 c0:U}{sk:Bool}{c:Ut}
def Mj(h:Fq J w0 w M0 M own #[a0,b0,c0,.slice co ah.length aJ,.slice ro rs.length aN,.bool sk] (.slice (I ⟨lb,0,K⟩) m mc) l first N N qb pre a)(f:Xe (aB T4) T4 Post own (c.finish (.bool Z)) cs w):
 Xe (aB T4) T4 Post own ((base 79).at a [.code (iy Wy),.inLoop (iy Wy),.inBlock 0,.code (qF Wy)]) (c::cs) w:=by
 have b:=ir (aB T4) T4 Post;have d:=h.kn;refine aS b ?_;refine bq b [0] Y ?_;refine dD b d Y (.bool T7) (jx Y (d.of Y) (d.of Y) (by simp)) λd=>?_;refine ak b ?_;refine aS b ?_;refine dn b T7 (d.of Y) ?_;refine ud b (k':=[.code (qF Wy)]) Y ?_;refine aS b ?_;refine bq b [0] Y ?_;refine m0 b d (.bool Z) λd=>?_;refine ak b ?_;refine pL b ?_;have e:=j6 (P:=T4) Tryz.results79 (d.slot 10 _ Y);exact je b Y (by simp only[put_defers];exact h.df) Tryz.func79 e.1 e.2 f
def pR{y:Bool}(b:Knows a 33 [(31,.bool y),(13,.int .i64 (p:Int)),(12,.int .i64 (N:Int)),(5,.pointer (I ⟨qb,0,K⟩)),(4,.func (.yield l) #[] #[]),(2,.int .i64 (first:Int)),(1,.slice (I ⟨lb,0,K⟩) m mc)])(e:a.defers=[])(i:p<N)(h:first+N<=1000000)
 (f:(y=Z->Xe (aB T4) T4 Post own (c.finish (.bool T7)) cs w)/\(y=T7->∀a',Knows a' 33 [(13,.int .i64 ((p+1:Nat):Int)),(12,.int .i64 (N:Int)),(5,.pointer (I ⟨qb,0,K⟩)),(4,.func (.yield l) #[] #[]),(2,.int .i64 (first:Int)),(1,.slice (I ⟨lb,0,K⟩) m mc)]->a'.defers=[]->Xe (aB T4) T4 Post own ((base 79).at a' [.code (iy Wy),.inLoop (iy Wy),.inBlock 0,.code (qF Wy)]) (c::cs) w)):
 Xe (aB T4) T4 Post own ((base 79).at a (mI Wy)) (c::cs) w:=by
 have d:=ir (aB T4) T4 Post;cases y with
 |true=>
  refine dn d Z (b.of Y) ?_;refine aS d ?_;refine bq d [0] Y ?_;refine m0 d b (.bool T7) λb=>?_;refine ak d ?_;refine pL d ?_;have g:=j6 (P:=T4) Tryz.results79 (b.slot 10 _ Y);exact je d Y (by simp only[put_defers];exact e) Tryz.func79 g.1 g.2 (f.1 Y)
 |false=>
  refine dn d T7 (b.of Y) ?_;refine ij d ?_;refine iJ d ?_;refine bq d [0,1] Y ?_;refine dD d b Y (.int .i64 ((p+1:Nat):Int)) (nO (j:=1) Y (b.of Y) Y (by omega)) λb=>?_;refine cH d b λb=>?_;refine ak d ?_;refine kV d ?_;exact f.2 Y _ ((((((b.nil.cons (b.slot 1 _ Y)).cons (b.slot 2 _ Y)).cons (b.slot 4 _ Y)).cons (b.slot 5 _ Y)).cons (b.slot 12 _ Y)).cons (b.slot 13 _ Y)) (by simp only[put_defers];exact e)
def Jx(h:Fq J w0 w M0 M own #[a0,b0,c0,.slice co ah.length aJ,.slice ro rs.length aN,.bool sk] (.slice (I ⟨lb,0,K⟩) m mc) l first N p qb pre a)(f:p<N)
 (e:∀a',Knows a' 33 [(11,.int .i64 (p:Int)),(13,.int .i64 (p:Int)),(12,.int .i64 (N:Int)),(5,.pointer (I ⟨qb,0,K⟩)),(4,.func (.yield l) #[] #[]),(2,.int .i64 (first:Int)),(1,.slice (I ⟨lb,0,K⟩) m mc)]->a'.defers=[]->Xe (aB T4) T4 Post own ((base 79).at a' (.code (.region 4 (xm Wy) T7)::mI Wy)) cs w):
 Xe (aB T4) T4 Post own ((base 79).at a [.code (iy Wy),.inLoop (iy Wy),.inBlock 0,.code (qF Wy)]) cs w:=by
 have d:=ir (aB T4) T4 Post;have b:=h.kn;refine aS d ?_;refine bq d [0] Y ?_;refine dD d b Y (.bool Z) (jx Y (b.of Y) (b.of Y) (by simp;omega)) λb=>?_;refine ak d ?_;refine aS d ?_;refine dn d Z (b.of Y) ?_;refine ij d ?_;refine aS d ?_;refine gB d ?_;refine aS d ?_;refine bq d [0,1] Y ?_;refine cH d b λb=>?_;refine gX d b λb=>?_;refine ak d ?_;refine aS d ?_;exact e _ ((((((b.nil.cons (b.slot 1 _ Y)).cons (b.slot 2 _ Y)).cons (b.slot 4 _ Y)).cons (b.slot 5 _ Y)).cons (b.slot 12 _ Y)).cons (b.slot 13 _ Y) |>.cons (b.slot 11 _ Y)) (by simp only[put_defers];exact h.df)
def Jy(C:Cons (aB T4) T4 Post l J Go)(hF:∀W,(∀b,b<w0.heap.size->¬M0 b->m7 W w0 b)->w0.heap.size<=W.heap.size->SP W ah rs co cb bE ro rb bh lb m N val)(i:first+N<=1000000)(hc:ah.length<=1000)(O:rs.length<=Uq):∀(n p:Nat),p+n=N->∀pre own M w a,pre.length+n<=2000->
 Fq J w0 w M0 M own #[a0,b0,c0,.slice co ah.length aJ,.slice ro rs.length aN,.bool sk] (.slice (I ⟨lb,0,K⟩) m mc) l first N p qb pre a->
 (∀own' g w',J (feed Go pre (eB (nj rs val) (λp=>ah.map λk=>val k p) first p n)).1 g w'->Kept w0 w' M0 g own'->(∀b,own' b->b<w'.heap.size)->Xe (aB T4) T4 Post own' (c.finish (.bool (feed Go pre (eB (nj rs val) (λp=>ah.map λk=>val k p) first p n)).2)) cs w')->
 Xe (aB T4) T4 Post own ((base 79).at a [.code (iy Wy),.inLoop (iy Wy),.inBlock 0,.code (qF Wy)]) (c::cs) w:=by
 intro n
 induction n with
 |zero=>
  intro p L pre own M w a F d e;have:p=N:=by omega
  subst this;exact Mj d (e own M w d.j d.kept d.bd)
 |succ n z=>
  intro p L pre own M w a F d e;refine Jx d (by omega) λR A D=>?_;refine DU (val:=val) C hF (by omega) (by omega) i hc O A D d.j d.kept d.bd d.oq d.nq d.lq d.hq (λown' w' B G f o q r j v x=>?_) (λown' g w' B Q f o q r j v H x=>?_)
  ·have E:nj rs val p=T7:=by
    cases h:nj rs val p with
    |false=>rfl
    |true=>exact absurd (AY.1 h) G
   have h:eB (nj rs val) (λp=>ah.map λk=>val k p) first p (n+1)=eB (nj rs val) (λp=>ah.map λk=>val k p) first (p+1) n:=by
    simp[eB,E]
   rw[h] at e;refine pR f o (by omega) i ⟨λd=>(by cases d),λ_ t s u=>?_⟩;exact z (p+1) (by omega) pre own' M w' t (by omega) ⟨s,u,q,r,j,v,d.nq,d.lq,x⟩ e
  ·have P:=AY.2 Q;have h:eB (nj rs val) (λp=>ah.map λk=>val k p) first p (n+1)=(first+p,ah.map λk=>val k p)::eB (nj rs val) (λp=>ah.map λk=>val k p) first (p+1) n:=by
    simp[eB,P]
   rw[h] at e;rw[uv] at e;cases y:Go (pre++[(first+p,ah.map λk=>val k p)]) with
   |true=>
    rw[y] at f e;simp only[if_true] at e;refine pR f o (by omega) i ⟨λd=>(by cases d),λ_ t s u=>?_⟩;exact z (p+1) (by omega) _ own' g w' t (by simp;omega) ⟨s,u,q,r,j,v,H,d.lq,x⟩ e
   |false=>
    rw[y] at f e;simp only[UB,if_false] at e;exact pR f o (by omega) i ⟨λ_=>e own' g w' q r j,λd=>(by cases d)⟩
def TM(v0 v1 v2 d e:U)(m:Nat)(i:5<=m):Knows ⟨#[v0,v1,v2,d,e]++U3 (m-5) Vk,[]⟩ m [(0,v0),(1,v1),(2,v2),(3,d),(4,e)]:=by
 have b:∀f v,(#[v0,v1,v2,d,e]:Array U)[f]? =I v->aW ⟨#[v0,v1,v2,d,e]++U3 (m-5) Vk,[]⟩ f=v:=λf v g=>by
  unfold aW;rw[UD,Array.getElem?_append_left (Ub.1 g).1,g];rfl
 refine Knows.cons (Knows.cons (Knows.cons (Knows.cons (Knows.cons (l:=[]) ⟨?_,λs v h=>by simp at h⟩ (b 4 e Y)) (b 3 d Y)) (b 2 v2 Y)) (b 1 v1 Y)) (b 0 v0 Y);simp;omega
def Qp (J:List dy->(Nat->Prop)->F->Prop)(M0:Nat->Prop)(w0:F)(e:List dy×Bool)(f:WS)(w':F):Prop:=
 f= .returned (.bool e.2)/\∃d,J e.1 d w'/\(∀b,b<w0.heap.size->¬M0 b->w'.heap[b]? =w0.heap[b]?)/\w0.heap.size<=w'.heap.size/\∀b,d b->M0 b\/w0.heap.size<=b
def F4(C:Cons (aB T4) T4 Post l J Go)(q:J pre M0 w0)(hF:∀W,(∀b,b<w0.heap.size->¬M0 b->m7 W w0 b)->w0.heap.size<=W.heap.size->SP W ah rs co cb bE ro rb bh lb m N val)(t:first+N<=1000000)(hc:ah.length<=1000)(D:rs.length<=Uq)(z:pre.length+N<=2000):
 mi (aB T4) T4 Post 79 #[qv a0 b0 c0 (.slice co ah.length aJ) (.slice ro rs.length aN) sk,.slice (I ⟨lb,0,K⟩) m mc,.int .i64 (first:Int),.int .i64 (N:Int),.func (.yield l) #[] #[]] w0 (Qp J M0 w0 (feed Go pre (eB (nj rs val) (λp=>ah.map λk=>val k p) first 0 N))):=by
 intro c cs F P A s;have f:=ir (aB T4) T4 Post;refine Xe.go (own:=λb=>b<w0.heap.size) ?_ (λb i=>i) A;rw[enter_at _ Tryz.func79 Y];have e:=TM (qv a0 b0 c0 (.slice co ah.length aJ) (.slice ro rs.length aN) sk) (.slice (I ⟨lb,0,K⟩) m mc) (.int .i64 (first:Int)) (.int .i64 (N:Int)) (.func (.yield l) #[] #[]) 33 (by decide);have x:tQ JS (λb=>b<w0.heap.size) w0:=λb d=>d.elim Yq (λi=>i);refine aS f ?_;refine bq f [0,1] Y ?_;refine mB f x (by decide) Y Y (.cells #[a0,b0,c0,.slice co ah.length aJ,.slice ro rs.length aN,.bool sk] 115) trivial (λG=>.pointer (I ⟨G,0,K⟩)) (uE (v:=qv a0 b0 c0 (.slice co ah.length aJ) (.slice ro rs.length aN) sk) Y (e.of Y)) λqb H v Q E u=>?_;replace e:=e.put (d:=5) (by decide) (.pointer (I ⟨qb,0,K⟩));refine m0 f e (.bool T7) λe=>?_;refine ak f ?_;refine aS f ?_;refine aS f ?_;refine bq f [0,1] Y ?_;refine cH f e λe=>?_;refine dD f e Y (.int .i64 ((0:Nat):Int)) (cj Y Y) λe=>?_;refine ak f ?_;refine gB f ?_;refine ue f ?_;have j:=Gd E;have n:=C.bound _ _ _ q;refine Jy (w0:=w0) (M0:=M0) (val:=val) C hF t hc D N 0 (by omega) pre _ M0 H _ z ⟨((((((e.nil.cons (e.slot 1 _ Y)).cons (e.slot 2 _ Y)).cons (e.slot 4 _ Y)).cons (e.slot 5 _ Y)).cons (e.slot 12 _ Y)).cons (e.slot 13 _ Y)),by simp only[put_defers],C.j8 _ _ _ _ q (λb d=>j.at_ b (n b d)) j.size,⟨λb d o=>⟨.inl d,j.at_ b d⟩,λb d=>.inl d,λb d=>.inl (n b d),j.size,j.tape,j.os,j.output⟩,λb d=>d.elim (λi=>by omega) (λi=>by omega),.inr Y,λi=>by have:=n qb i;omega,v,u⟩ λR r S y g O=>?_;intro _ L h B;refine s _ L ⟨rfl,r,C.j8 _ _ _ _ y (λb d=>h.at_ b (g.rm b d)) h.size,λb d o=>(h.at_ b (g.keep b d o).1).trans (g.keep b d o).2,Uy g.size h.size,g.ext⟩ B ⟨h.tape.trans g.tape,h.os.trans g.os,h.output.trans g.output,Uy g.size h.size⟩ (n8 F _)
end
end Cc
namespace Cc
open Go Go.Conc
open Go.RowKit (Below)
open Ec (aE aH cF dB sH zU sg qv bL Bd kq lB dI aY xQ oV nJ)
structure FM(W:F)(l:List (bL×Int))(bs:List Bd)(ah:List Int)(rs:List cF)(kb eb:Nat)(dO:Option UJ)(db:Nat)(cS ni:Nat->Nat)(co:Option UJ)(cb bE:Nat)(ro:Option UJ)(rb bh:Nat):Prop where
 k:∀j x,l[j]? =I x->aM W kb (0+j*2+1) (.int .i64 x.1.kind)
 e:∀j x,l[j]? =I x->aM W eb (0+j*1) (.int .i64 x.2)
 d:∀i b,bs[i]? =I b->W.rangeAt db (0+i*2) [.int .i64 (b.rows:Int),.slice (I ⟨cS i,0,K⟩) l.length (ni i)]
 c:∀i b,bs[i]? =I b->∀j x,b.chunks[j]? =I x->∀t u,(dI x)[t]? =I u->W.cell? ⟨cS i,j*8+t,K⟩=I u
 lk:kb<W.heap.size
 le:eb<W.heap.size
 da:0<bs.length->dO=I ⟨db,0,K⟩
 ld:0<bs.length->db<W.heap.size
 lc:∀i,i<bs.length->cS i<W.heap.size
 ca:0<ah.length->co=I ⟨cb,bE,K⟩
 cl:0<ah.length->cb<W.heap.size
 cc:∀j,j<ah.length->aM W cb (bE+j) (.int .i64 (ah.getD j 0))
 nr:dB W ro rb bh rs
structure FQ(l:List (bL×Int))(bs:List Bd)(ah:List Int)(rs:List cF)(V:Nat->Nat->List aE):Prop where
 len:∀b∈bs,b.chunks.length=l.length
 m:l.length<=1000
 pos:0<l.length
 rows:∀b∈bs,b.rows<=100
 tot:(bs.map (·.rows)).sum<=2000
 nb:bs.length<=100000
 cn:ah.length<=1000
 rn:rs.length<=Uq
 ck:∀k∈ah,0<=k/\k<(l.length:Int)
 rk:∀r∈rs,0<=r.col/\r.col<(l.length:Int)
 dec:∀(i:Nat) b,bs[i]? =I b->∀(j:Nat) x y,b.chunks[j]? =I x->l[j]? =I y->x.text.size<=Uq/\pp x.text y.1.kind y.2 (b.rows:Int) (V i j)
def vJ:kq:=⟨⟨#[]⟩,Ec.cE⟩
def rowsOf(bs:List Bd)(i:Nat):Nat:=(bs.map (·.rows)).getD i 0
def jv (bs:List Bd)(i:Nat):Nat:=((bs.take i).map (·.rows)).sum
def tc (bs:List Bd)(rs:List cF)(i:Nat):Bool:=rs.any λa=>Ec.wM (((bs.getD i ⟨0,[]⟩).chunks.getD a.col.toNat vJ).eY) a
def Ay (V:Nat->Nat->List aE)(i:Nat)(k:Int)(p:Nat):aE:=(V i k.toNat).getD p ⟨T7,0,⟨#[]⟩⟩
def Le (bs:List Bd)(ws:List Bool)(V:Nat->Nat->List aE)(i:Nat):Bool:=(UK ws.length).all λa=> !ws.getD a T7||(V i a).length==rowsOf bs i
def ix (bs:List Bd)(ah:List Int)(rs:List cF)(V:Nat->Nat->List aE)(i:Nat):List dy:=eB (nj rs (Ay V i)) (λb=>ah.map λa=>Ay V i a b) (jv bs i) 0 (rowsOf bs i)
def iW (sk:Bool)(bs:List Bd)(ah:List Int)(rs:List cF)(ws:List Bool)(V:Nat->Nat->List aE)(Go:List dy->Bool):Nat->Nat->List dy->Nat->List dy×Nat×Nat
 |i,0,pre,a=>(pre,a,0)
 |i,b+1,pre,a=>if sk&&tc bs rs i then iW sk bs ah rs ws V Go (i+1) b pre a else if Le bs ws V i then(if (feed Go pre (ix bs ah rs V i)).2 then iW sk bs ah rs ws V Go (i+1) b (feed Go pre (ix bs ah rs V i)).1 (a+1) else((feed Go pre (ix bs ah rs V i)).1,a+1,0)) else(pre,a+1,3)
theorem pg(jj:Nat->Bool)(a:Nat->List aE)(first:Nat):∀(n p:Nat),(eB jj a first p n).length<=n
 |0,p=>T8 _
 |n+1,p=>by
  have:=pg jj a first n (p+1)
  simp only[eB]
  split
  ·simp;omega
  ·omega
theorem vA(Go:List dy->Bool):∀(a pre:List dy),(feed Go pre a).1.length<=pre.length+a.length
 | [],pre=>T8 _
 |x::a,pre=>by
  rw[uv]
  split
  ·have:=vA Go a (pre++[x]);simp at this ⊢;omega
  ·simp
def sQ{bs:List Bd}{i:Nat}{b:Bd}(h:bs[i]? =I b):jv bs (i+1)=jv bs i+b.rows:=by
 obtain⟨a,rfl⟩:=UA.1 h;unfold jv;rw[Uo a,U0,List.sum_append];simp only[Xw,List.map_nil,List.sum_cons,List.sum_nil,Nat.add_zero]
def yh(bs:List Bd):∀i,jv bs i<=(bs.map (·.rows)).sum:=by
 intro i;have a:(bs.map (·.rows)).sum=((bs.take i).map (·.rows)).sum+((bs.drop i).map (·.rows)).sum:=by
  rw[<-List.sum_append,<-U0,Ww]
 unfold jv;omega
def uO{bs:List Bd}{i:Nat}{b:Bd}(h:bs[i]? =I b):rowsOf bs i=b.rows:=by
 unfold rowsOf;simp[Ui,h]
def R5:(Tryz.f76.name == "runtime.NumGoroutine")=T7:=by kernel_rfl
def SL:(Tryz.f77.name == "runtime.NumGoroutine")=T7:=by kernel_rfl
def RR:(U2.name == "runtime.NumGoroutine")=T7:=by kernel_rfl
def RX:(Wy.name == "runtime.NumGoroutine")=T7:=by kernel_rfl
section
variable {W:F}{l:List (bL×Int)}{bs:List Bd}{ah:List Int}{rs:List cF}{kb eb db:Nat}{dO:Option UJ}{cS ni:Nat->Nat}{co:Option UJ}{cb bE:Nat}{ro:Option UJ}{rb bh:Nat}{V:Nat->Nat->List aE}
def FM.Ta(h:FM W l bs ah rs kb eb dO db cS ni co cb bE ro rb bh)(q:FQ l bs ah rs V){i:Nat}{b:Bd}(d:bs[i]? =I b):∀r∈rs,zU W (cS i) l.length r.col ((b.chunks.getD r.col.toNat vJ).eY):=by
 intro r m;obtain⟨g,s⟩:=q.rk r m;obtain⟨c,e⟩:=WB g;have t:=q.len b (VD d);have k:c<b.chunks.length:=by omega
 have f:b.chunks[c]? =I b.chunks[c]:=Um k;have j:b.chunks.getD r.col.toNat vJ=b.chunks[c]:=by rw[e,Ui];simp[f]
 rw[j];have a:=λo p n=>h.c i b d c _ f o p n;refine⟨c,e,by omega,h.lc i (UA.1 d).1,a 1 _ Y,a 2 _ Y,a 3 _ Y,a 4 _ Y,a 5 _ Y,a 6 _ Y,a 7 _ Y⟩
def D8{n:Nat}{b:List Int}{j:Nat}:(aY n b)[j]? =I Z↔j<n/\(j:Int)∈b:=by
 unfold aY;rcases Vy j n with a|a
 ·simp[a,List.any_eq_true]
 ·simp[a];omega
def FM.bin(h:FM W l bs ah rs kb eb dO db cS ni co cb bE ro rb bh)(q:FQ l bs ah rs V){i:Nat}{b:Bd}(a:bs[i]? =I b){g:Nat}(k:W.heap[g]? =I (.cells (xQ (aY l.length (ah++rs.map cF.col))).toArray 4 (0,0))):
 Fj (λx=>x=cS i\/x=kb\/x=eb) W (λj=>(b.chunks.getD j vJ).text) (λj=>(l.getD j (⟨⟨#[]⟩,0⟩,0)).1.kind) (λj=>(l.getD j (⟨⟨#[]⟩,0⟩,0)).2) b.rows (cS i) l.length kb l.length eb l.length g (aY l.length (ah++rs.map cF.col)) (V i):=by
 have r:=q.len b (VD a);have p:g<W.heap.size:=(Ub.1 k).1;refine⟨λx d=>?_,λj e=>?_,p,λj s e=>?_,?_,?_,by omega⟩
 ·rcases d with rfl|rfl|rfl
  ·exact h.lc i (UA.1 a).1
  ·exact h.lk
  ·exact h.le
 ·have c:=(D8.1 e).1;have d:b.chunks[j]? =I (b.chunks.getD j vJ):=by
   have o:j<b.chunks.length:=by omega
   rw[Ui,Um o];rfl
  have f:l[j]? =I (l.getD j (⟨⟨#[]⟩,0⟩,0)):=by rw[Ui,Um c];rfl
  obtain⟨m,n⟩:=q.dec i b a j _ _ d f;refine⟨⟨.inl Y,.inr (.inl Y),.inr (.inr Y),c,c,c,?_,h.k j _ f,h.e j _ f⟩,m,n⟩;have:=h.c i b a j _ d 0 _ Y;rw[UT];exact this
 ·unfold Us;simp only[k,UT,Nat.mul_one];simp[xQ,e]
 ·have:=q.rows b (VD a);omega
 ·rw[Ec.jl];have:=q.m;omega
end
def iC (fn:WC):WV:=match fn.body with
 |some (.seq _ (.seq _ (.seq _ (.seq (.seq _ (.block _ (.loop c))) _))))=>c
 |_=>.skip
def qT (fn:WC):WV:=match fn.body with
 |some (.seq _ (.seq _ (.seq _ (.seq _ c))))=>c
 |_=>.skip
def Ey (fn:WC):WV:=match iC fn with
 | .seq _ (.seq _ (.seq (.block _ (.seq _ (.seq (.seq _ (.cond _ c _)) _))) _))=>c
 |_=>.skip
def tC (fn:WC):List WM:=match iC fn with
 | .seq _ (.seq _ (.seq (.block _ (.seq _ (.seq _ c))) d))=>[.code c,.inBlock 1,.code d,.inLoop (iC fn),.inBlock 0,.code (qT fn)]
 |_=>[]
structure pG(J:List dy->(Nat->Prop)->F->Prop)(w0 w:F)(M0 M own:Nat->Prop)(q:Array U)(l first n i nb qb wb m:Nat)(bsv:U)(ws:List Bool)(pre:List dy)(a:V6):Prop where
 kn:Knows a 59 [(18,.int .i64 (i:Int)),(17,.int .i64 (nb:Int)),(16,bsv),(7,.int .i64 (first:Int)),(6,.slice (I ⟨wb,0,K⟩) m m),(4,.int .i64 (n:Int)),(2,.pointer (I ⟨qb,0,K⟩)),(1,.func (.yield l) #[] #[])]
 df:a.defers=[]
 j:J pre M w
 kept:Kept w0 w M0 M own
 bd:∀b,own b->b<w.heap.size
 oq:own qb
 nq:¬M qb
 lq:w0.heap.size<=qb
 hq:w.heap[qb]? =I (.cells q 115 (0,0))
 ow:own wb
 nw:¬M wb
 lw:w0.heap.size<=wb
 hw:w.heap[wb]? =I (.cells (xQ ws).toArray 4 (0,0))
section
variable {Post:U->F->Prop}{J:List dy->(Nat->Prop)->F->Prop}{Go:List dy->Bool}{w0 w:F}{M0 M own:Nat->Prop}{lp first n i qb wb:Nat}{pre:List dy}{a:V6}{cs:List Ut}{l:List (bL×Int)}{bs:List Bd}{ah:List Int}{rs:List cF}{kb eb db:Nat}{dO:Option UJ}{cS ni:Nat->Nat}{co:Option UJ}{cb bE aJ:Nat}{ro:Option UJ}{rb bh aN:Nat}{V:Nat->Nat->List aE}{a0 b0:U}{dh:Nat}{sk:Bool}{ws:List Bool}{b:Bd}
def oE{W:F}{q:Array U}{t:Uh}{g:Nat}(h:W.heap[g]? =I (.cells q t (0,0))):W.rangeAt g 0 q.toList:=λd v c=>by
 unfold Us;simp only[h];rw[UT];simpa using c
def kI{W:F}{q:Array U}{t:Uh}{g o:Nat}{v:U}(h:W.heap[g]? =I (.cells q t (0,0)))(c:q[o]? =I v):aM W g o v:=by
 unfold Us;simp only[h];exact c
def Kh(C:Cons (aB T4) T4 Post lp J Go)(q:FQ l bs ah rs V)(hF:∀W,(∀b,b<w0.heap.size->¬M0 b->m7 W w0 b)->w0.heap.size<=W.heap.size->FM W l bs ah rs kb eb dO db cS ni co cb bE ro rb bh)(e:bs[i]? =I b)(a3:0<bs.length->¬M0 db)
 (h:pG J w0 w M0 M own #[a0,b0,.slice dO bs.length dh,.slice co ah.length aJ,.slice ro rs.length aN,.bool sk] lp first n i bs.length qb wb l.length (.slice dO bs.length dh) ws pre a)
 (U:∀own' w' a' vb,pG J w0 w' M0 M own' #[a0,b0,.slice dO bs.length dh,.slice co ah.length aJ,.slice ro rs.length aN,.bool sk] lp first n i bs.length qb wb l.length (.slice dO bs.length dh) ws pre a'->aW a' 9= .pointer (I ⟨vb,0,K⟩)->own' vb->¬M vb->w0.heap.size<=vb->vb≠qb->vb≠wb->w'.heap[vb]? =I (.cells #[.int .i64 (b.rows:Int),.slice (I ⟨cS i,0,K⟩) l.length (ni i)] 139 (0,0))->
   Xe (aB T4) T4 Post own' ((base 54).at a' ((if !(sk&&tc bs rs i) then[.code (Ey Xf)] else[.code .skip])++tC Xf)) cs w'):
 Xe (aB T4) T4 Post own ((base 54).at a [.code (iC Xf),.inLoop (iC Xf),.inBlock 0,.code (qT Xf)]) cs w:=by
 have d:=ir (aB T4) T4 Post;obtain⟨c,E,az,o,r,g,ae,X,a6,u,al,ab,bd⟩:=h;have F:i<bs.length:=(UA.1 e).1;have R:tQ JS own w:=λb e=>e.elim Yq (r b);have m:=o.same (λb bv _ h _=>h) (T8 _);have N:=hF w m.1 m.2;have a5:own db:=by
  have p:=hF w0 (λ_ _ _ _ h _=>h) (T8 _);exact(o.keep db (p.ld (by omega)) (a3 (by omega))).1
 obtain rfl:=N.da (by omega);have br:=q.nb;refine aS d ?_;refine bq d [0] Y ?_;refine dD d c Y (.bool Z) (jx Y (c.of Y) (c.of Y) (by simp;omega)) λc=>?_;refine ak d ?_;refine aS d ?_;refine dn d Z (c.of Y) ?_;refine ij d ?_;refine aS d ?_;refine gB d ?_;refine aS d ?_;refine bq d [0,1,2,3] Y ?_;refine dD d c Y (.pointer (I ⟨db,0+i*2,K⟩)) (fH Y (c.of Y) (c.of Y) Tryz.underlying103 Tryz.sizeOf139 F) λc=>?_;refine rf d c Y (.agg #[.int .i64 (b.rows:Int),.slice (I ⟨cS i,0,K⟩) l.length (ni i)]) (fj (cs:=[.int .i64 (b.rows:Int),.slice (I ⟨cS i,0,K⟩) l.length (ni i)]) Y (c.of Y) V7 Y nW (.inr a5) (N.d i b e)) λc=>?_;refine mB d R (by decide) Y Y (.cells #[.int .i64 0,aO] 139) trivial (λn=>.pointer (I ⟨n,0,K⟩)) (sZ Y Tryz.zeroValue139) λvb bA a4 a9 hrel ar=>?_;replace c:=c.put (d:=9) (by decide) (.pointer (I ⟨vb,0,K⟩));have S:=R.new a4 a9;refine r9 d S (by decide) Y Y (.inr Y) (.cells #[.int .i64 (b.rows:Int),.slice (I ⟨cS i,0,K⟩) l.length (ni i)] 139) trivial (kZ (n:=vb) (off:=0) (v:=.agg #[.int .i64 (b.rows:Int),.slice (I ⟨cS i,0,K⟩) l.length (ni i)]) Y (c.of Y) (c.of Y) nW (λbl Q=>by simp[WH] at Q;rcases Q with rfl|rfl<;>rfl) (Or.inr (Or.inr rfl)) ar (T8 2)) λB f=>?_;replace c:=c.none Vk;have bt:=r qb g;have bu:=r wb u;have x:RelB own w B:=⟨λb G=>(f.at_ b (.inr (.inl G)) (by have:=r b G;omega)).trans (hrel.at_ b (.inr G)),Uy hrel.size f.size,f.tape.trans hrel.tape,f.os.trans hrel.os,f.output.trans hrel.output⟩;have s:=o.rel (own':=λb=>own b\/b=vb) x (λb h=>.inl h);have T:=C.j8 _ _ _ B az (λb e=>x.at_ b (o.rm b e)) x.size;have P:∀b,own b\/b=vb->b<B.heap.size:=λb e=>(S.set f) b (.inr e);have A:=(x.at_ qb g).trans a6;have ap:=(x.at_ wb u).trans bd;have ao:∀b,M b->b≠vb:=λb e D=>by have:=r b (o.rm b e);omega
 have aa:w0.heap.size<=vb:=by have:=o.size;omega
 refine ak d ?_;refine aS d ?_;refine aS d ?_;refine bq d [0,1,2,3,4,5,6,7,8] Y ?_;refine dD d c Y (.pointer (I ⟨qb,5,K⟩)) (dj (off':=5) Y (c.of Y) WE Y Tryz.sizeOf4 Y) λc=>?_;refine rf d c Y (.bool sk) (bZ Y (c.of Y) Tryz.isAgg4 (.inr (.inl g)) (kI A Y)) λc=>?_;refine dD d c Y (.bool (!sk)) (yK Y (c.of Y)) λc=>?_;refine cH d c λc=>?_;cases sk with
 |false=>
  refine sN d c λc=>?_;refine sN d c λc=>?_;refine sN d c λc=>?_;refine sN d c λc=>?_;refine dD d c Y (.bool Z) (yM Y (c.of Y) Y) λc=>?_;refine ak d ?_;refine dn d Z (c.of Y) ?_;exact U _ B _ vb ⟨(((((((c.nil.cons (c.slot 1 _ Y)).cons (c.slot 2 _ Y)).cons (c.slot 4 _ Y)).cons (c.slot 6 _ Y)).cons (c.slot 7 _ Y)).cons (c.slot 16 _ Y)).cons (c.slot 17 _ Y)).cons (c.slot 18 _ Y),by simp only[put_defers];exact E,T,s,P,.inl g,ae,X,A,.inl u,al,ab,ap⟩ (c.slot 9 _ Y) (.inr Y) (λh=>ao vb h Y) aa (by omega) (by omega) f.set
 |true=>
  refine ox d (by decide) Y (c.want (d:=25) (want:=T7) (b:=T7) Y Y Y (by decide)) _ (fj (cs:=[a0,b0,.slice (I ⟨db,0,K⟩) bs.length dh,.slice co ah.length aJ,.slice ro rs.length aN,.bool Z]) Y (c.of Y) WE Y uI (.inr (.inl g)) (oE A)) ?_;replace c:=c.put (d:=26) (by decide) (qv a0 b0 (.slice (I ⟨db,0,K⟩) bs.length dh) (.slice co ah.length aJ) (.slice ro rs.length aN) Z);refine ox d (by decide) Y (c.want (d:=25) (want:=T7) (b:=T7) Y Y Y (by decide)) _ (fj (cs:=[.int .i64 (b.rows:Int),.slice (I ⟨cS i,0,K⟩) l.length (ni i)]) Y (c.of Y) V7 Y nW (.inr (.inr Y)) (oE f.set)) ?_;replace c:=c.put (d:=27) (by decide) (.agg #[.int .i64 (b.rows:Int),.slice (I ⟨cS i,0,K⟩) l.length (ni i)]);refine C5 (R:=λW D L=>∃k,D= .returned (.bool k)/\k=tc bs rs i) cV Y Y (c.want (d:=25) (want:=T7) (b:=T7) Y Y Y (by decide)) Y (xJ (c.of Y) (c.of Y)) Tryz.func77 SL Y (jX Y Y Y).symm (dJ Y (by simp only[put_defers];exact E) (by kernel_rfl)) (λW m H=>?_) λv y W L m H bm bb bo j=>?_
  ·have O:=hF W (s.same m H).1 (s.same m H).2;refine(nJ rs (λbi=>(b.chunks.getD bi.toNat vJ).eY) (b.rows:Int) (cS i) l.length (ni i) a0 b0 (.slice (I ⟨db,0,K⟩) bs.length dh) (.slice co ah.length aJ) ro rb bh aN Z W q.rn O.nr (O.Ta q e)).mono λD L h=>?_;obtain⟨k,rfl,p,aq⟩:=h;refine⟨aq,_,rfl,k,rfl,?_⟩;have aw:bs.getD i ⟨0,[]⟩=b:=by rw[Ui,e];rfl
   unfold tc;rw[aw];cases z:k with
   |true=>
    symm
    rw[z] at p;apply VZ;intro ad;simp only[Bool.not_eq_true,List.any_eq_false] at ad;have:∀i (h:i<rs.length),Ec.wM ((b.chunks.getD rs[i].col.toNat vJ).eY) rs[i]=T7:=λi F=>by
     have:=ad rs[i] (Uj F);simpa using this
    have:=p.2 this;cases this
   |false=>
    symm
    rw[List.any_eq_false];intro bx a8;obtain⟨bj,ba,rfl⟩:=List.mem_iff_getElem.1 a8;have:=(p.1 z) bj ba;simpa using this
  ·obtain⟨k,z,rfl⟩:=bb;cases z;have a2:=s.rel (own':=grown (λb=>own b\/b=vb) W.heap.size y.heap.size) j (λb h=>.inl h);have a1:=C.j8 _ _ _ y T (λb e=>j.at_ b (s.rm b e)) j.size;have a7:=(j.at_ qb (.inl g)).trans A;have be:=(j.at_ wb (.inl u)).trans ap;have bc:=(j.at_ vb (.inr Y)).trans f.set;have av:∀b,grown (λb=>own b\/b=vb) W.heap.size y.heap.size b->b<y.heap.size:=λb e=>e.elim (λh=>Ud (P b h) j.size) (λh=>h.2);replace c:=c.put (d:=28) (by decide) (.bool (tc bs rs i));refine mC d (by decide) Y (c.want (d:=25) (want:=T7) (b:=T7) Y Y Y (by decide)) _ (yK Y (c.of Y)) ?_;replace c:=c.put (d:=29) (by decide) (.bool (!tc bs rs i));refine dD d c Y (.bool (!tc bs rs i)) (yL Y (c.of Y) (c.of Y)) λc=>?_;refine ak d ?_;refine dn d (!tc bs rs i) (c.of Y) ?_;have t:=U _ y _ vb ⟨(((((((c.nil.cons (c.slot 1 _ Y)).cons (c.slot 2 _ Y)).cons (c.slot 4 _ Y)).cons (c.slot 6 _ Y)).cons (c.slot 7 _ Y)).cons (c.slot 16 _ Y)).cons (c.slot 17 _ Y)).cons (c.slot 18 _ Y),by simp only[put_defers];exact E,a1,a2,av,.inl (.inl g),ae,X,a7,.inl (.inl u),al,ab,be⟩ (c.slot 9 _ Y) (.inl (.inr Y)) (λh=>ao vb h Y) aa (by omega) (by omega) bc;rw[Bool.true_and] at t;cases am:tc bs rs i with
   |true=>rw[am] at t;exact t
   |false=>rw[am] at t;exact t
end
end Cc
namespace Cc
open Go Go.Conc
open Go.RowKit (Below)
open Ec (aE aH cF dB sH zU sg qv bL Bd kq lB dI aY xQ)
def gF (kb g ck eb f ce:Nat)(dO:Option UJ)(d dh:Nat)(co:Option UJ)(e aJ:Nat)(ro:Option UJ)(h aN:Nat)(sk:Bool):Array U:= #[.slice (I ⟨kb,0,K⟩) g ck,.slice (I ⟨eb,0,K⟩) f ce,.slice dO d dh,.slice co e aJ,.slice ro h aN,.bool sk]
section
variable {Post:U->F->Prop}{J:List dy->(Nat->Prop)->F->Prop}{Go:List dy->Bool}{w0 w:F}{M0 M own:Nat->Prop}{lp first n i qb wb vb:Nat}{pre:List dy}{a:V6}{cs:List Ut}{l:List (bL×Int)}{bs:List Bd}{ah:List Int}{rs:List cF}{kb ck eb ce db:Nat}{dO:Option UJ}{cS ni:Nat->Nat}{co:Option UJ}{cb bE aJ:Nat}{ro:Option UJ}{rb bh aN:Nat}{V:Nat->Nat->List aE}{dh:Nat}{sk:Bool}{b:Bd}{c:Ut}
def Ip{ws:List Bool}(g:bs[i]? =I b):Le bs ws V i=Z↔∀j,ws[j]? =I Z->(V i j).length=b.rows:=by
 unfold Le;rw[uO g,Uz];constructor
 ·intro f j d;have e:j<ws.length:=(UA.1 d).1;have:=f j (Vt.2 e);rw[Ui,d] at this;simpa using this
 ·intro f j d;have e:=Vt.1 d;rw[Ui,Um e];cases h:ws[j] with
  |false=>simp
  |true=>
   have:=f j (by rw[Um e,h]);simp[this]
def Pd{W w5:F}{lb N:Nat}{g:Nat->Nat}(q:FQ l bs ah rs V)(e:FM W l bs ah rs kb eb dO db cS ni co cb bE ro rb bh)(t:W.heap[lb]? =I (.cells (fq (aY l.length (ah++rs.map cF.col)) g (V i) N (aY l.length (ah++rs.map cF.col)).length).toArray 43 (0,0)))(A:∀j,(aY l.length (ah++rs.map cF.col))[j]? =I Z->Row W (g j) N (V i j))(z:∀j,(aY l.length (ah++rs.map cF.col))[j]? =I Z->(V i j).length=N):
 SP W ah rs co cb bE ro rb bh lb l.length N (Ay V i):=by
 refine⟨e.ca,e.cl,e.cc,e.nr,λp K h f=>?_⟩;have x:(0<=h/\h<(l.length:Int))/\h∈ah++rs.map cF.col:=by
  rcases f with f|⟨u,d,rfl⟩
  ·exact⟨q.ck h f,List.mem_append_left _ f⟩
  ·exact⟨q.rk u d,List.mem_append_right _ (U7.2 ⟨u,d,rfl⟩)⟩
 obtain⟨⟨v,E⟩,y⟩:=x;obtain⟨j,rfl⟩:=WB v;have k:j<l.length:=by omega
 have o:=D8.2 ⟨k,y⟩;have H:=z j o;obtain⟨⟨D,r,G,B⟩,_⟩:=A j o;have m:p<(V i j).length:=by omega
 have d:=uN r B m;have C:Ay V i (j:Int) p=(V i j)[p]:=by
  unfold Ay;rw[Int.toNat_natCast,Ui,Um m];rfl
 rw[C];refine⟨j,g j,(V i j).length,N,rfl,k,(Ub.1 t).1,?_,m,(Ub.1 r).1,?_,?_,?_⟩
 ·unfold Us;simp only[t];have s:j<(aY l.length (ah++rs.map cF.col)).length:=by rw[Ec.jl];exact k
  have:=mK (ws:=aY l.length (ah++rs.map cF.col)) (g:=g) (V:=V i) (N:=N) (i:=(aY l.length (ah++rs.map cF.col)).length) s;rw[if_pos ⟨s,o⟩] at this;simpa using this
 ·have:=d 0 _ Y;rw[UT,Nat.add_zero] at this;exact this
 ·have:=d 1 _ Y;rw[UT] at this;exact this
 ·have:=d 2 _ Y;rw[UT] at this;exact this
end
section
variable {Post:U->F->Prop}{J:List dy->(Nat->Prop)->F->Prop}{Go:List dy->Bool}{w0 w:F}{M0 M own:Nat->Prop}{lp first n i qb wb vb:Nat}{pre:List dy}{a:V6}{cs:List Ut}{l:List (bL×Int)}{bs:List Bd}{ah:List Int}{rs:List cF}{kb ck eb ce db:Nat}{dO:Option UJ}{cS ni:Nat->Nat}{co:Option UJ}{cb bE aJ:Nat}{ro:Option UJ}{rb bh aN:Nat}{V:Nat->Nat->List aE}{dh:Nat}{sk:Bool}{b:Bd}{c:Ut}
def mr{a:V6}{x:U6}{u:U}(h1:a.eval x=u): #[x].map a.eval=#[u]:=by simp[h1]
def Ls{a:V6}{x y z u v:U6}{f g h d e:U}(h1:a.eval x=f)(j:a.eval y=g)(k:a.eval z=h)(m:a.eval u=d)(o:a.eval v=e): #[x,y,z,u,v].map a.eval=#[f,g,h,d,e]:=by simp[h1,j,k,m,o]
def Bg(q:FQ l bs ah rs V)(g:bs[i]? =I b)(C:first<=100000)(D:i<bs.length)
 (h:pG J w0 w M0 M own (gF kb l.length ck eb l.length ce dO bs.length dh co ah.length aJ ro rs.length aN sk) lp first n i bs.length qb wb l.length (.slice dO bs.length dh) (aY l.length (ah++rs.map cF.col)) pre a) (f:aW a 9= .pointer (I ⟨vb,0,K⟩)) (x:own vb) (A:w.heap[vb]? =I (.cells #[.int .i64 (b.rows:Int),.slice (I ⟨cS i,0,K⟩) l.length (ni i)] 139 (0,0)))
 (o:∀a',pG J w0 w M0 M own (gF kb l.length ck eb l.length ce dO bs.length dh co ah.length aJ ro rs.length aN sk) lp (first+b.rows) n (i+1) bs.length qb wb l.length (.slice dO bs.length dh) (aY l.length (ah++rs.map cF.col)) pre a'->Xe (aB T4) T4 Post own ((base 54).at a' [.code (iC Xf),.inLoop (iC Xf),.inBlock 0,.code (qT Xf)]) cs w):
 Xe (aB T4) T4 Post own ((base 54).at a (tC Xf)) cs w:=by
 have e:=ir (aB T4) T4 Post;obtain⟨d,k,m,p,j,v,t,r,z,y,u,s,B⟩:=h;have F:=q.rows b (VD g);have E:=q.nb;replace d:=d.cons f;refine bq e [0,1,2,3,4] Y ?_;refine cH e d λd=>?_;refine dD e d Y (.pointer (I ⟨vb,0,K⟩)) (dj (off':=0) Y (d.of Y) V7 Y X5 Y) λd=>?_;refine rf e d Y (.int .i64 (b.rows:Int)) (bZ Y (d.of Y) Yv (.inr x) (kI A Y)) λd=>?_;refine dD e d Y (.int .i64 ((first+b.rows:Nat):Int)) (nO Y (d.of Y) (d.of Y) (by omega)) λd=>?_;refine gX e d λd=>?_;refine ak e ?_;refine iJ e ?_;refine bq e [0,1] Y ?_;refine dD e d Y (.int .i64 ((i+1:Nat):Int)) (nO (j:=1) Y (d.of Y) Y (by omega)) λd=>?_;refine cH e d λd=>?_;refine ak e ?_;refine kV e ?_;exact o _ ⟨(((((((d.nil.cons (d.slot 1 _ Y)).cons (d.slot 2 _ Y)).cons (d.slot 4 _ Y)).cons (d.slot 6 _ Y)).cons (d.slot 7 _ Y)).cons (d.slot 16 _ Y)).cons (d.slot 17 _ Y)).cons (d.slot 18 _ Y),by simp only[put_defers];exact k,m,p,j,v,t,r,z,y,u,s,B⟩
def uP(C:Cons (aB T4) T4 Post lp J Go)(q:FQ l bs ah rs V)(hF:∀W,(∀b,b<w0.heap.size->¬M0 b->m7 W w0 b)->w0.heap.size<=W.heap.size->FM W l bs ah rs kb eb dO db cS ni co cb bE ro rb bh)(f:bs[i]? =I b)(bt:first=jv bs i)(cx:pre.length<=first)(cv:n<=100000)
 (h:pG J w0 w M0 M own (gF kb l.length ck eb l.length ce dO bs.length dh co ah.length aJ ro rs.length aN sk) lp first n i bs.length qb wb l.length (.slice dO bs.length dh) (aY l.length (ah++rs.map cF.col)) pre a) (bl:aW a 9= .pointer (I ⟨vb,0,K⟩)) (ab:own vb) (b3:¬M vb) (cu:w0.heap.size<=vb) (bb:w.heap[vb]? =I (.cells #[.int .i64 (b.rows:Int),.slice (I ⟨cS i,0,K⟩) l.length (ni i)] 139 (0,0)))
 (br:Le bs (aY l.length (ah++rs.map cF.col)) V i=T7->∀own' w',J pre M w'->Kept w0 w' M0 M own'->(∀b,own' b->b<w'.heap.size)->Xe (aB T4) T4 Post own' (c.finish (.tuple #[.int .i64 ((n+1:Nat):Int),.int .i64 3])) cs w')
 (cd:Le bs (aY l.length (ah++rs.map cF.col)) V i=Z->(feed Go pre (ix bs ah rs V i)).2=T7->∀own' u w',J (feed Go pre (ix bs ah rs V i)).1 u w'->Kept w0 w' M0 u own'->(∀b,own' b->b<w'.heap.size)->Xe (aB T4) T4 Post own' (c.finish (.tuple #[.int .i64 ((n+1:Nat):Int),.int .i64 0])) cs w')
 (bx:Le bs (aY l.length (ah++rs.map cF.col)) V i=Z->(feed Go pre (ix bs ah rs V i)).2=Z->∀own' u w' a',pG J w0 w' M0 u own' (gF kb l.length ck eb l.length ce dO bs.length dh co ah.length aJ ro rs.length aN sk) lp first (n+1) i bs.length qb wb l.length (.slice dO bs.length dh) (aY l.length (ah++rs.map cF.col)) (feed Go pre (ix bs ah rs V i)).1 a'->aW a' 9= .pointer (I ⟨vb,0,K⟩)->own' vb->w'.heap[vb]? =I (.cells #[.int .i64 (b.rows:Int),.slice (I ⟨cS i,0,K⟩) l.length (ni i)] 139 (0,0))->Xe (aB T4) T4 Post own' ((base 54).at a' (tC Xf)) (c::cs) w'):
 Xe (aB T4) T4 Post own ((base 54).at a (.code (Ey Xf)::tC Xf)) (c::cs) w:=by
 have e:=ir (aB T4) T4 Post;obtain⟨d,E,x,p,z,aa,a5,b1,a8,ad,a6,b2,bc⟩:=h;have cR:=q.rows b (VD f);have a1:(aY l.length (ah++rs.map cF.col)).length=l.length:=Ec.jl _ _;have bu:jv bs (i+1)<=2000:=Uy (yh bs (i+1)) q.tot;rw[sQ f] at bu;replace d:=d.cons bl;refine aS e ?_;refine bq e [0,1,2] Y ?_;refine cH e d λd=>?_;refine dD e d Y (.int .i64 ((n+1:Nat):Int)) (nO (j:=1) Y (d.of Y) Y (by omega)) λd=>?_;refine gX e d λd=>?_;refine ak e ?_;refine aS e ?_;refine bq e [0,1,2,3,4,5,6,7,8,9] Y ?_;refine rf e d Y (o4 (b.rows:Int) (cS i) l.length (ni i)) (fj (cs:=[.int .i64 (b.rows:Int),.slice (I ⟨cS i,0,K⟩) l.length (ni i)]) Y (d.of Y) V7 Y nW (.inr ab) (oE bb)) λd=>?_;refine dD e d Y (.pointer (I ⟨qb,0,K⟩)) (dj (off':=0) Y (d.of Y) WE Y Tryz.sizeOf105 Y) λd=>?_;refine ox e (by decide) Y Y _ (fj (cs:=[.slice (I ⟨kb,0,K⟩) l.length ck,.slice (I ⟨eb,0,K⟩) l.length ce,.slice dO bs.length dh]) Y (d.of Y) Tryz.underlying105 Y AS (.inr aa) (λD v x=>oE a8 D v (by
  rcases D with _|_|_|D
  ·exact x
  ·exact x
  ·exact x
  ·simp at x))) ?_
 replace d:=d.put (d:=36) (by decide) (o6 kb l.length ck eb l.length ce (.slice dO bs.length dh));refine cH e d λd=>?_;refine sD (R:=λt=>Qn t b.rows (aY l.length (ah++rs.map cF.col)) (V i)) (vs:= #[o4 (b.rows:Int) (cS i) l.length (ni i),o6 kb l.length ck eb l.length ce (.slice dO bs.length dh),.slice (I ⟨wb,0,K⟩) l.length l.length]) Y Y Y Y (BG (d.of Y) (d.of Y) (d.of Y)) Tryz.func78 RR Y (dJ Y (by simp only[put_defers];exact E) (by kernel_rfl)) (λt s=>?_) (λt v g s L ae b4=>?_) (λt bi w' ⟨_,_,_,o,_⟩=>by cases o) (λt w' ⟨_,_,_,o,_⟩=>by cases o)
 ·have az:=p.rel s (λb h=>h);have Q:=hF t (az.same (λb N _ h _=>h) (T8 _)).1 az.size;have:=Fx (Post:=Post) (cap:=ni i) (ck:=ck) (ce:=ce) (x:=.slice dO bs.length dh) (gU:=l.length) (Q.bin q f ((s.at_ wb ad).trans bc));rw[a1] at this;exact this
 ·obtain⟨am,lA,m,o,ap,b0,a2,b6,U⟩:=L;cases o;rw[a1];have X:Le bs (aY l.length (ah++rs.map cF.col)) V i=lA:=by
   cases lA with
   |true=>exact(Ip f).2 (U.1 Y)
   |false=>
    cases o:Le bs (aY l.length (ah++rs.map cF.col)) V i with
    |false=>rfl
    |true=>exact absurd (U.2 ((Ip f).1 o)) (by decide)
  have F:∀b,own b->g.heap[b]? =w.heap[b]? :=λb a7=>(ap.block b (Ud (z b a7) s.size)).trans (s.at_ b a7);have B:w.heap.size<=g.heap.size:=Uy s.size ap.size;have j:Kept w0 g M0 M (λb=>b<g.heap.size):=⟨λb f k=>⟨by have:=p.size;show b<g.heap.size;omega,(F b (p.keep b f k).1).trans (p.keep b f k).2⟩,p.ext,λb f=>Ud (z b (p.rm b f)) B,Uy p.size B,ae.tape.trans (s.tape.trans p.tape),ae.os.trans (s.os.trans p.os),ae.output.trans (s.output.trans p.output)⟩;have aw:=C.j8 _ _ _ g x (λb f=>F b (p.rm b f)) B;have a9:=(F qb aa).trans a8;have ch:=(F wb ad).trans bc;have L:=(F vb ab).trans bb;have ao:qb<g.heap.size:=Ud (z qb aa) B;have be:wb<g.heap.size:=Ud (z wb ad) B;have bd:vb<g.heap.size:=Ud (z vb ab) B;refine Xe.go (own:=λb=>b<g.heap.size) ?_ (λb h=>h) b4;replace d:=d.put (d:=38) (by decide) (.tuple #[.slice (I ⟨am,0,K⟩) l.length l.length,.bool lA]);refine cH e d λd=>?_;refine ri e d λd=>?_;refine ri e d λd=>?_;refine gX e d λd=>?_;refine gX e d λd=>?_;refine ak e ?_;refine aS e ?_;refine aS e ?_;refine bq e [0,1] Y ?_;refine cH e d λd=>?_;refine dD e d Y (.bool (!lA)) (yK Y (d.of Y)) λd=>?_;refine ak e ?_;cases lA with
  |false=>
   refine dn e Z (d.of Y) ?_;refine aS e ?_;refine bq e [0,1,2] Y ?_;refine cH e d λd=>?_;refine gX e d λd=>?_;refine m0 e d (.int .i64 3) λd=>?_;refine ak e ?_;refine pL e ?_;have G:=gI (P:=T4) Tryz.results54 (d.slot 4 _ Y) (d.slot 5 _ Y);exact je e Y (by simp only[put_defers];exact E) Tryz.func54 G.1 G.2 (br X _ g aw j (λb h=>h))
  |true=>
   have bo:=U.1 Y;refine dn e T7 (d.of Y) ?_;refine ij e ?_;refine aS e ?_;refine bq e [0,1,2,3,4,5,6,7] Y ?_;refine rf e d Y (qv (.slice (I ⟨kb,0,K⟩) l.length ck) (.slice (I ⟨eb,0,K⟩) l.length ce) (.slice dO bs.length dh) (.slice co ah.length aJ) (.slice ro rs.length aN) sk) (fj (cs:=(gF kb l.length ck eb l.length ce dO bs.length dh co ah.length aJ ro rs.length aN sk).toList) Y (d.of Y) WE Y uI (.inr ao) (oE a9)) λd=>?_;refine cH e d λd=>?_;refine cH e d λd=>?_;refine dD e d Y (.pointer (I ⟨vb,0,K⟩)) (dj (off':=0) Y (d.of Y) V7 Y X5 Y) λd=>?_;refine rf e d Y (.int .i64 (b.rows:Int)) (bZ Y (d.of Y) Yv (.inr bd) (kI L Y)) λd=>?_;refine cH e d λd=>?_;refine sD (R:=λO=>Qp J M O (feed Go pre (ix bs ah rs V i))) (vs:= #[qv (.slice (I ⟨kb,0,K⟩) l.length ck) (.slice (I ⟨eb,0,K⟩) l.length ce) (.slice dO bs.length dh) (.slice co ah.length aJ) (.slice ro rs.length aN) sk,.slice (I ⟨am,0,K⟩) l.length l.length,.int .i64 (first:Int),.int .i64 (b.rows:Int),.func (.yield lp) #[] #[]]) Y Y Y Y (Ls (d.of Y) (d.of Y) (d.of Y) (d.of Y) (d.of Y)) Tryz.func79 RX Y (dJ Y (by simp only[put_defers];exact E) (by kernel_rfl)) (λO r=>?_) (λO v A r cf al b5=>?_) (λt bi w' ⟨o,_⟩=>by cases o) (λt w' ⟨o,_⟩=>by cases o)
   ·have bA:=C.j8 _ _ _ O aw (λb f=>r.at_ b (j.rm b f)) r.size;have av:ix bs ah rs V i=eB (nj rs (Ay V i)) (λcl=>ah.map λci=>Ay V i ci cl) first 0 b.rows:=by
     unfold ix;rw[uO f,bt]
    rw[av];refine F4 (val:=Ay V i) (cb:=cb) (bE:=bE) (rb:=rb) (bh:=bh) C bA (λW bm ca=>?_) (by omega) q.cn q.rn (by omega);have y:∀b,b<g.heap.size->¬M b->m7 W g b:=λb f k N T R=>bm b (Ud f r.size) k N ((r.at_ b f).trans T) R;have aq:∀b,M b->b<t.heap.size:=λb f=>Ud (z b (p.rm b f)) s.size;have Q:=hF W (λb f k N T R=>y b (j.keep b f k).1 (λh=>(j.ext b h).elim k (λh=>by omega)) N ((j.keep b f k).2.trans T) R) (Uy j.size (Uy r.size ca));have a3:∀m,t.heap.size<=m->m<g.heap.size->m7 W g m:=λm cp bj=>y m bj (λh=>by have:=aq m h;omega);refine Pd (g:=m) (w5:=g) q Q (a3 am b0 (Ub.1 a2).1 _ a2 trivial) (λD x=>?_) bo;obtain⟨ba,bv⟩:=b6 D x;obtain⟨cn,S,_⟩:=ba.ex;exact ba.same ((a3 (m D) bv (Ub.1 S).1 _ S trivial).trans S.symm)
   ·obtain⟨o,u,P,bB,c0,ar⟩:=cf;cases o;have cc:=r.size;have y:∀b,b<g.heap.size->¬M b->A.heap[b]? =g.heap[b]? :=λb f k=>(bB b (Ud f cc) k).trans (r.at_ b f);have aq:∀b,M b->b<w.heap.size:=λb f=>z b (p.rm b f);have a0:Kept w0 A M0 u (λb=>b<A.heap.size):=⟨λb f k=>⟨by have:=j.size;show b<A.heap.size;omega,(y b (j.keep b f k).1 (λh=>(j.ext b h).elim k (λh=>by omega))).trans (j.keep b f k).2⟩,λb f=>(ar b f).elim (j.ext b) (λh=>.inr (by have:=j.size;omega)),λb f=>C.bound _ _ _ P b f,by have:=j.size;omega,al.tape.trans (r.tape.trans j.tape),al.os.trans (r.os.trans j.os),al.output.trans (r.output.trans j.output)⟩;have a4:∀m,m<g.heap.size->¬M m->¬u m:=λm av k h=>(ar m h).elim k (λh=>by omega);refine Xe.go (own:=λb=>b<A.heap.size) ?_ (λb h=>h) b5;replace d:=d.put (d:=50) (by decide) (.bool (feed Go pre (ix bs ah rs V i)).2);refine dD e d Y (.bool (!(feed Go pre (ix bs ah rs V i)).2)) (yK Y (d.of Y)) λd=>?_;refine ak e ?_;cases H:(feed Go pre (ix bs ah rs V i)).2 with
    |false=>
     rw[H] at d;refine dn e Z (d.of Y) ?_;refine aS e ?_;refine bq e [0,1,2] Y ?_;refine cH e d λd=>?_;refine gX e d λd=>?_;refine m0 e d (.int .i64 0) λd=>?_;refine ak e ?_;refine pL e ?_;have G:=gI (P:=T4) Tryz.results54 (d.slot 4 _ Y) (d.slot 5 _ Y);exact je e Y (by simp only[put_defers];exact E) Tryz.func54 G.1 G.2 (cd X H _ u A P a0 (λb h=>h))
    |true=>
     rw[H] at d;refine dn e T7 (d.of Y) ?_;refine ij e ?_;exact bx X H _ u A _ ⟨(((((((d.nil.cons (d.slot 1 _ Y)).cons (d.slot 2 _ Y)).cons (d.slot 4 _ Y)).cons (d.slot 6 _ Y)).cons (d.slot 7 _ Y)).cons (d.slot 16 _ Y)).cons (d.slot 17 _ Y)).cons (d.slot 18 _ Y),by simp only[put_defers];exact E,P,a0,(λb h=>h),by show qb<_;omega,a4 qb ao a5,b1,(y qb ao a5).trans a9,by show wb<_;omega,a4 wb be a6,b2,(y wb be a6).trans ch⟩ (d.slot 9 _ Y) (by show vb<_;omega) ((y vb bd b3).trans L)
end
end Cc
namespace Cc
open Go Go.Conc
open Go.RowKit (Below)
open Ec (aE aH cF dB sH zU sg qv bL Bd kq lB dI aY xQ oV)
section
variable {Post:U->F->Prop}{J:List dy->(Nat->Prop)->F->Prop}{Go:List dy->Bool}{w0 w:F}{M0 M own:Nat->Prop}{lp first n i qb wb vb:Nat}{pre:List dy}{a:V6}{cs:List Ut}{l:List (bL×Int)}{bs:List Bd}{ah:List Int}{rs:List cF}{kb ck eb ce db:Nat}{dO:Option UJ}{cS ni:Nat->Nat}{co:Option UJ}{cb bE aJ:Nat}{ro:Option UJ}{rb bh aN:Nat}{V:Nat->Nat->List aE}{dh:Nat}{sk:Bool}{b:Bd}{c:Ut}
def Nm(h:pG J w0 w M0 M own (gF kb l.length ck eb l.length ce dO bs.length dh co ah.length aJ ro rs.length aN sk) lp first n bs.length bs.length qb wb l.length (.slice dO bs.length dh) (aY l.length (ah++rs.map cF.col)) pre a)(g:Xe (aB T4) T4 Post own (c.finish (.tuple #[.int .i64 (n:Int),.int .i64 0])) cs w):
 Xe (aB T4) T4 Post own ((base 54).at a [.code (iC Xf),.inLoop (iC Xf),.inBlock 0,.code (qT Xf)]) (c::cs) w:=by
 have d:=ir (aB T4) T4 Post;have e:=h.kn;refine aS d ?_;refine bq d [0] Y ?_;refine dD d e Y (.bool T7) (jx Y (e.of Y) (e.of Y) (by simp)) λe=>?_;refine ak d ?_;refine aS d ?_;refine dn d T7 (e.of Y) ?_;refine ud d (k':=[.code (qT Xf)]) Y ?_;refine aS d ?_;refine bq d [0,1,2] Y ?_;refine cH d e λe=>?_;refine gX d e λe=>?_;refine m0 d e (.int .i64 0) λe=>?_;refine ak d ?_;refine pL d ?_;have f:=gI (P:=T4) Tryz.results54 (e.slot 4 _ Y) (e.slot 5 _ Y);exact je d Y (by simp only[put_defers];exact h.df) Tryz.func54 f.1 f.2 g
def Ki(C:Cons (aB T4) T4 Post lp J Go)(q:FQ l bs ah rs V)(hF:∀W,(∀b,b<w0.heap.size->¬M0 b->m7 W w0 b)->w0.heap.size<=W.heap.size->FM W l bs ah rs kb eb dO db cS ni co cb bE ro rb bh)(P:0<bs.length->¬M0 db):
 ∀(r i:Nat),i+r=bs.length->∀(pre:List dy) (own M:Nat->Prop) (w:F) (a:V6) (n:Nat),n<=i->pre.length<=jv bs i->
 pG J w0 w M0 M own (gF kb l.length ck eb l.length ce dO bs.length dh co ah.length aJ ro rs.length aN sk) lp (jv bs i) n i bs.length qb wb l.length (.slice dO bs.length dh) (aY l.length (ah++rs.map cF.col)) pre a->
 (∀own' j w',J (iW sk bs ah rs (aY l.length (ah++rs.map cF.col)) V Go i r pre n).1 j w'->Kept w0 w' M0 j own'->(∀b,own' b->b<w'.heap.size)->Xe (aB T4) T4 Post own' (c.finish (.tuple #[.int .i64 ((iW sk bs ah rs (aY l.length (ah++rs.map cF.col)) V Go i r pre n).2.1:Int),.int .i64 ((iW sk bs ah rs (aY l.length (ah++rs.map cF.col)) V Go i r pre n).2.2:Int)])) cs w')->
 Xe (aB T4) T4 Post own ((base 54).at a [.code (iC Xf),.inLoop (iC Xf),.inBlock 0,.code (qT Xf)]) (c::cs) w:=by
 intro r
 induction r with
 |zero=>
  intro i N pre own M w a n O t d e;have:i=bs.length:=by omega
  subst this;exact Nm d (e own M w d.j d.kept d.bd)
 |succ r H=>
  intro i N pre own M w a n O t d e;have B:i<bs.length:=by omega
  have f:bs[i]? =I bs[i]:=Um B;generalize bs[i]=b at f;have ad:=q.nb;have Z:=Uy (yh bs (i+1)) q.tot;have G:=sQ f;refine Kh C q hF f P d λS T X vb m o s E D ae al v=>?_;cases u:(sk&&tc bs rs i) with
  |true=>
   have g:iW sk bs ah rs (aY l.length (ah++rs.map cF.col)) V Go i (r+1) pre n=iW sk bs ah rs (aY l.length (ah++rs.map cF.col)) V Go (i+1) r pre n:=by simp only[iW,u,if_true]
   rw[g] at e;refine ij (ir (aB T4) T4 Post) ?_;refine Bg q f (by omega) B m o s v λx k=>?_;rw[<-G] at k;exact H (i+1) (by omega) pre S M T x n (by omega) (by omega) k e
  |false=>
   cases h:Le bs (aY l.length (ah++rs.map cF.col)) V i with
   |false=>
    have g:iW sk bs ah rs (aY l.length (ah++rs.map cF.col)) V Go i (r+1) pre n=(pre,n+1,3):=by simp only[iW,u,h,UB,if_false]
    rw[g] at e;exact uP C q hF f Y t (by omega) m o s E D v (λ_ own' w' z A y=>e own' M w' z A y) (λd=>by rw[h] at d;cases d) (λd=>by rw[h] at d;cases d)
   |true=>
    cases p:(feed Go pre (ix bs ah rs V i)).2 with
    |false=>
     have g:iW sk bs ah rs (aY l.length (ah++rs.map cF.col)) V Go i (r+1) pre n=((feed Go pre (ix bs ah rs V i)).1,n+1,0):=by simp only[iW,u,h,p,UB,if_false,if_true]
     rw[g] at e;exact uP C q hF f Y t (by omega) m o s E D v (λd=>by rw[h] at d;cases d) (λ_ _ own' j w' z A y=>e own' j w' z A y) (λ_ d=>by rw[p] at d;cases d)
    |true=>
     have g:iW sk bs ah rs (aY l.length (ah++rs.map cF.col)) V Go i (r+1) pre n=iW sk bs ah rs (aY l.length (ah++rs.map cF.col)) V Go (i+1) r (feed Go pre (ix bs ah rs V i)).1 (n+1):=by simp only[iW,u,h,p,UB,if_false,if_true]
     rw[g] at e;refine uP C q hF f Y t (by omega) m o s E D v (λd=>by rw[h] at d;cases d) (λ_ d=>by rw[p] at d;cases d) (λ_ _ own' j w' U K L Q R=>?_);refine Bg q f (by omega) B K L Q R λx k=>?_;rw[<-G] at k;have aa:=vA Go (ix bs ah rs V i) pre;have ab:(ix bs ah rs V i).length<=b.rows:=by
      unfold ix;rw[uO f];exact pg _ _ _ _ _
     exact H (i+1) (by omega) _ own' j w' x (n+1) (by omega) (by omega) k e
def Qs (J:List dy->(Nat->Prop)->F->Prop)(M0:Nat->Prop)(w0:F)(d:List dy×Nat×Nat)(f:WS)(w':F):Prop:=
 f= .returned (.tuple #[.int .i64 (d.2.1:Int),.int .i64 (d.2.2:Int)])/\∃e,J d.1 e w'/\(∀b,b<w0.heap.size->¬M0 b->w'.heap[b]? =w0.heap[b]?)/\w0.heap.size<=w'.heap.size/\∀b,e b->M0 b\/w0.heap.size<=b
def GA(C:Cons (aB T4) T4 Post lp J Go)(q:FQ l bs ah rs V)(E:J [] M0 w0)(hF:∀W,(∀b,b<w0.heap.size->¬M0 b->m7 W w0 b)->w0.heap.size<=W.heap.size->FM W l bs ah rs kb eb dO db cS ni co cb bE ro rb bh)(am:0<bs.length->¬M0 db):
 mi (aB T4) T4 Post 54 #[qv (.slice (I ⟨kb,0,K⟩) l.length ck) (.slice (I ⟨eb,0,K⟩) l.length ce) (.slice dO bs.length dh) (.slice co ah.length aJ) (.slice ro rs.length aN) sk,.func (.yield lp) #[] #[]] w0 (Qs J M0 w0 (iW sk bs ah rs (aY l.length (ah++rs.map cF.col)) V Go 0 bs.length [] 0)):=by
 intro c cs av a5 ap Q;have e:=ir (aB T4) T4 Post;refine Xe.go (own:=λb=>b<w0.heap.size) ?_ (λb f=>f) ap;rw[enter_at _ Tryz.func54 Y];have d:=Tb (qv (.slice (I ⟨kb,0,K⟩) l.length ck) (.slice (I ⟨eb,0,K⟩) l.length ce) (.slice dO bs.length dh) (.slice co ah.length aJ) (.slice ro rs.length aN) sk) (.func (.yield lp) #[] #[]) 59 (by decide);have Z:tQ JS (λb=>b<w0.heap.size) w0:=λb g=>g.elim Yq (λf=>f);have s:=C.bound _ _ _ E;have al:Kept w0 w0 M0 M0 (λb=>b<w0.heap.size):=⟨λb g _=>⟨g,rfl⟩,λb g=>.inl g,s,T8 _,rfl,rfl,rfl⟩;refine aS e ?_;refine bq e [0,1,2] Y ?_;refine mB e Z (by decide) Y Y (.cells (gF kb l.length ck eb l.length ce dO bs.length dh co ah.length aJ ro rs.length aN sk) 115) trivial (λn=>.pointer (I ⟨n,0,K⟩)) (uE (v:=qv (.slice (I ⟨kb,0,K⟩) l.length ck) (.slice (I ⟨eb,0,K⟩) l.length ce) (.slice dO bs.length dh) (.slice co ah.length aJ) (.slice ro rs.length aN) sk) Y (d.of Y)) λqb H S a6 ar D=>?_;replace d:=d.put (d:=2) (by decide) (.pointer (I ⟨qb,0,K⟩));refine m0 e d (.int .i64 ((0:Nat):Int)) λd=>?_;refine m0 e d (.int .i64 0) λd=>?_;refine ak e ?_;have A:=Gd ar;have t:=al.rel (own':=λb=>b<w0.heap.size\/b=qb) A (λb f=>.inl f);have ab:=C.j8 _ _ _ H E (λb g=>A.at_ b (s b g)) A.size;have T:∀b,(b<w0.heap.size\/b=qb)->b<H.heap.size:=λb g=>by omega
 refine aS e ?_;refine bq e [0,1,2] Y ?_;refine rf e d Y (qv (.slice (I ⟨kb,0,K⟩) l.length ck) (.slice (I ⟨eb,0,K⟩) l.length ce) (.slice dO bs.length dh) (.slice co ah.length aJ) (.slice ro rs.length aN) sk) (fj (cs:=(gF kb l.length ck eb l.length ce dO bs.length dh co ah.length aJ ro rs.length aN sk).toList) Y (d.of Y) WE Y uI (.inr (.inr Y)) (oE D)) λd=>?_;refine C5 (vs:= #[qv (.slice (I ⟨kb,0,K⟩) l.length ck) (.slice (I ⟨eb,0,K⟩) l.length ce) (.slice dO bs.length dh) (.slice co ah.length aJ) (.slice ro rs.length aN) sk]) (R:=λW p x=>∃m,p= .returned (.slice (I ⟨m,0,K⟩) l.length l.length)/\W.heap.size<=m/\x.heap[m]? =I (.cells (xQ (aY l.length (ah++rs.map cF.col))).toArray 4 (0,0))) cV Y Y Y Y (mr (d.of Y)) Tryz.func76 R5 Y (jX Y Y Y).symm (dJ Y (by simp only[put_defers]) (by kernel_rfl)) (λW y B=>?_) λv k W x y B a2 aw R o=>?_
 ·have r:=hF W (t.same y B).1 (t.same y B).2;have z:=q.m;have a4:=q.cn;refine(oV l.length ah rs (I ⟨kb,0,K⟩) ck (.slice (I ⟨eb,0,K⟩) l.length ce) (.slice dO bs.length dh) co cb bE aJ ro rb bh aN sk W q.m (by unfold Uq;omega) q.rn r.ca r.cl r.cc r.nr q.ck q.rk).mono λp x f=>?_;obtain⟨N,m,rfl,O,P⟩:=f;exact⟨N,_,rfl,m,rfl,O,P⟩
 ·obtain⟨wb,p,az,u⟩:=aw;cases p;have ae:=t.rel (own':=grown (λb=>b<w0.heap.size\/b=qb) W.heap.size k.heap.size) o (λb f=>.inl f);have ad:=C.j8 _ _ _ k ab (λb g=>o.at_ b (t.rm b g)) o.size;have G:=(o.at_ qb (.inr Y)).trans D;have U:∀b,grown (λb=>b<w0.heap.size\/b=qb) W.heap.size k.heap.size b->b<k.heap.size:=λb g=>g.elim (λf=>Ud (T b f) o.size) (λf=>f.2);replace u:=R.row.1 u;have a0:wb<k.heap.size:=(Ub.1 u).1;have F:grown (λb=>b<w0.heap.size\/b=qb) W.heap.size k.heap.size qb:=.inl (.inr Y);have ao:grown (λb=>b<w0.heap.size\/b=qb) W.heap.size k.heap.size wb:=.inr ⟨az,a0⟩;replace d:=d.put (d:=13) (by decide) (.slice (I ⟨wb,0,K⟩) l.length l.length);refine gX e d λd=>?_;refine ak e ?_;refine aS e ?_;refine bq e [0] Y ?_;refine m0 e d (.int .i64 ((0:Nat):Int)) λd=>?_;refine ak e ?_;refine aS e ?_;refine aS e ?_;refine bq e [0,1,2,3,4] Y ?_;refine dD e d Y (.pointer (I ⟨qb,0,K⟩)) (dj (off':=0) Y (d.of Y) WE Y Tryz.sizeOf105 Y) λd=>?_;refine dD e d Y (.pointer (I ⟨qb,2,K⟩)) (dj (off':=2) Y (d.of Y) Tryz.underlying105 Y Tryz.sizeOf103 Y) λd=>?_;refine rf e d Y (.slice dO bs.length dh) (bZ Y (d.of Y) Tryz.isAgg103 (.inr F) (kI G Y)) λd=>?_;refine dD e d Y (.int .i64 (bs.length:Int)) (sn Y (d.of Y) Tryz.underlying103) λd=>?_;refine dD e d Y (.int .i64 ((0:Nat):Int)) (cj Y Y) λd=>?_;refine ak e ?_;refine gB e ?_;refine ue e ?_;have X:jv bs 0=0:=by simp[jv]
  refine Ki (w0:=w0) (M0:=M0) C q hF am bs.length 0 (by omega) [] _ M0 k _ 0 (T8 _) (UE _) (by
   rw[X];exact⟨(((((((d.nil.cons (d.slot 1 _ Y)).cons (d.slot 2 _ Y)).cons (d.slot 4 _ Y)).cons (d.slot 6 _ Y)).cons (d.slot 7 _ Y)).cons (d.slot 16 _ Y)).cons (d.slot 17 _ Y)).cons (d.slot 18 _ Y),by simp only[put_defers],ad,ae,U,F,λf=>by have:=s qb f;omega,S,G,ao,λf=>by have:=s wb f;omega,by omega,u⟩) λa7 L a8 aa h a3=>?_
  intro _ a1 j aq;exact Q _ a1 ⟨rfl,L,C.j8 _ _ _ _ aa (λb g=>j.at_ b (h.rm b g)) j.size,λb g z=>(j.at_ b (h.keep b g z).1).trans (h.keep b g z).2,Uy h.size j.size,h.ext⟩ aq ⟨j.tape.trans h.tape,j.os.trans h.os,j.output.trans h.output,Uy h.size j.size⟩ (n8 av _)
end
end Cc
namespace Cc
open Go Go.Conc
open Go.RowKit (Below)
open Ec (aE aH cF dB qv bL Bd aY)
def Gh{P:Uf}{a:V6}{o:Vu}{x:U6}{d:UJ}(f:o.op= .nilCheck x)(g:a.eval x= .pointer (I d)):∀b,(UH a.eval o).run P b= .ok (.value (.pointer (I d))) b/\(UH a.eval o).events P b #[]=#[]:=λb=>by
 unfold UH;simp[f,g]
def JZ{P:Uf}{S own:Nat->Prop}{a:V6}{o:Vu}{w:F}{t:Uh}{x:U6}{f off:Nat}{cs:List U}{d:TypeDesc}{v:U}(k:o.op= .load t x)(p:a.eval x= .pointer (I ⟨f,off,K⟩))(l:P.underlying t=I d)(i:d.isRow=Z)(j:(P.info? t).map (·.size)=I cs.length)(h:S f\/own f)(hc:w.rangeAt f off cs)(m:.agg cs.toArray=v):∀g,RelB (λb=>S b\/own b) w g->(UH a.eval o).run P g= .ok (.value v) g/\∀e∈(UH a.eval o).events P g #[],EvW S own e:=by
 subst m;exact fj k p l i j h hc
def ew (fn:WC):Array Vu:=match fn.body with
 |some (.region _ a _)=>a
 |_=> #[]
def FO (cu xb lp:Nat)(q:U):List (Nat×U):=[(4,.pointer (I ⟨cu,0,K⟩)),(5,.pointer (I ⟨cu,0,K⟩)),(6,.pointer (I ⟨cu,0,K⟩)),(7,.pointer (I ⟨cu,0,K⟩)),(8,.pointer (I ⟨cu,0,K⟩)),(9,q),(10,.func (.yield lp) #[] #[])]
def Jj (cu:Nat)(n e:Nat):List (Nat×U):=[(11,.tuple #[.int .i64 (n:Int),.int .i64 (e:Int)]),(3,.tuple #[.int .i64 (n:Int),.int .i64 (e:Int)]),(12,.int .i64 (n:Int)),(13,.int .i64 (e:Int)),(14,.pointer (I ⟨cu,0,K⟩)),(15,.pointer (I ⟨cu,6,K⟩))]
def OI (cu:Nat):List (Nat×U):=[(16,.pointer (I ⟨cu,0,K⟩)),(17,.pointer (I ⟨cu,7,K⟩))]
def LS:List Nat:=[4,5,6,7,8,9,10]
def DD:gE (ew Wm) (λi=>decide (i<7)) 7 18 LS=Z:=by kernel_rfl
def DE:gE (ew Wm) (λi=>decide (i<13)) 13 18 ([11,3,12,13,14,15]++LS)=Z:=by kernel_rfl
def DF:gE (ew Wm) (λi=>decide (i<16)) 16 18 ([16,17]++([11,3,12,13,14,15]++LS))=Z:=by kernel_rfl
def LU:((UK (ew Wm).size).all λi=> !(λi=>decide (i<7)) i||match jf (ew Wm) i with|some d=> !([11,3,12,13,14,15]:List Nat).contains d|none=>Z)=Z:=by kernel_rfl
def LV:((UK (ew Wm).size).all λi=> !(λi=>decide (i<13)) i||match jf (ew Wm) i with|some d=> !([16,17]:List Nat).contains d|none=>Z)=Z:=by kernel_rfl
def Jl:((UK (ew Wm).size).all λi=> !(λi=>decide (2<=i/\i<=7)) i||i==7||(under (ew Wm) 6 (match (ew Wm)[7]? with
 |some o=>(o.after.toList.filter λe=>Vn .any e).map (·.on)
 |none=>[])).contains i)=Z:=by kernel_rfl
def Jm:((UK (ew Wm).size).all λi=> !(λi=>decide (i<=13/\i≠1/\i≠10)) i||i==13||(under (ew Wm) 2 (match (ew Wm)[13]? with
 |some o=>(o.after.toList.filter λe=>Vn .any e).map (·.on)
 |none=>[])).contains i)=Z:=by kernel_rfl
def Jn:((UK (ew Wm).size).all λi=> !(λi=>decide (i<=16)) i||i==16||(under (ew Wm) 2 (match (ew Wm)[16]? with
 |some o=>(o.after.toList.filter λe=>Vn .any e).map (·.on)
 |none=>[])).contains i)=Z:=by kernel_rfl
def LW:yA (aB T4) (.inRegion (ew Wm) [])=Z:=by kernel_rfl
def Q5{a:V6}{l:List Nat}(b:a.defers=[]):eN (aB T4) ((base 53).at a [.inRegion (ew Wm) l]) []:=
 dJ Y b (by rw[List.all_cons,List.all_nil,Bool.and_true];exact LW)
def R2:(Xf.name == "runtime.NumGoroutine")=T7:=by kernel_rfl
def Ms:(T4.info? 3).map (·.size)=I 1:=by kernel_rfl
def F1:(T4.info? 27).map (·.size)=I 1:=by kernel_rfl
def CA{P:Uf}{fn:WC}{a:V6}(b:fn.results=#[]):(∀w,(UX fn a.tmps).run P w= .ok (.tuple #[]) w)/\∀w,(UX fn a.tmps).events P w #[]=#[]:=by
 constructor<;>intro w<;>simp[UX,b]
def jB (q:Array U)(n e:Nat):Array U:=q++#[.int .i64 (n:Int),.int .i64 (e:Int)]
section
variable {Post:U->F->Prop}{own:Nat->Prop}{w:F}{cu xb lp n e:Nat}{a0:V6}{cs:List Ut}{q:Array U}{qa:U}{c:Ut}{n0 e0:Nat}
def LX(m:Knows a0 18 [(0,.func (.yield lp) #[] #[]),(1,.pointer (I ⟨xb,0,K⟩))])(E:a0.defers=[])(F:tQ JS own w)(H:own xb)(u:own cu)(R:xb≠cu)(M:w.heap[xb]? =I (.cells #[.pointer (I ⟨cu,0,K⟩)] 74 (0,0)))(v:q.size=6)(hc:w.heap[cu]? =I (.cells (jB q n e0) 119 (0,0)))
 (k t:Nat) (f:Array Bool) (b:V6) (l:cI (ew Wm) (λi=>decide (i<16)) a0 (fill a0 (OI cu++(Jj cu n e++FO cu xb lp qa))) f b) (p:∀i,(λi=>decide (i<=13/\i≠1/\i≠10)) i=Z->f.getD i T7=Z) (s:E5 f<=k)
 (G:∀w',zW JS own cu (.cells (jB q n e) 119 (0,0)) w w'->Xe (aB T4) T4 Post own (c.finish (.tuple #[])) cs w'):
 Xe (aB T4) T4 Post own ((base 53).at b [.inRegion (ew Wm) (U9 .any (ew Wm) k t f [])]) (c::cs) w:=by
 have h:=ir (aB T4) T4 Post;refine kM (Dn:=λi=>decide (i<=13/\i≠1/\i≠10)) (u:=16) h (by decide) m DF ?_ ?_ ?_ k t f b l p s
 ·intro a i g J p _ d;have O:i<16:=by simpa using J
  have P:¬(i<=13/\i≠1/\i≠10):=by simpa using p
  have:i=1\/i=10\/i=14\/i=15:=by omega
  rcases this with rfl|rfl|rfl|rfl
  ·cases(show I _=I g from d);exact⟨_,rfl,.inl ⟨rfl,bZ Y (a.of Y) Tryz.isAgg74 (.inr H) (kI M Y)⟩⟩
  ·cases(show I _=I g from d);exact⟨_,rfl,.inl ⟨rfl,cz (kG Y (a.of Y) Y)⟩⟩
  ·cases(show I _=I g from d);exact⟨_,rfl,.inl ⟨rfl,cz (Gh Y (a.of Y))⟩⟩
  ·cases(show I _=I g from d);exact⟨_,rfl,.inl ⟨rfl,cz (dj (off':=7) Y (a.of Y) Tryz.underlying119 Y Tryz.sizeOf27 Y)⟩⟩
 ·intro g d k t f b l x s Q _;have a:=m.fill (OI cu++(Jj cu n e++FO cu xb lp qa)) Y;have o:=gG (Dn:=λi=>decide (i<=16)) l x Jn (λj r=>by
   have:j<=16:=by simpa using r
   show j<17;omega)
  cases(show I _=I g from d);obtain⟨C,D⟩:=n9 l x rfl m.size DF (λj r=>o j (by
   have:j<17:=r;simp;omega))
  rw[D];subst C;refine r9 h F (n:=cu) (by decide) d Y u (.cells ((jB q n e0).toList.take 7++(VY .i64 (e:Int)).cells.toList++(jB q n e0).toList.drop (7+(VY .i64 (e:Int)).cells.size)).toArray 119) trivial (kZ (n:=cu) (off:=7) (v:=.int .i64 (e:Int)) Y (a.of Y) (a.of Y) F1 (λS A=>by simp[WH] at A;rw[A];rfl) (Or.inr u) hc (by
   show 7+1<=(jB q n e0).size;simp[jB,v])) λN z=>?_
  refine ak h ?_;refine LD h ?_;have y:=CA (P:=T4) (fn:=Wm) (a:=(fill a0 (OI cu++(Jj cu n e++FO cu xb lp qa))).put (ew Wm)[16].dst Vk) Tryz.results53;refine je h Y (by rw[put_defers,ez];exact E) Tryz.func53 y.1 y.2 (G N ?_);have B:((jB q n e0).toList.take 7++(VY .i64 (e:Int)).cells.toList++(jB q n e0).toList.drop (7+(VY .i64 (e:Int)).cells.size)).toArray=jB q n e:=by
   apply Array.toList_inj.1;have L:q.toList.length=6:=by simpa using v
   simp[jB,WH,List.take_append,List.drop_append,L];rw[UO (by omega),List.drop_eq_nil_of_le (by omega)]
  rw[B] at z;exact z
 ·intro o;exact absurd (o 16 (by decide)) (by decide)
def FP(m:Knows a0 18 [(0,.func (.yield lp) #[] #[]),(1,.pointer (I ⟨xb,0,K⟩))])(r:a0.defers=[])(B:tQ JS own w)(o:own xb)(v:own cu)(F:xb≠cu)(z:w.heap[xb]? =I (.cells #[.pointer (I ⟨cu,0,K⟩)] 74 (0,0)))(x:q.size=6)(hc:w.heap[cu]? =I (.cells (jB q n0 e0) 119 (0,0)))
 (j t:Nat) (h:Array Bool) (b:V6) (k:cI (ew Wm) (λi=>decide (i<13)) a0 (fill a0 (Jj cu n e++FO cu xb lp qa)) h b) (s:∀i,(λi=>decide (2<=i/\i<=7)) i=Z->h.getD i T7=Z) (D:E5 h<=j)
 (O:∀G w',zW JS own cu (.cells (jB q n e0) 119 (0,0)) w G->zW JS own cu (.cells (jB q n e) 119 (0,0)) G w'->Xe (aB T4) T4 Post own (c.finish (.tuple #[])) cs w'):
 Xe (aB T4) T4 Post own ((base 53).at b [.inRegion (ew Wm) (U9 .any (ew Wm) j t h [])]) (c::cs) w:=by
 have A:=ir (aB T4) T4 Post;refine kM (Dn:=λi=>decide (2<=i/\i<=7)) (u:=13) A (by decide) m DE ?_ ?_ ?_ j t h b k s D
 ·intro d i f Q s _ a;have V:i<13:=by simpa using Q
  have W:¬(2<=i/\i<=7):=by simpa using s
  have:i=0\/i=1\/i=8\/i=9\/i=10\/i=11\/i=12:=by omega
  rcases this with rfl|rfl|rfl|rfl|rfl|rfl|rfl
  ·cases(show I _=I f from a);exact⟨_,rfl,.inl ⟨rfl,bZ Y (d.of Y) Tryz.isAgg74 (.inr o) (kI z Y)⟩⟩
  ·cases(show I _=I f from a);exact⟨_,rfl,.inl ⟨rfl,bZ Y (d.of Y) Tryz.isAgg74 (.inr o) (kI z Y)⟩⟩
  ·cases(show I _=I f from a);exact⟨_,rfl,.inl ⟨rfl,cz (cj Y (d.of Y))⟩⟩
  ·cases(show I _=I f from a);exact⟨_,rfl,.inl ⟨rfl,cz (kG Y (d.of Y) Y)⟩⟩
  ·cases(show I _=I f from a);exact⟨_,rfl,.inl ⟨rfl,cz (kG Y (d.of Y) Y)⟩⟩
  ·cases(show I _=I f from a);exact⟨_,rfl,.inl ⟨rfl,cz (Gh Y (d.of Y))⟩⟩
  ·cases(show I _=I f from a);exact⟨_,rfl,.inl ⟨rfl,cz (dj (off':=6) Y (d.of Y) Tryz.underlying119 Y X5 Y)⟩⟩
 ·intro f a j t h b k y D C _;have d:=m.fill (Jj cu n e++FO cu xb lp qa) Y;have p:=gG (Dn:=λi=>decide (i<=13/\i≠1/\i≠10)) k y Jm (λg u=>by
   have:g<=13/\g≠1/\g≠10:=by simpa using u
   show g<17;omega)
  cases(show I _=I f from a);have J:b.eval (.tmp 15)= .pointer (I ⟨cu,6,K⟩):=(C 15 (by decide)).trans (d.slot 15 _ Y);have H:b.eval (.tmp 12)= .int .i64 (n:Int):=(C 12 (by decide)).trans (d.slot 12 _ Y);refine r9 A B (n:=cu) (by decide) a Y v (.cells ((jB q n0 e0).toList.take 6++(VY .i64 (n:Int)).cells.toList++(jB q n0 e0).toList.drop (6+(VY .i64 (n:Int)).cells.size)).toArray 119) trivial (kZ (n:=cu) (off:=6) (v:=.int .i64 (n:Int)) Y J H Ms (λX E=>by simp[WH] at E;rw[E];rfl) (Or.inr v) hc (by
   show 6+1<=(jB q n0 e0).size;simp[jB,x])) λT l=>?_
  have L:((jB q n0 e0).toList.take 6++(VY .i64 (n:Int)).cells.toList++(jB q n0 e0).toList.drop (6+(VY .i64 (n:Int)).cells.size)).toArray=jB q n e0:=by
   apply Array.toList_inj.1;have R:q.toList.length=6:=by simpa using x
   simp[jB,WH,List.take_append,List.drop_append,R]
  rw[L] at l;have M:=k.Ie (l2:=OI cu) (Lb:=λi=>decide (i<16)) (n:=18) (v:=Vk) y a m.size DE Y (λg u=>by
   have:g<13:=by simpa using u
   simp;omega) Y LV (λU r=>by cases r)
  refine LX (n:=n) (e:=e) (e0:=e0) (qa:=qa) m r (B.set l) o v F ((l.at_ xb (.inr o) F).trans z) x l.set j t _ _ M p ?_ λw' S=>O T w' l S;obtain⟨_,_,N,P,_⟩:=mem_ready y;have:=qY (by rw[k.size];exact N) P;omega
 ·intro p;exact absurd (p 13 (by decide)) (by decide)
end
def SZ (J:List dy->(Nat->Prop)->F->Prop)(M0:Nat->Prop)(w0:F)(cu:Nat)(q:Array U)(b:List dy×Nat×Nat)(f:WS)(w':F):Prop:=
 f= .returned (.tuple #[])/\(∃c,J b.1 c w'/\∀a,c a->M0 a\/w0.heap.size<=a)/\(∀a,a<w0.heap.size->¬M0 a->a≠cu->w'.heap[a]? =w0.heap[a]?)/\w'.heap[cu]? =I (.cells (jB q b.2.1 b.2.2) 119 (0,0))/\w0.heap.size<=w'.heap.size
section
variable {Post:U->F->Prop}{J:List dy->(Nat->Prop)->F->Prop}{Go:List dy->Bool}{w0:F}{M0:Nat->Prop}{lp cu xb:Nat}{l:List (bL×Int)}{bs:List Bd}{ah:List Int}{rs:List cF}{kb ck eb ce db:Nat}{dO:Option UJ}{cS ni:Nat->Nat}{co:Option UJ}{cb bE aJ:Nat}{ro:Option UJ}{rb bh aN:Nat}{V:Nat->Nat->List aE}{dh n0 e0:Nat}{sk:Bool}
def Jk(C:Cons (aB T4) T4 Post lp J Go)(q:FQ l bs ah rs V)(i:J [] M0 w0)(hF:∀W,(∀b,b<w0.heap.size->¬M0 b->b≠cu->m7 W w0 b)->w0.heap.size<=W.heap.size->FM W l bs ah rs kb eb dO db cS ni co cb bE ro rb bh)(a5:0<bs.length->¬M0 db)(Q:¬M0 cu)(a6:¬M0 xb)(bd:xb≠cu)
 (w:w0.heap[xb]? =I (.cells #[.pointer (I ⟨cu,0,K⟩)] 74 (0,0))) (hc:w0.heap[cu]? =I (.cells (jB (gF kb l.length ck eb l.length ce dO bs.length dh co ah.length aJ ro rs.length aN sk) n0 e0) 119 (0,0))):
 mi (aB T4) T4 Post 53 #[.func (.yield lp) #[] #[],.pointer (I ⟨xb,0,K⟩)] w0 (SZ J M0 w0 cu (gF kb l.length ck eb l.length ce dO bs.length dh co ah.length aJ ro rs.length aN sk) (iW sk bs ah rs (aY l.length (ah++rs.map cF.col)) V Go 0 bs.length [] 0)):=by
 intro aa ab bb bA F ae;have N:=ir (aB T4) T4 Post;have S:cu<w0.heap.size:=(Ub.1 hc).1;have A:xb<w0.heap.size:=(Ub.1 w).1;have ao:=C.bound _ _ _ i;refine Xe.go (own:=λb=>b<w0.heap.size) ?_ (λb e=>e) F;rw[enter_at _ Tryz.func53 Y];have s:=Tb (.func (.yield lp) #[] #[]) (.pointer (I ⟨xb,0,K⟩)) 18 (by decide);have E:(⟨#[Value.func (.yield lp) #[] #[],.pointer (I ⟨xb,0,K⟩)]++U3 (18-2) Vk,[]⟩:V6).defers=[]:=rfl;have ar:w0.rangeAt cu 0 (gF kb l.length ck eb l.length ce dO bs.length dh co ah.length aJ ro rs.length aN sk).toList:=λj v i=>by
  refine oE hc j v ?_;have a4:j<6:=(UA.1 i).1;simp only[jB,Array.toList_append];rw[Vw (by simpa [gF] using a4)];exact i
 show Xe _ _ Post _ ((base 53).at ⟨#[Value.func (.yield lp) #[] #[],.pointer (I ⟨xb,0,K⟩)]++U3 (18-2) Vk,[]⟩ [.code (.region 0 (ew Wm) Z)]) (aa::ab) w0;generalize (⟨#[Value.func (.yield lp) #[] #[],.pointer (I ⟨xb,0,K⟩)]++U3 (18-2) Vk,[]⟩:V6)=bj at s E;generalize R:qv (.slice (I ⟨kb,0,K⟩) l.length ck) (.slice (I ⟨eb,0,K⟩) l.length ce) (.slice dO bs.length dh) (.slice co ah.length aJ) (.slice ro rs.length aN) sk=o;have a9:Value.agg (gF kb l.length ck eb l.length ce dO bs.length dh co ah.length aJ ro rs.length aN sk).toList.toArray=o:=by rw[<-R];rfl
 refine qC (Ph:=λc=>decide (c<7)) (l:=FO cu xb lp o) N q7 ?_;refine kM (u:=7) N (by decide) s DD ?_ ?_ ?_
 ·intro h c g F _ _ d;have bo:c<7:=by simpa using F
  have:c=0\/c=1\/c=2\/c=3\/c=4\/c=5\/c=6:=by omega
  rcases this with rfl|rfl|rfl|rfl|rfl|rfl|rfl
  ·cases(show I _=I g from d);exact⟨_,rfl,.inl ⟨rfl,bZ Y (h.of Y) Tryz.isAgg74 (.inr A) (kI w Y)⟩⟩
  ·cases(show I _=I g from d);exact⟨_,rfl,.inl ⟨rfl,bZ Y (h.of Y) Tryz.isAgg74 (.inr A) (kI w Y)⟩⟩
  ·cases(show I _=I g from d);exact⟨_,rfl,.inl ⟨rfl,bZ Y (h.of Y) Tryz.isAgg74 (.inr A) (kI w Y)⟩⟩
  ·cases(show I _=I g from d);exact⟨_,rfl,.inl ⟨rfl,cz (Gh Y (h.of Y))⟩⟩
  ·cases(show I _=I g from d);exact⟨_,rfl,.inl ⟨rfl,cz (dj (off':=0) Y (h.of Y) Tryz.underlying119 Y Tryz.sizeOf115 Y)⟩⟩
  ·cases(show I _=I g from d);exact⟨_,rfl,.inl ⟨rfl,JZ (cs:=(gF kb l.length ck eb l.length ce dO bs.length dh co ah.length aJ ro rs.length aN sk).toList) Y (h.of Y) WE Y uI (.inr S) ar a9⟩⟩
  ·cases(show I _=I g from d);exact⟨_,rfl,.inl ⟨rfl,cz (cj Y (h.of Y))⟩⟩
 ·intro g d ad be b0 b y G bx P _;have h:=s.fill (FO cu xb lp o) Y;have aw:=gG (Dn:=λc=>decide (2<=c/\c<=7)) y G Jl (λj i=>by
   have:2<=j/\j<=7:=by simpa using i
   show j<17;omega)
  have ap:b.defers=[]:=by rw[y.R7,ez];exact E
  cases(show I _=I g from d);have X:b.eval (.tmp 9)=o:=(P 9 (by decide)).trans (h.slot 9 _ Y);have U:b.eval (.tmp 10)= .func (.yield lp) #[] #[]:=(P 10 (by decide)).trans (h.slot 10 _ Y);refine sD (R:=λr=>Qs J M0 r (iW sk bs ah rs (aY l.length (ah++rs.map cF.col)) V Go 0 bs.length [] 0)) (vs:= #[o,.func (.yield lp) #[] #[]]) Y d Y Y (xJ X U) Tryz.func54 R2 Y (Q5 ap) (λr f=>?_) (λr v B f bc H a7=>?_) (λr bl bi ⟨k,_⟩=>by cases k) (λr bi ⟨k,_⟩=>by cases k)
  ·have a1:=C.j8 _ _ _ r i (λb a=>f.at_ b (ao b a)) f.size;rw[<-R];exact GA C q a1 (λW am ba=>hF W (λb a t _ g d al=>am b (Ud a f.size) t g ((f.at_ b a).trans d) al) (Uy f.size ba)) a5
  ·obtain⟨k,L,M,a2,bB,O⟩:=bc;cases k;generalize iW sk bs ah rs (aY l.length (ah++rs.map cF.col)) V Go 0 bs.length [] 0=p at*;have b1:=f.size;have D:∀b,b<w0.heap.size->¬M0 b->B.heap[b]? =w0.heap[b]? :=λb a t=>(a2 b (by omega) t).trans (f.at_ b a);have az:=y.Ie (l2:=Jj cu p.2.1 p.2.2) (Lb:=λc=>decide (c<13)) (n:=18) (v:=.tuple #[.int .i64 (p.2.1:Int),.int .i64 (p.2.2:Int)]) G d s.size DD Y (λj i=>by
    have:j<7:=by simpa using i
    simp;omega) Y LU (λbm av=>by cases av;rfl)
   have aq:¬L cu:=λe=>(O cu e).elim Q (λe=>by omega);refine Xe.go (own:=λb=>b<B.heap.size) ?_ (λb e=>e) a7;refine FP (n:=p.2.1) (e:=p.2.2) (n0:=n0) (e0:=e0) (qa:=o) s E (λb a=>a.elim Yq (λe=>e)) (by show xb<_;omega) (by show cu<_;omega) bd ((D xb A a6).trans w) Y ((D cu S Q).trans hc) ad be _ _ az aw ?_ λb2 b3 u n=>?_
   ·obtain⟨_,_,a0,a3,_⟩:=mem_ready G;have:=qY (by rw[y.size];exact a0) a3;omega
   ·intro bv T m a8;have br:=u.size;have bt:=n.size;have bu:=m.size;have x:∀b,b<B.heap.size->b≠cu->T.heap[b]? =B.heap[b]? :=λb a z=>(m.at_ b a).trans ((n.at_ b (.inr a) z).trans (u.at_ b (.inr a) z));refine ae _ T ⟨rfl,⟨L,C.j8 _ _ _ _ M (λb a=>x b (C.bound _ _ _ M b a) (λk=>aq (k▸a))) (by omega),λb a=>(O b a).imp (λe=>e) (λe=>by omega)⟩,λb a t z=>(x b (by omega) z).trans (D b a t),(m.at_ cu (by show cu<_;omega)).trans n.set,by omega⟩ a8 ⟨?_,?_,?_,by omega⟩ (n8 bb _)
    ·rw[m.tape,n.tape,u.tape,H.tape,f.tape]
    ·rw[m.os,n.os,u.os,H.os,f.os]
    ·rw[m.output,n.output,u.output,H.output,f.output]
 ·intro x;exact absurd (x 16 (by decide)) (by decide)
end
end Cc
namespace Cc
open Go Go.Conc
open Ec (aE aH)
section
variable {P:Uf}{ops:Array Vu}{Q:Exit->V6->F->Prop}{i:Nat}{rest:List Nat}{o:Vu}{a:V6}{w w':F}{v:U}
def xz{rest:List Vu}(c:UF o (Vj ops a.tmps)=Z)(b:(UH a.eval o).run P w= .ok (.value v) w')(h:wpList P ops Q rest (a.put o.dst v) w'):wpList P ops Q (o::rest) a w:=by
 simp only[wpList,c,if_true]
 left
 unfold Oper.wp;rw[b];exact h
def Oc{rest:List Vu}(c:UF o (Vj ops a.tmps)=Z)(b:(UH a.eval o).run P w= .ok .skip w')(h:wpList P ops Q rest (a.put o.dst Vk) w'):wpList P ops Q (o::rest) a w:=by
 simp only[wpList,c,if_true]
 left
 unfold Oper.wp;rw[b];exact h
def wz(h:wpList P ops Q ops.toList a w):wpOps P ops Q (UK ops.size) a w:=by
 rw[List.range_eq_range',<-Array.length_toList,wpOps_eq_wpList ops.toList 0 (by simp)];exact h
def EA{t e:Uh}{x:U6}{b:TypeInfo}{z:U}(j:o.op= .buildSlice t 1 #[(0,x)])(n:a.eval x=v)(m:v.cells=#[v])(l:P.underlying t=I (.slice e))(h:P.info? e=I b)(p:b.zero=I z)(r:z.cells.size=1)(c:b.size=1):(UH a.eval o).run P w= .ok (.value (.slice (I ⟨w.heap.size,0,K⟩) 1 1)) (w.alloc (.cells #[v] e)):=by
 have g:X7 (λf=>I (f*b.size,b.size)) ((Yp (1*b.size)).map (z.cells[· % z.cells.size]!)) #[(0,v)].toList=I #[v]:=by
  rw[c];simp[X7,m,Yp,Array.zipIdx];apply Array.ext
  ·simp
  ·intro f q d;simp at d;subst d;simp
 have k:=run_buildSlice (P:=P) w t e 1 #[(0,v)] #[v] b z l h p (by rw[c];decide) (by rw[c];decide) g;unfold UH;simp[j,n,k]
end
structure lM(l D rb:Nat)(r:Loop)(pre:List dy)(M:Nat->Prop)(W:F):Prop where
 st:r.state= .ready
 pn:r.pending=K
 hl:W.heap[l]? =I (.loop r)
 hD:W.heap[D]? =I (.deferred (I []))
 ex:∃(rv:U) (vs:List U),W.heap[rb]? =I (.cells #[rv] 26 (0,0))/\W.ownsRow 0 43 1 rv pre.length vs/\(∀(i:Nat) (x:dy),pre[i]? =I x->∃v,vs[i]? =I v/\v.oneCell'=Z/\W.ownsRow 0 59 3 v x.2.length (aH x.2))/\(∀(i j:Nat) v u g,vs[i]? =I v->vs[j]? =I u->v.ownBlock=I g->u.ownBlock=I g->i=j)/\∀b,M b↔b=l\/b=D\/b=rb\/I b=rv.ownBlock\/∃v∈vs,I b=v.ownBlock
def K7:∃i,(aB T4).info? 43=I i/\i.zero=I aO/\i.size=1/\i.bytes=24:=⟨Tryz.t43,by kernel_rfl,rfl,rfl,rfl⟩
def GB:((aB T4).info? 26).map (·.size)=I 1:=by kernel_rfl
def ei (fn:WC):Array Vu:=match fn.body with
 |some (.seq _ (.seq _ (.seq _ (.seq _ (.seq (.seq _ (.block _ (.rangeFunc _ _ _ (.block _ (.region _ ops _))))) _)))))=>ops
 |_=> #[]
def qM{v:U}{W:F}{base:Nat}{e:Uh}{b n:Nat}{c:List U}(h:W.ownsRow base e b v n c):v.cells=#[v]/\v.oneCell'=Z:=by
 rcases h.2 with⟨rfl,_⟩|⟨g,d,f,rfl,_⟩
 ·exact⟨rfl,rfl⟩
 ·exact⟨rfl,rfl⟩
def Nw{W:F}{a:V6}{rb n:Nat}{e v:U}{vs:List U}{Q:Exit->V6->F->Prop}(d:Knows a 40 [(14,v),(12,.pointer (I ⟨rb,0,K⟩))])(s:W.heap[rb]? =I (.cells #[e] 26 (0,0)))(G:W.ownsRow 0 43 1 e n vs)(ap:v.cells=#[v])(aq:v.oneCell'=Z)(az:n<=2000)
 (T:∀a' W' f,W'.heap[rb]? =I (.cells #[f] 26 (0,0))->W'.ownsRow 0 43 1 f (n+1) (vs++[v])->(∀b,b<W.heap.size->b≠rb->I b≠e.ownBlock->W'.heap[b]? =W.heap[b]?)->W.heap.size<=W'.heap.size->(∀b,I b=f.ownBlock->I b=e.ownBlock\/W.heap.size<=b)->Q .normal a' W'):wpOps (aB T4) (ei VT) Q (UK (ei VT).size) a W:=by
 obtain⟨ar,E,M,J,V⟩:=K7;have aw:rb<W.heap.size:=(Ub.1 s).1;refine wz ?_;refine xz Y ((bZ (S:=JS) (own:=λ_=>True) Y (d.of Y) (λw=>by simp) (.inr trivial) (kI s Y) W (RelB.refl _ _)).1) ?_;replace d:=d.put (d:=30) (by decide) e;refine xz Y ((cj Y (d.of Y) W).1) ?_;replace d:=d.put (d:=31) (by decide) v;refine xz Y (EA Y (d.of Y) ap ay.underlying26 E M Y J) ?_;replace d:=d.put (d:=32) (by decide) (.slice (I ⟨W.heap.size,0,K⟩) 1 1);have z:∀c,c<W.heap.size->(W.alloc (.cells #[v] 43)).heap[c]? =W.heap[c]? :=λc h=>by
  show(W.heap.push _)[c]? =_;rw[VB,if_neg (by omega)]
 have ae:(W.alloc (.cells #[v] 43)).ownsRow 0 43 1 e n vs:=jW G (T8 _) λc _ _ h=>z c h;have aa:∀A q,[v][A]? =I q->(W.alloc (.cells #[v] 43)).cell? (Yr ⟨W.heap.size,0,K⟩ A)=I q:=λA q X=>by
  rw[Xc];unfold Us;have:(W.alloc (.cells #[v] 43)).heap[W.heap.size]? =I (.cells #[v] 43 (0,0)):=by
   show(W.heap.push _)[W.heap.size]? =_;simp
  simp only[this,UT];simpa using X
 have L:(W.alloc (.cells #[v] 43)).heap.size=W.heap.size+1:=by simp
 refine Pk.aT (W.alloc (.cells #[v] 43)) Y _ _ 26 Y 0 43 ar aO 1 24 ay.underlying26 E M J V Y (by decide) e n vs (d.of Y) ae ⟨W.heap.size,0,K⟩ 1 1 [v] (d.of Y) (by decide) Y aa (λq m=>by simp at m;rw[m];exact aq) (by unfold Uq;omega) (by omega) (UE _) λf l y u=>?_;replace d:=d.put (d:=33) (by decide) f;have al:∀c,e.ownBlock=I c->c≠rb:=λc h k=>by
  rcases G.2 with⟨rfl,_⟩|⟨S,N,O,rfl,_,p,_⟩
  ·cases h
  ·cases h;subst k;rw[s] at p;cases p
 have D:∀b,b<W.heap.size->I b≠e.ownBlock->l.heap[b]? =W.heap[b]? :=λb j x=>by
  rcases u with⟨g,_⟩|⟨_,g⟩
  ·exact(g.block b (by omega) (by simp)).trans (z b j)
  ·exact(g.block b (by omega) x).trans (z b j)
 have a0:W.heap.size+1<=l.heap.size:=by
  rcases u with⟨g,_⟩|⟨_,g⟩
  ·rw[<-L];exact g.size
  ·rw[<-L];exact g.size
 have H:=(D rb aw (λk=>al rb k.symm Y)).trans s;obtain⟨r,ad⟩:=qM y;obtain⟨B,ao,t,_⟩:=kZ (P:=aB T4) (S:=JS) (own:=λ_=>True) (a:=((((a.put (I 30) e).put (I 31) v).put (I 32) (.slice (I ⟨W.heap.size,0,K⟩) 1 1)).put (I 33) f)) (o:=(ei VT)[4]) (w:=l) (n:=rb) (off:=0) (v:=f) rfl (d.of rfl) (d.of rfl) (by rw[r];exact GB) (λq m=>by rw[r] at m;simp at m;rw[m];exact ad) (Or.inr trivial) H (by rw[r];exact T8 1) l (RelB.refl _ _);refine Oc Y ao ?_;have R:((#[e]:Array U).toList.take 0++f.cells.toList++(#[e]:Array U).toList.drop (0+f.cells.size)).toArray=#[f]:=by rw[r];rfl
 rw[R] at t;have av:rb<l.heap.size:=by omega
 have C:∀b:Nat,b≠rb->B.heap[b]? =l.heap[b]? :=λb j=>by rw[t.heap,UP,if_neg (λk=>j k.symm)]
 have am:∀c,f.ownBlock=I c->c≠rb:=λc h k=>by
  rcases y.2 with⟨rfl,_⟩|⟨S,N,O,rfl,_,p,_⟩
  ·cases h
  ·cases h;subst k;rw[H] at p;cases p
 refine T _ B f (by rw[t.heap,UP,if_pos Y,if_pos av]) (jW y (T8 _) λc h _ _=>C c (am c h)) (λb j x ab=>(C b x).trans (D b j ab)) (by rw[t.heap];simp;omega) λb j=>?_;rcases u with⟨_,g⟩|⟨g,_⟩
 ·exact .inr (by have:=(td g j.symm).1;omega)
 ·exact .inl (by rw[<-g];exact j)
def fS (fn:WC):Array Vu:=match fn.body with
 |some (.seq _ (.seq _ (.seq _ (.seq _ (.seq (.seq _ (.block _ (.rangeFunc _ _ (.region _ a _) _))) _)))))=>a
 |_=> #[]
structure qB(r:Loop)(rb:Nat):Prop where
 ps:r.params=#[28,29]
 TJ:r.assign= .region 6 (fS VT) T7
 bd:r.body= .block 1 (.region 7 (ei VT) T7)
 sz:r.tmps.size=40
 kn:r.tmps.getD 12 Vk= .pointer (I ⟨rb,0,K⟩)
def PV:((ei VT).toList.all λo=> !B5 o.op)=Z:=by kernel_rfl
def Nv:((fS VT).toList.all λo=> !B5 o.op)=Z:=by kernel_rfl
def xH (l D rb:Nat)(r:Loop)(pre:List dy)(b:Nat->Prop)(W:F)(nm:Nat)(d:List aE)(v:U)(W':F):Prop:=
 ∃c,lM l D rb r (pre++[(nm,d)]) c W'/\(∀a,a<W.heap.size->¬b a->I a≠v.ownBlock->W'.heap[a]? =W.heap[a]?)/\∀a,c a->b a\/I a=v.ownBlock\/W.heap.size<=a
def lM.sh{l D rb:Nat}{r:Loop}{pre:List dy}{a:Nat->Prop}{W:F}(h:lM l D rb r pre a W){W':F}(e:W'.heap=W.heap):lM l D rb r pre a W':=by
 obtain⟨g,i,j,k,u,w,m,n,o,p,q⟩:=h;refine⟨g,i,by rw[e];exact j,by rw[e];exact k,u,w,by rw[e];exact m,jW n (T8 _) (λf _ _ _=>by rw[e]),λt x s=>?_,p,q⟩;obtain⟨v,b,c,d⟩:=o t x s;exact⟨v,b,c,jW d (T8 _) (λf _ _ _=>by rw[e])⟩
def lM.keeps{l D rb:Nat}{r:Loop}{pre:List dy}{e:Nat->Prop}{W W':F}(h:lM l D rb r pre e W)(d:∀b,e b->W'.heap[b]? =W.heap[b]?):lM l D rb r pre e W':=by
 obtain⟨k,m,n,o,x,y,p,q,s,t,a⟩:=h;refine⟨k,m,(d l ((a l).2 (.inl Y))).trans n,(d D ((a D).2 (.inr (.inl Y)))).trans o,x,y,(d rb ((a rb).2 (.inr (.inr (.inl Y))))).trans p,jW q (T8 _) (λc f _ _=>d c ((a c).2 (.inr (.inr (.inr (.inl f.symm)))))),λw z u=>?_,t,a⟩;obtain⟨v,g,i,j⟩:=s w z u;exact⟨v,g,i,jW j (T8 _) (λc f _ _=>d c ((a c).2 (.inr (.inr (.inr (.inr ⟨v,VD g,f.symm⟩))))))⟩
def Ku{l D rb:Nat}{r:Loop}{pre:List dy}{E:Nat->Prop}{W t A:F}{nm:Nat}{S:List aE}{v y:U}{vs:List U}{h:U}(h1:r.state= .ready)(a4:r.pending=K)(L:W.heap[l]? =I (.loop r))(m:W.heap[D]? =I (.deferred (I [])))(ae:W.heap[rb]? =I (.cells #[h] 26 (0,0)))(M:W.ownsRow 0 43 1 h pre.length vs)
 (a5:∀(i:Nat) (x:dy),pre[i]? =I x->∃v,vs[i]? =I v/\v.oneCell'=Z/\W.ownsRow 0 59 3 v x.2.length (aH x.2)) (a6:∀(i j:Nat) v u g,vs[i]? =I v->vs[j]? =I u->v.ownBlock=I g->u.ownBlock=I g->i=j) (d:∀b,E b↔b=l\/b=D\/b=rb\/I b=h.ownBlock\/∃v∈vs,I b=v.ownBlock)
 (ap:W.ownsRow 0 59 3 v S.length (aH S)) (ao:∀g,v.ownBlock=I g->¬E g)
 (a2:t.heap[rb]? =I (.cells #[y] 26 (0,0))) (g2:t.ownsRow 0 43 1 y (pre.length+1) (vs++[v])) (J:∀b,b<W.heap.size->b≠l->b≠rb->I b≠h.ownBlock->t.heap[b]? =W.heap[b]?) (br:W.heap.size<=t.heap.size) (a3:∀b,I b=y.ownBlock->I b=h.ownBlock\/W.heap.size<=b) (ad:A.heap=t.heap.setIfInBounds l (.loop r)) (bd:l≠rb) (bu:∀g,h.ownBlock=I g->g≠l) (be:∀g,y.ownBlock=I g->g≠l):xH l D rb r pre E W nm S v A:=by
 have bt:l<W.heap.size:=(Ub.1 L).1;have a7:D<W.heap.size:=(Ub.1 m).1;have z:∀b:Nat,b≠l->A.heap[b]? =t.heap[b]? :=λb e=>by rw[ad,UP,if_neg (λa=>e a.symm)]
 have aa:D≠l:=λa=>by rw[a,L] at m;cases m
 have a0:D≠rb:=λa=>by rw[a,ae] at m;cases m
 have a1:I D≠h.ownBlock:=λa=>by
  rcases M.2 with⟨rfl,_⟩|⟨ab,aw,az,rfl,_,f,_⟩
  ·cases a
  ·cases a;rw[m] at f;cases f
 have bi:∀u q s,W.ownsRow 0 59 3 u q s->∀g,u.ownBlock=I g->g<W.heap.size/\g≠l/\g≠rb/\I g≠h.ownBlock:=λu q s c g w=>by
  rcases c.2 with⟨rfl,_⟩|⟨ab,aw,az,rfl,_,f,_⟩
  ·cases w
  ·have N:g=ab:=(by cases w;rfl);subst N;refine⟨(Ub.1 f).1,(λa=>by rw[a,L] at f;cases f),(λa=>by rw[a,ae] at f;cases f),λa=>?_⟩;rcases M.2 with⟨rfl,_⟩|⟨g2,bj,bl,rfl,_,a8,_⟩
   ·cases a
   ·have N:g=g2:=(by cases a;rfl);subst N;rw[a8] at f;cases f
 have ar:∀u q s,W.ownsRow 0 59 3 u q s->A.ownsRow 0 59 3 u q s:=λu q s c=>jW c (T8 _) λg w _ _=>by
  obtain⟨G,B,H,av⟩:=bi u q s c g w;exact(z g B).trans (J g G B H av)
 have bc:vs.length=pre.length:=by have:=M.1;simpa using this
 refine⟨λb=>b=l\/b=D\/b=rb\/I b=y.ownBlock\/∃u∈vs++[v],I b=u.ownBlock,⟨h1,a4,by rw[ad,UP,if_pos Y,if_pos (by omega)],(z D aa).trans ((J D a7 aa a0 a1).trans m),y,vs++[v],(z rb (λa=>bd a.symm)).trans a2,?_,λi x o=>?_,λi j u T g c bb R Q=>?_,λb=>Iff.rfl⟩,λb e P bs=>?_,λb e=>?_⟩
 ·rw[Ua];exact jW g2 (T8 _) λg w _ _=>z g (be g w)
 ·rcases Vy i pre.length with O|O
  ·rw[Vw O] at o;obtain⟨u,G,B,H⟩:=a5 i x o;exact⟨u,by rw[Vw (by omega)];exact G,B,ar u _ _ H⟩
  ·rw[Vo O] at o;have al:i-pre.length=0:=by
    have:=(UA.1 o).1;simp at this;omega
   rw[al] at o;simp at o;subst o;refine⟨v,?_,(qM ap).2,ar v _ _ ap⟩;rw[Vo (by omega),bc,al];rfl
 ·have aq:∀(p:Nat) C,(vs++[v])[p]? =I C->(p<vs.length/\vs[p]? =I C)\/(p=vs.length/\C=v):=λp C n=>by
   rcases Vy p vs.length with k|k
   ·rw[Vw k] at n;exact .inl ⟨k,n⟩
   ·rw[Vo k] at n;have:p-vs.length=0:=by
     have:=(UA.1 n).1;simp at this;omega
    rw[this] at n;simp at n;exact .inr ⟨by omega,n.symm⟩
  rcases aq i u c with⟨_,V⟩|⟨bm,rfl⟩<;>rcases aq j T bb with⟨_,X⟩|⟨bo,rfl⟩
  ·exact a6 i j u T g V X R Q
  ·exact absurd ((d g).2 (.inr (.inr (.inr (.inr ⟨u,VD V,R.symm⟩))))) (ao g Q)
  ·exact absurd ((d g).2 (.inr (.inr (.inr (.inr ⟨T,VD X,Q.symm⟩))))) (ao g R)
  ·omega
 ·have am:b≠l:=λa=>P ((d b).2 (.inl a));have a9:b≠rb:=λa=>P ((d b).2 (.inr (.inr (.inl a))));have ba:I b≠h.ownBlock:=λa=>P ((d b).2 (.inr (.inr (.inr (.inl a)))));exact(z b am).trans (J b e am a9 ba)
 ·rcases e with rfl|rfl|rfl|e|⟨u,c,e⟩
  ·exact .inl ((d _).2 (.inl Y))
  ·exact .inl ((d _).2 (.inr (.inl Y)))
  ·exact .inl ((d _).2 (.inr (.inr (.inl Y))))
  ·rcases a3 b e with k|k
   ·exact .inl ((d b).2 (.inr (.inr (.inr (.inl k)))))
   ·exact .inr (.inr k)
  ·rcases U1.1 c with c|c
   ·exact .inl ((d b).2 (.inr (.inr (.inr (.inr ⟨u,c,e⟩)))))
   ·simp at c;subst c;exact .inr (.inl e)
def Kt{l D rb:Nat}{r:Loop}{pre:List dy}{A:Nat->Prop}{W:F}{nm:Nat}{P:List aE}{v:U}(o:qB r rb)(av:lM l D rb r pre A W)(bm:pre.length<2000)(N:W.ownsRow 0 59 3 v P.length (aH P))(a3:∀g,v.ownBlock=I g->¬A g)(c:Ut)(cs:List Ut)(f:Tp):
 ∃W',xH l D rb r pre A W nm P v W'/\Steps (aB T4) (lone (WX l r.fn ((r.params.zip #[.int .i64 (nm:Int),v]).foldl (λtmps (t,a)=>tmps.setIfInBounds t a) r.tmps) r.assign r.body .normal) (c::cs) (sh f 0 W)) (lone (c.finish (.bool Z)) cs W'):=by
 obtain⟨w,H,k,ao,Q,ad,J,L,ap,aq,ar⟩:=av;let b:Ut:={(default:Ut) with fn:=r.fn,kind:=.normal,roundOf:=I l};let p:V6:={tmps:=(r.params.zip #[.int .i64 (nm:Int),v]).foldl (λtmps (t,a)=>tmps.setIfInBounds t a) r.tmps,defers:=[]};have aw:WX l r.fn ((r.params.zip #[.int .i64 (nm:Int),v]).foldl (λtmps (t,a)=>tmps.setIfInBounds t a) r.tmps) r.assign r.body .normal=b.atR p [.code r.assign,.beginRound,.code r.body]:=by
  simp[WX,Frame.atR,b,p]
 have O:l≠rb:=λd=>by rw[d,J] at k;cases k
 have a1:l<W.heap.size:=(Ub.1 k).1;have x:∀g,Q.ownBlock=I g->g≠l:=λg n d=>by
  rcases L.2 with⟨rfl,_⟩|⟨al,bj,bl,rfl,_,T,_⟩
  ·cases n
  ·have a0:g=al:=(by cases n;rfl);subst a0;rw[d,k] at T;cases T
 have y:Knows p 40 [(29,v),(12,.pointer (I ⟨rb,0,K⟩))]:=by
  have d:p.tmps=(r.tmps.setIfInBounds 28 (.int .i64 (nm:Int))).setIfInBounds 29 v:=by
   show(r.params.zip #[.int .i64 (nm:Int),v]).foldl (λtmps (t,a)=>tmps.setIfInBounds t a) r.tmps=_;rw[o.ps];simp
  refine Knows.cons (Knows.cons (l:=[]) ⟨?_,λs v e=>by simp at e⟩ ?_) ?_
  ·rw[d];simp[o.sz]
  ·unfold aW;rw[d,UD,UP,if_neg (by decide),UP,if_neg (by decide),<-UD];exact o.kn
  ·unfold aW;rw[d,UD,UP,if_pos Y,if_pos (by simp[o.sz])];rfl
 rw[aw,o.TJ,o.bd];generalize p=a at y;have a7:=stepR_region (P:=aB T4) (b:=b) (a:=a) (k:=[.beginRound,.code (.block 1 (.region 7 (ei VT) T7))]) (cs:=c::cs) (w:=sh f 0 W) (ops:=fS VT) (id:=6);obtain⟨bi,bo,⟨rfl,rfl⟩,X⟩:=QF (P0:=aB T4) (b:=b) (k:=[.beginRound,.code (.block 1 (.region 7 (ei VT) T7))]) (cs:=c::cs) (ops:=fS VT) (Q:=λd B bd=>match d with| .normal=>B=a.put (I 14) v/\bd=sh f 0 W|_=>False) [] Nv (λ_ _ _ e=>e) (fun⟨_,_,e⟩=>e) (UK (fS VT).size) a (sh f 0 W) (wz (xz rfl ((kF rfl (y.of rfl) (sh f 0 W)).1) ⟨rfl,rfl⟩));rw[Wr] at X;have a8:=stepR_region_end (P:=aB T4) (b:=b) (a:=a.put (I 14) v) (k:=[.beginRound,.code (.block 1 (.region 7 (ei VT) T7))]) (cs:=c::cs) (w:=sh f 0 W) (ops:=fS VT);have m:=run_beginRound (P:=aB T4) (w:=sh f 0 W) (l:=l) (r:=r) k w;have aa:=stepR_beginRound (P:=aB T4) (b:=b) (a:=a.put (I 14) v) (k:=[.code (.block 1 (.region 7 (ei VT) T7))]) (cs:=c::cs) (w:=sh f 0 W) Y m;generalize M:(sh f 0 W).putObj l (.loop {r with state:=.busy})=h at aa;have R:∀b:Nat,b≠l->h.heap[b]? =W.heap[b]? :=λb m=>by rw[<-M];exact World.putObj_heap_other (w:=sh f 0 W) m
 have be:h.heap[l]? =I (.loop {r with state:=.busy}):=by rw[<-M];exact World.putObj_heap_same (w:=sh f 0 W) a1
 have br:h.heap.size=W.heap.size:=by rw[<-M];exact World.putObj_size (w:=sh f 0 W)
 have a9:=stepR_block (P:=aB T4) (b:=b) (a:=a.put (I 14) v) (k:=[]) (cs:=c::cs) (w:=h) (id:=1) (c:=.region 7 (ei VT) T7);have ba:=stepR_region (P:=aB T4) (b:=b) (a:=a.put (I 14) v) (k:=[.inBlock 1]) (cs:=c::cs) (w:=h) (ops:=ei VT) (id:=7);have z:=y.put (d:=14) (by decide) v;obtain⟨C,j,⟨i,E,G,q,S,u⟩,ab⟩:=QF (P0:=aB T4) (b:=b) (k:=[.inBlock 1]) (cs:=c::cs) (ops:=ei VT) (Q:=λd B W'=>match d with| .normal=>∃i,W'.heap[rb]? =I (.cells #[i] 26 (0,0))/\W'.ownsRow 0 43 1 i (pre.length+1) (ad++[v])/\(∀b,b<h.heap.size->b≠rb->I b≠Q.ownBlock->W'.heap[b]? =h.heap[b]?)/\h.heap.size<=W'.heap.size/\(∀b,I b=i.ownBlock->I b=Q.ownBlock\/h.heap.size<=b)|_=>False) [] PV (λ_ _ _ e=>e) (fun⟨_,_,e⟩=>e) (UK (ei VT).size) (a.put (I 14) v) h (Nw (n:=pre.length) (vs:=ad) ((z.nil.cons (z.slot 12 _ rfl)).cons (z.slot 14 _ rfl)) ((R rb (λd=>O d.symm)).trans J) (jW L (T8 _) λg n _ _=>R g (x g n)) (qM N).1 (qM N).2 (by omega) λB W' i E G q S u=>⟨i,E,G,q,S,u⟩);rw[Wr] at ab;have a6:∀g,i.ownBlock=I g->g≠l:=λg n d=>by
  rcases u g n.symm with e|e
  ·exact x g e.symm d
  ·omega
 have am:j.heap[l]? =I (.loop {r with state:=.busy}):=(q l (by omega) O (λd=>x l d.symm Y)).trans be;have bb:=stepR_region_end (P:=aB T4) (b:=b) (a:=C) (k:=[.inBlock 1]) (cs:=c::cs) (w:=j) (ops:=ei VT);have bc:=stepR_inBlock (P:=aB T4) (b:=b) (a:=C) (k:=[]) (cs:=c::cs) (w:=j) (id:=1);have az:=run_endRound (P:=aB T4) (w:=j) (l:=l) (r:={r with state:=.busy}) K am;have V:=stepR_round_end (P:=aB T4) (b:=b) (a:=C) (cs:=cs) (w:=j) (c:=c) Y Y az;have ae:({({r with state:=.busy}:Loop) with state:=if (K:Option WV).isNone then .ready else .done,pending:=K}:Loop)=r:=by
  obtain⟨bs,bt,bu,bv,bx,bA,bB,b0⟩:=r;simp only at w H;subst w H;rfl
 rw[ae] at V;refine⟨j.putObj l (.loop r),Ku w H k ao J L ap aq ar N a3 E G (λb m a2 a4 a5=>(q b (by omega) a4 a5).trans (R b a2)) (by omega) (λb m=>(u b m).imp (λe=>e) (λe=>by omega)) Y O x a6,?_⟩;exact .head a7 (X.trans (.head a8 (.head aa (.head a9 (.head ba (ab.trans (.head bb (.head bc (.one V)))))))))
def Bj:bp (aB T4) Z (.region 6 (fS VT) T7)=Z/\bp (aB T4) Z (.block 1 (.region 7 (ei VT) T7))=Z:=⟨by kernel_rfl,by kernel_rfl⟩
def zl{r:Loop}{rb:Nat}(b:qB r rb)(c:r.pending=K):bn (aB T4) (.loop r):=⟨by rw[b.TJ];exact Bj.1,by rw[b.bd];exact Bj.2,λd a=>by rw[c] at a;cases a⟩
def Cf{P0:Uf}{ws w:F}{base:Nat}{e:Uh}{b:Nat}{v:U}{n:Nat}{c:List U}(l:Mk P0 ws w)(h:w.ownsRow base e b v n c):ws.ownsRow base e b v n c:=by
 obtain⟨a,h|⟨g,d,f,rfl,i,j,k⟩⟩:=h
 ·exact⟨a,.inl h⟩
 ·exact⟨a,.inr ⟨g,d,f,rfl,i,l.un.row.2 j,k⟩⟩
def lM.Rh{l D rb:Nat}{r:Loop}{pre:List dy}{b:Nat->Prop}{W ws:F}(h:lM l D rb r pre b W)(s:qB r rb)(a:Mk (aB T4) ws W):lM l D rb r pre b ws:=by
 obtain⟨g,c,i,j,w,x,k,m,n,o,p⟩:=h;refine⟨g,c,a.at_ l _ i (zl s c),a.at_ D _ j (λz q=>by cases q),w,x,a.un.row.2 k,Cf a m,λu y t=>?_,o,p⟩;obtain⟨v,d,e,f⟩:=n u y t;exact⟨v,d,e,Cf a f⟩
def lM.RM{l D rb:Nat}{r:Loop}{pre:List dy}{b:Nat->Prop}{W u:F}(h:lM l D rb r pre b W)(y:qB r rb)(a:Un W u):lM l D rb r pre b u:=by
 obtain⟨f,g,i,j,t,w,k,m,n,o,p⟩:=h;refine⟨f,g,a.o i (by simp[pz]),a.o j (by simp[pz]),t,w,a.row.1 k,Cg a m,λs x q=>?_,o,p⟩;obtain⟨v,c,d,e⟩:=n s x q;exact⟨v,c,d,Cg a e⟩
def Ks{Post:U->F->Prop}{l D rb:Nat}{r:Loop}(e:qB r rb):Cons (aB T4) T4 Post l (lM l D rb r) (λ_=>Z):=by
 refine⟨λpre h f q j m _=>j.keeps m,λpre h f j c a=>?_,λpre h f A ao v k T _ _ ae V=>?_⟩
 ·obtain⟨w,d,H,I,a4,ap,J,x,K,aw,L⟩:=j;have a1:ap.length=pre.length:=by have:=x.1;simpa using this
  rcases(L c).1 a with rfl|rfl|rfl|a|⟨a6,ad,a⟩
  ·exact(Ub.1 H).1
  ·exact(Ub.1 I).1
  ·exact(Ub.1 J).1
  ·exact(td x a.symm).2
  ·obtain⟨p,R,rfl⟩:=List.mem_iff_getElem.1 ad;obtain⟨a7,t,_,G⟩:=K p pre[p] (Um (by omega));rw[Um R] at t;cases t;exact(td G a.symm).2
 ·refine⟨r,k.hl,zl e k.pn,by rw[e.ps];rfl,λi aq az X a0 O ab=>?_⟩;obtain⟨B,b⟩:=D6 (aB T4) f;have N:=k.Rh e b;have al:=Cf b ae;refine sX (aF:=[i]) cV (Stop:=λu aF g=>aF=[]/\u=i.finish (.bool Z)/\xH l D rb r pre h B A ao v g) (λu aF g n=>?_) ab b.hp b.un (λC=>?_) (λav a5 g u2 n W d aa=>?_)
  ·obtain⟨_,rfl,_⟩:=n;rintro⟨_,s,z⟩;rcases X.2 with⟨a2,p,a3,am,o⟩|⟨l,am,o⟩
   ·simp[VW,o] at z
   ·simp[VW,o] at z
  ·obtain⟨q,w,d⟩:=Kt (nm:=A) e N T al V i [bG] C;exact⟨_,[],q,d,rfl,rfl,w⟩
  ·obtain⟨C,ar,rfl,rfl,E,M,S,Q⟩:=n;have y:B.heap.size=f.heap.size:=b.un.size.symm;refine O _ u2 ⟨rfl,E,(M.sh (W':=g) Y).RM e d.un,λc a m P=>d.same b.un (S c (by rw[y];exact a) m P),λc a=>?_⟩ trivial aa W;rw[<-y];exact Q c a
end Cc
namespace Ec
open Go.RowKit Pk Pm
def cX (n:Nat)(k:Int):Bool:=decide (0<=k)&&decide (k<(n:Int))
def jD{W:F}{g:Nat}{a b c d e f:U}{t:Uh}(h:W.heap[g]? =I (.cells #[a,b,c,d,e,f] t (0,0))):aM W g 0 a/\aM W g 1 b/\aM W g 2 c/\aM W g 3 d/\aM W g 4 e/\aM W g 5 f:=by
 unfold Us;simp[h]
def yw(n:Nat)(ah:List Int)(rs:List cF)(t:Option UJ)(s:Nat)(b c:U)(co:Option UJ)(cb bE aJ:Nat)(ro:Option UJ)(rb bh aN:Nat)(sk:Bool)(w:F)(be:ah.length<=Uq)(bi:rs.length<=Uq)
 (aa:0<ah.length->co=I ⟨cb,bE,K⟩) (ad:0<ah.length->cb<w.heap.size) (ab:∀j,j<ah.length->aM w cb (bE+j) (.int .i64 (ah.getD j 0))) (l:dB w ro rb bh rs):
 bH 68 #[qv (.slice t n s) b c (.slice co ah.length aJ) (.slice ro rs.length aN) sk] w λe w'=>∃bb,e= .returned (.bool bb)/\(bb=Z↔(∀i (h:i<ah.length),cX n ah[i]=Z)/\∀i (h:i<rs.length),cX n rs[i].col=Z)/\aP w w':=by
 unfold qv;unfold Uq at be bi;have B:=λa ba=>Af t n s b c (.slice co ah.length aJ) (.slice ro rs.length aN) sk a ba;unfold qv at B;have L:=af aa;have N:=af ad;have M:=af ab;have H:=af l;have W:X (aP w (w.alloc (.cells #[.slice t n s,b,c,.slice co ah.length aJ,.slice ro rs.length aN,.bool sk] 115))):=(Up _ _).alloc (T8 _) _;have k:X ((w.alloc (.cells #[.slice t n s,b,c,.slice co ah.length aJ,.slice ro rs.length aN,.bool sk] 115)).heap[w.heap.size]? =I (.cells #[.slice t n s,b,c,.slice co ah.length aJ,.slice ro rs.length aN,.bool sk] 115 (0,0))):=iU _ _;clear aa ad ab l;go_enter ay.func68,Tryz.ntmps68
 go_wp2_with fail
 go_loopw [10] (λi wr=>∃a:Nat,a<=ah.length/\i= .int .i64 (a:Int)/\(∀i (h:i<ah.length),i<a->cX n ah[i]=Z)/\wr.heap[w.heap.size]? =I (.cells #[.slice t n s,b,c,.slice co ah.length aJ,.slice ro rs.length aN,.bool sk] 115 (0,0))/\aP w wr) (λi _=>ah.length-(US i).toNat)
 case atStart=>exact⟨0,UE _,rfl,λbt _ h=>by omega,k.o,W.o⟩
 case round=>
  clear k W;obtain⟨a,al,rfl,D,v,q⟩:=hrel;have u:=af q;have k:=af v;have r:=af D;have C:=q.size;obtain⟨a2,a3,a4,a5,a6,a7⟩:=jD v;clear D;by_cases V:a<ah.length
  ·obtain rfl:=L.o (by omega);have bd:=N.o (by omega);have a0:aM wr cb (bE+a) (.int .i64 (ah.getD a 0)):=(q.cell (p:=⟨cb,bE+a,K⟩) bd).trans (M.o a V);have ae:ah.getD a 0=ah[a]:=by rw[Ui,Um V];rfl
   rw[ae] at a0;have z:X (cX n ah[a]=T7->¬((∀i (h:i<ah.length),cX n ah[i]=Z)/\∀i (h:i<rs.length),cX n rs[i].col=Z)):=λh S=>by
    have:=S.1 a V;rw[h] at this;cases this
   have A:X (cX n ah[a]=Z->∀i (h:i<ah.length),i<a+1->cX n ah[i]=Z):=λh i T bc=>by
    by_cases e:i=a
    ·subst e;exact h
    ·exact r.o i T (by omega)
   clear q v ae r M N L H;generalize ah[a]=d at*;have p:=B d;have E:cX n d=(decide (0<=d)&&decide (d<(n:Int))):=rfl;rw[<-E] at p;clear B E;cases f:cX n d
   ·rw[f] at p;have O:X (¬((∀i (h:i<ah.length),cX n ah[i]=Z)/\∀i (h:i<rs.length),cX n rs[i].col=Z)):=z.o f;clear z A f
    go_wp2_with (go_at_call 106;refine(p _).mono ?_;rintro e w' ⟨rfl,g⟩;have y:X (aP w w'):=u.o.trans (g.mono C);clear g)
    go_ret;exact⟨T7,rfl,by simp only[UB,false_iff];exact O.o,y.o⟩
   ·rw[f] at p;have P:X (∀i (h:i<ah.length),i<a+1->cX n ah[i]=Z):=A.o f;clear z A f
    go_wp2_with (go_at_call 106;refine(p _).mono ?_;rintro e w' ⟨rfl,g⟩;have y:X (aP w w'):=u.o.trans (g.mono C);have G:X (w'.heap[w.heap.size]? =I (.cells #[.slice t n s,b,c,.slice (I ⟨cb,bE,K⟩) ah.length aJ,.slice ro rs.length aN,.bool sk] 115 (0,0))):=(g.block _ (Ue k.o)).trans k.o;clear g)
    go_roundw
    case rel=>exact⟨a+1,by omega,by go_num,P.o,G.o,y.o⟩
    case measure=>simp[US];omega
  ·have Y:X (∀i (h:i<ah.length),cX n ah[i]=Z):=λi h=>r.o i h (by omega);clear r q v L N M
   go_wp2_with fail
   go_loopw [22] (λi a1=>∃a:Nat,a<=rs.length/\i= .int .i64 (a:Int)/\(∀i (h:i<rs.length),i<a->cX n rs[i].col=Z)/\a1.heap[w.heap.size]? =I (.cells #[.slice t n s,b,c,.slice co ah.length aJ,.slice ro rs.length aN,.bool sk] 115 (0,0))/\aP w a1) (λi _=>rs.length-(US i).toNat)
   case atStart=>exact⟨0,UE _,rfl,λbt _ h=>by omega,k.o,u.o⟩
   case round=>
    clear k u a2 a3 a4 a5 a6 a7 C al;obtain⟨a,al,rfl,D,v,q⟩:=hrel;have u:=af q;have k:=af v;have r:=af D;have C:=q.size;clear D;by_cases x:a<rs.length
    ·have l:=H.o.below q;obtain rfl:=l.addr (by omega);have ao:=l.c0 a x;have ap:=l.c1 a x;have aq:=l.c2 a x;have ar:=l.c3 a x;have av:=l.c4 a x;have aw:=l.c5 a x;have az:=l.c6 a x;have z:X (cX n rs[a].col=T7->¬((∀i (h:i<ah.length),cX n ah[i]=Z)/\∀i (h:i<rs.length),cX n rs[i].col=Z)):=λh S=>by
      have:=S.2 a x;rw[h] at this;cases this
     have A:X (cX n rs[a].col=Z->∀i (h:i<rs.length),i<a+1->cX n rs[i].col=Z):=λh i T bc=>by
      by_cases e:i=a
      ·subst e;exact h
      ·exact r.o i T (by omega)
     clear q l r H v;generalize rs[a]=bu at*;obtain⟨d,o,m⟩:=bu;dsimp only at ao ap aq ar av aw az
     go_upto_region 10 with fail
     obtain⟨a0,bj,bl,bm,bo,br,bs⟩:=jM (iU wr (.cells #[.int .i64 d,.bool o.null,.int .i64 o.n,.string o.s,.bool m.null,.int .i64 m.n,.string m.s] 61));have Q:aP wr (wr.alloc (.cells #[.int .i64 d,.bool o.null,.int .i64 o.n,.string o.s,.bool m.null,.int .i64 m.n,.string m.s] 61)):=(Up _ _).alloc (T8 _) _;have R:=(Q.block _ (Ue k.o)).trans k.o;obtain⟨a2,a3,a4,a5,a6,a7⟩:=jD R;have G:=af R;have J:X (aP w (wr.alloc (.cells #[.int .i64 d,.bool o.null,.int .i64 o.n,.string o.s,.bool m.null,.int .i64 m.n,.string m.s] 61))):=u.o.trans (Q.mono C);clear Q ao ap aq ar av aw az R k u C bj bl bm bo br bs;generalize wr.alloc (.cells #[.int .i64 d,.bool o.null,.int .i64 o.n,.string o.s,.bool m.null,.int .i64 m.n,.string m.s] 61)=bv at*;generalize wr.heap.size=bx at*;have p:=B d;have E:cX n d=(decide (0<=d)&&decide (d<(n:Int))):=rfl;rw[<-E] at p;clear B E;have am:=J.o.size;cases f:cX n d
     ·rw[f] at p;have O:X (¬((∀i (h:i<ah.length),cX n ah[i]=Z)/\∀i (h:i<rs.length),cX n rs[i].col=Z)):=z.o f;clear z A f
      go_wp2_with (go_at_call 106;refine(p _).mono ?_;rintro e w' ⟨rfl,g⟩;have y:X (aP w w'):=J.o.trans (g.mono am);clear g)
      go_ret;exact⟨T7,rfl,by simp only[UB,false_iff];exact O.o,y.o⟩
     ·rw[f] at p;have P:X (∀i (h:i<rs.length),i<a+1->cX n rs[i].col=Z):=A.o f;clear z A f
      go_wp2_with (go_at_call 106;refine(p _).mono ?_;rintro e w' ⟨rfl,g⟩;have y:X (aP w w'):=J.o.trans (g.mono am);have a8:X (w'.heap[w.heap.size]? =I (.cells #[.slice t n s,b,c,.slice co ah.length aJ,.slice (I ⟨rb,bh,K⟩) rs.length aN,.bool sk] 115 (0,0))):=(g.block _ (Ue G.o)).trans G.o;clear g)
      go_roundw
      case rel=>exact⟨a+1,by omega,by go_num,P.o,a8.o,y.o⟩
      case measure=>simp[US];omega
    ·have a9:X ((∀i (h:i<ah.length),cX n ah[i]=Z)/\∀i (h:i<rs.length),cX n rs[i].col=Z):=⟨Y.o,λi h=>r.o i h (by omega)⟩;clear r H q Y v k B;go_wp2;go_ret;exact⟨Z,rfl,by simp only[true_iff];exact a9.o,u.o⟩
structure Hx(w:F)(kb n:Nat)(c k:Int):Prop where
 ex:∃j:Nat,c=(j:Int)/\j<n/\kb<w.heap.size/\aM w kb (j*2+1) (.int .i64 k)/\(k=1\/k=2\/k=3)
def Hx.below{w w':F}{kb n:Nat}{c k:Int}(h:Hx w kb n c k)(a:aP w w'):Hx w' kb n c k:=by
 obtain⟨b,d,e,f,g,i⟩:=h.ex;have j:=a.size;exact⟨b,d,e,by omega,(a.cell (p:=⟨kb,b*2+1,K⟩) f).trans g,i⟩
def iV (kd:Int)(r:cF):Bool:=fQ r.low kd&&fQ r.high kd
def Ah(n:Nat)(rs:List cF)(kd:Int->Int)(kb m:Nat)(b c d:U)(ro:Option UJ)(rb bh aN:Nat)(sk:Bool)(w:F)(bd:rs.length<=Uq)(be:n<=Uq)(k:dB w ro rb bh rs)(ap:∀r∈rs,Hx w kb n r.col (kd r.col)):
 bH 69 #[qv (.slice (I ⟨kb,0,K⟩) n m) b c d (.slice ro rs.length aN) sk] w λe w'=>∃bb,e= .returned (.bool bb)/\(bb=Z↔∀i (h:i<rs.length),iV (kd rs[i].col) rs[i]=Z)/\aP w w':=by
 unfold qv;unfold Uq at bd be;have R:=af k;have Q:=af ap;have ab:X (aP w (w.alloc (.cells #[.slice (I ⟨kb,0,K⟩) n m,b,c,d,.slice ro rs.length aN,.bool sk] 115))):=(Up _ _).alloc (T8 _) _;have t:X ((w.alloc (.cells #[.slice (I ⟨kb,0,K⟩) n m,b,c,d,.slice ro rs.length aN,.bool sk] 115)).heap[w.heap.size]? =I (.cells #[.slice (I ⟨kb,0,K⟩) n m,b,c,d,.slice ro rs.length aN,.bool sk] 115 (0,0))):=iU _ _;clear k ap;go_enter ay.func69,Tryz.ntmps69
 go_wp2_with fail
 go_loopw [9] (λi wr=>∃a:Nat,a<=rs.length/\i= .int .i64 (a:Int)/\(∀i (h:i<rs.length),i<a->iV (kd rs[i].col) rs[i]=Z)/\wr.heap[w.heap.size]? =I (.cells #[.slice (I ⟨kb,0,K⟩) n m,b,c,d,.slice ro rs.length aN,.bool sk] 115 (0,0))/\aP w wr) (λi _=>rs.length-(US i).toNat)
 case atStart=>exact⟨0,UE _,rfl,λbB _ h=>by omega,t.o,ab.o⟩
 case round=>
  clear t ab;obtain⟨a,bt,rfl,ao,W,y⟩:=hrel;have O:=af y;have t:=af W;have G:=af ao;have aq:=y.size;clear ao;by_cases o:a<rs.length
  ·have k:=R.o.below y;obtain rfl:=k.addr (by omega);have ar:=k.c0 a o;have av:=k.c1 a o;have aw:=k.c2 a o;have az:=k.c3 a o;have a0:=k.c4 a o;have a1:=k.c5 a o;have a2:=k.c6 a o;obtain⟨p,ae,a9,al,am,V⟩:=((Q.o rs[a] (Uj o)).below y).ex;have C:X (iV (kd rs[a].col) rs[a]=T7->¬∀i (h:i<rs.length),iV (kd rs[i].col) rs[i]=Z):=λh ba=>by
    have:=ba a o;rw[h] at this;cases this
   have L:X (iV (kd rs[a].col) rs[a]=Z->∀i (h:i<rs.length),i<a+1->iV (kd rs[i].col) rs[i]=Z):=λh i bc br=>by
    by_cases e:i=a
    ·subst e;exact h
    ·exact G.o i bc (by omega)
   clear y k G R Q W;generalize rs[a]=a6 at*;generalize kd a6.col=v at*;obtain⟨b6,g,f⟩:=a6;dsimp only at ae ar av aw az a0 a1 a2;subst ae
   go_upto_region 4 with fail
   obtain⟨bu,bv,bx,bA,a3,a4,a5⟩:=jM (iU wr (.cells #[.int .i64 (p:Int),.bool g.null,.int .i64 g.n,.string g.s,.bool f.null,.int .i64 f.n,.string f.s] 61));have M:aP wr (wr.alloc (.cells #[.int .i64 (p:Int),.bool g.null,.int .i64 g.n,.string g.s,.bool f.null,.int .i64 f.n,.string f.s] 61)):=(Up _ _).alloc (T8 _) _;have bo:=(M.cell (p:=⟨kb,p*2+1,K⟩) al).trans am;have Y:=(M.block _ (Ue t.o)).trans t.o;obtain⟨b0,b1,b2,b3,b4,b5⟩:=jD Y;have J:=af Y;have H:X (aP w (wr.alloc (.cells #[.int .i64 (p:Int),.bool g.null,.int .i64 g.n,.string g.s,.bool f.null,.int .i64 f.n,.string f.s] 61))):=O.o.trans (M.mono aq);have z:wr.heap.size<(wr.alloc (.cells #[.int .i64 (p:Int),.bool g.null,.int .i64 g.n,.string g.s,.bool f.null,.int .i64 f.n,.string f.s] 61)).heap.size:=by simp
   clear M ar av aw az a0 a1 a2 Y t O aq al am;generalize wr.alloc (.cells #[.int .i64 (p:Int),.bool g.null,.int .i64 g.n,.string g.s,.bool f.null,.int .i64 f.n,.string f.s] 61)=bm at*;generalize wr.heap.size=x at*;have bs:(p:Int)<(n:Int):=by omega
   have q:=λT=>qH g v T V;have A:=λT=>qH f v T V;have l:iV v ⟨(p:Int),g,f⟩=(fQ g v&&fQ f v):=rfl;have aa:=H.o.size;clear V a9;cases D:fQ g v
   ·rw[D] at q l;have S:X (¬∀i (h:i<rs.length),iV (kd rs[i].col) rs[i]=Z):=C.o l;clear C L l D A
    go_wp2_with (go_at_call 82;refine(q _).mono ?_;rintro e w' ⟨rfl,j⟩;have s:X (aP w w'):=H.o.trans (j.mono aa);clear j)
    go_ret;exact⟨T7,rfl,by simp only[UB,false_iff];exact S.o,s.o⟩
   ·rw[D] at q l;cases N:fQ f v
    ·rw[N] at A l;have S:X (¬∀i (h:i<rs.length),iV (kd rs[i].col) rs[i]=Z):=C.o l;clear C L l D N
     go_wp2_with (first|(go_at_call 82;refine(q _).mono ?_;rintro e w' ⟨rfl,j⟩;have s:X (aP w w'):=H.o.trans (j.mono aa);have bi:=(j.cell (p:=⟨x,4,K⟩) z).trans a3;have bj:=(j.cell (p:=⟨x,5,K⟩) z).trans a4;have bl:=(j.cell (p:=⟨x,6,K⟩) z).trans a5;have B:X (w'.heap[w.heap.size]? =I (.cells #[.slice (I ⟨kb,0,K⟩) n m,b,c,d,.slice (I ⟨rb,bh,K⟩) rs.length aN,.bool sk] 115 (0,0))):=(j.block _ (Ue J.o)).trans J.o;clear j q)|(go_at_call 82;refine(A _).mono ?_;rintro e E ⟨rfl,u⟩;have P:X (aP w E):=s.o.trans (u.mono (by have:=s.o.size;omega));have ad:X (E.heap[w.heap.size]? =I (.cells #[.slice (I ⟨kb,0,K⟩) n m,b,c,d,.slice (I ⟨rb,bh,K⟩) rs.length aN,.bool sk] 115 (0,0))):=(u.block _ (Ue B.o)).trans B.o;clear u))
     go_ret;exact⟨T7,rfl,by simp only[UB,false_iff];exact S.o,P.o⟩
    ·rw[N] at A l;have a8:X (∀i (h:i<rs.length),i<a+1->iV (kd rs[i].col) rs[i]=Z):=L.o l;clear C L l D N
     go_wp2_with (first|(go_at_call 82;refine(q _).mono ?_;rintro e w' ⟨rfl,j⟩;have s:X (aP w w'):=H.o.trans (j.mono aa);have bi:=(j.cell (p:=⟨x,4,K⟩) z).trans a3;have bj:=(j.cell (p:=⟨x,5,K⟩) z).trans a4;have bl:=(j.cell (p:=⟨x,6,K⟩) z).trans a5;have B:X (w'.heap[w.heap.size]? =I (.cells #[.slice (I ⟨kb,0,K⟩) n m,b,c,d,.slice (I ⟨rb,bh,K⟩) rs.length aN,.bool sk] 115 (0,0))):=(j.block _ (Ue J.o)).trans J.o;clear j q)|(go_at_call 82;refine(A _).mono ?_;rintro e E ⟨rfl,u⟩;have P:X (aP w E):=s.o.trans (u.mono (by have:=s.o.size;omega));have ad:X (E.heap[w.heap.size]? =I (.cells #[.slice (I ⟨kb,0,K⟩) n m,b,c,d,.slice (I ⟨rb,bh,K⟩) rs.length aN,.bool sk] 115 (0,0))):=(u.block _ (Ue B.o)).trans B.o;clear u))
     go_roundw
     case rel=>exact⟨a+1,by omega,by go_num,a8.o,ad.o,P.o⟩
     case measure=>simp[US];omega
  ·have a7:X (∀i (h:i<rs.length),iV (kd rs[i].col) rs[i]=Z):=λi h=>G.o i h (by omega);clear G R Q y W t;go_wp2;go_ret;exact⟨Z,rfl,by simp only[true_iff];exact a7.o,O.o⟩
def ay.Mr:((aB T4).info? 61).map (λi=>(i.zero,i.size,i.bytes))=I (I (.agg #[.int .i64 0,.bool T7,.int .i64 0,.string ⟨#[]⟩,.bool T7,.int .i64 0,.string ⟨#[]⟩]),7,72):=by kernel_rfl
def ay.O0:((aB T4).info? 3).map (λi=>(i.zero,i.size,i.bytes))=I (I (.int .i64 0),1,8):=by kernel_rfl
def z6(l:List Int)(s:Option UJ)(b off cap:Nat)(w:F)(L:l.length<=1000)(t:0<l.length->s=I ⟨b,off,K⟩)(hc:∀j u,(bz l)[j]? =I u->aM w b (off+j) u):
 bH 70 #[.slice s l.length cap] w λe w'=>aP w w'/\((l.length=0/\∃co,e= .returned (.slice co 0 0))\/(0<l.length/\∃v,e= .returned v/\w'.ownsRow w.heap.size 3 1 v l.length (bz l))):=by
 obtain⟨D,B,N,C,O⟩:=Ve ay.O0;have h:aP w (w.alloc (.cells #[] 3)):=(Up _ _).alloc (T8 _) _;have p:(w.alloc (.cells #[] 3)).ownsRow w.heap.size 3 1 (.slice (I ⟨w.heap.size,0,K⟩) 0 0) 0 []:=⟨rfl,.inr ⟨w.heap.size,0,#[],rfl,T8 _,iU _ _,T8 _,UE _,rfl,rfl⟩⟩;have P:∀(n:UJ) (m g:Nat) (a:F),(binOp .eql 22 (.slice (I n) m g) aO).run (aB T4) a= .ok (.bool T7) a:=λn m g a=>by simp only[binOp];simp[run_equal_slice_nil a 22 3 _ _ _ ay.underlying22]
 have Q:∀(m g:Nat) (a:F),(binOp .eql 22 (.slice K m g) aO).run (aB T4) a= .ok (.bool Z) a:=λm g a=>by simp only[binOp];simp[run_equal_slice_nil a 22 3 _ _ _ ay.underlying22]
 by_cases o:0<l.length
 ·obtain rfl:=t o;have z:X (∀j u,(bz l)[j]? =I u->(w.alloc (.cells #[] 3)).cell? (Yr ⟨b,off,K⟩ j)=I u):=λj u J=>by
   rw[Xc];have d:=hc j u J;have H:b<w.heap.size:=by
    unfold Us at d;rcases Vy b w.heap.size with c|c
    ·exact c
    ·simp[Vl c] at d
   exact(h.cell (p:=⟨b,off+j,K⟩) H).trans d
  have A:X (∀u∈bz l,u.oneCell'=Z):=λu M=>by obtain⟨S,_,rfl⟩:=U7.1 M;rfl
  have r:X ((bz l).length=l.length*1):=by show _=_;simp[bz]
  have f:=af h;clear hc h t;go_enter ay.func70,Tryz.ntmps70
  go_wp2_with (at_builtin;refine aT _ Y _ _ 22 Y w.heap.size 3 D (.int .i64 0) 1 8 ay.underlying22 B N C O Y (by decide) (.slice (I ⟨w.heap.size,0,K⟩) 0 0) 0 [] Y p ⟨b,off,K⟩ l.length cap (bz l) Y o r.o z.o A.o (by unfold Uq;omega) (by omega) (by simp) ?_;intro R w' k i)
  have q:X (aP w w'):=by
   rcases i with⟨d,_⟩|⟨_,d⟩
   ·exact f.o.grown d (by simp) (by simp)
   ·exact f.o.grown d (by simp) (λG x=>by simp[Vz] at x;omega)
  rw[UT,List.nil_append] at k;have E:=af k;clear i k z A r f p;go_wp2;go_ret;exact⟨q.o,.inr ⟨o,_,rfl,E.o⟩⟩
 ·have y:l.length=0:=by omega
  rw[y];have r:=af y;have f:=af h;clear t hc L o y h;cases s with
  |none=>
   go_enter ay.func70,Tryz.ntmps70;go_wp2;go_ret;exact⟨Up _ _,.inl ⟨trivial,_,rfl⟩⟩
  |some n=>
   go_enter ay.func70,Tryz.ntmps70
   go_wp2_with (at_builtin;refine VH _ Y _ _ 22 Y w.heap.size 3 D 1 ay.underlying22 B C w.heap.size 0 0 [] Y p n 0 cap [] Y (by simp) (λj u c=>by simp at c) (λu c=>by simp at c) (by omega) ?_;intro w' k i)
   have q:X (aP w w'):=f.o.grown i (by simp) (λG x=>by simp at x;omega);clear i k f p;go_wp2;go_ret;exact⟨q.o,.inl ⟨trivial,_,rfl⟩⟩
def wL(l:List cF)(s:Option UJ)(b off cap:Nat)(w:F)(M:l.length<=1000)(t:0<l.length->s=I ⟨b,off,K⟩)(hc:∀j u,(dL l)[j]? =I u->aM w b (off+j) u):
 bH 107 #[.slice s l.length cap] w λe w'=>aP w w'/\((l.length=0/\∃co,e= .returned (.slice co 0 0))\/(0<l.length/\∃v,e= .returned v/\w'.ownsRow w.heap.size 61 7 v l.length (dL l))):=by
 obtain⟨E,B,O,D,P⟩:=Ve ay.Mr;have h:aP w (w.alloc (.cells #[] 61)):=(Up _ _).alloc (T8 _) _;have p:(w.alloc (.cells #[] 61)).ownsRow w.heap.size 61 7 (.slice (I ⟨w.heap.size,0,K⟩) 0 0) 0 []:=⟨rfl,.inr ⟨w.heap.size,0,#[],rfl,T8 _,iU _ _,T8 _,UE _,rfl,rfl⟩⟩;have Q:∀(n:UJ) (m g:Nat) (a:F),(binOp .eql 23 (.slice (I n) m g) aO).run (aB T4) a= .ok (.bool T7) a:=λn m g a=>by simp only[binOp];simp[run_equal_slice_nil a 23 61 _ _ _ ay.underlying23]
 have R:∀(m g:Nat) (a:F),(binOp .eql 23 (.slice K m g) aO).run (aB T4) a= .ok (.bool Z) a:=λm g a=>by simp only[binOp];simp[run_equal_slice_nil a 23 61 _ _ _ ay.underlying23]
 by_cases o:0<l.length
 ·obtain rfl:=t o;have z:X (∀j u,(dL l)[j]? =I u->(w.alloc (.cells #[] 61)).cell? (Yr ⟨b,off,K⟩ j)=I u):=λj u L=>by
   rw[Xc];have d:=hc j u L;have J:b<w.heap.size:=by
    unfold Us at d;rcases Vy b w.heap.size with c|c
    ·exact c
    ·simp[Vl c] at d
   exact(h.cell (p:=⟨b,off+j,K⟩) J).trans d
  have A:X (∀u∈dL l,u.oneCell'=Z):=λu N=>by
   obtain⟨T,_,C⟩:=List.mem_flatMap.1 N;simp only[sj,VM,XQ,or_false] at C;rcases C with rfl|rfl|rfl|rfl|rfl|rfl|rfl<;>rfl
  have r:=af (rI l);have f:=af h;clear hc h t;go_enter ay.func107,Tryz.ntmps107
  go_wp2_with (at_builtin;refine aT _ Y _ _ 23 Y w.heap.size 61 E (.agg #[.int .i64 0,.bool T7,.int .i64 0,.string ⟨#[]⟩,.bool T7,.int .i64 0,.string ⟨#[]⟩]) 7 72 ay.underlying23 B O D P Y (by decide) (.slice (I ⟨w.heap.size,0,K⟩) 0 0) 0 [] Y p ⟨b,off,K⟩ l.length cap (dL l) Y o r.o z.o A.o (by unfold Uq;omega) (by omega) (by simp) ?_;intro S w' k i)
  have q:X (aP w w'):=by
   rcases i with⟨d,_⟩|⟨_,d⟩
   ·exact f.o.grown d (by simp) (by simp)
   ·exact f.o.grown d (by simp) (λH x=>by simp[Vz] at x;omega)
  rw[UT,List.nil_append] at k;have G:=af k;clear i k z A r f p;go_wp2;go_ret;exact⟨q.o,.inr ⟨o,_,rfl,G.o⟩⟩
 ·have y:l.length=0:=by omega
  rw[y];have r:=af y;have f:=af h;clear t hc M o y h;cases s with
  |none=>
   go_enter ay.func107,Tryz.ntmps107;go_wp2;go_ret;exact⟨Up _ _,.inl ⟨trivial,_,rfl⟩⟩
  |some n=>
   go_enter ay.func107,Tryz.ntmps107
   go_wp2_with (at_builtin;refine VH _ Y _ _ 23 Y w.heap.size 61 E 7 ay.underlying23 B D w.heap.size 0 0 [] Y p n 0 cap [] Y (by simp) (λj u c=>by simp at c) (λu c=>by simp at c) (by omega) ?_;intro w' k i)
   have q:X (aP w w'):=f.o.grown i (by simp) (λH x=>by simp at x;omega);clear i k f p;go_wp2;go_ret;exact⟨q.o,.inl ⟨trivial,_,rfl⟩⟩
def NB{W:F}{g o:Nat}{a:Array U}{t:Uh}{u:U}(h:W.heap[g]? =I (.cells a t (0,0)))(c:a[o]? =I u):(W.setCell ⟨g,o,K⟩ u).heap[g]? =I (.cells a t (0,0)):=by
 rw[Ur W g o _ _ u h];congr 2;apply Array.ext_getElem?;intro e;rw[UP]
 split
 ·rename_i b;subst b
  split
  ·exact c.symm
  ·rename_i d;rw[Vl (by omega)]
 ·rfl
def rK{W:F}{base g o n cap:Nat}{c:List U}{u:U}(h:W.ownsRow base 61 7 (.slice (I ⟨g,0,K⟩) n cap) n c)(b:c[o]? =I u):(W.setCell ⟨g,o,K⟩ u).ownsRow base 61 7 (.slice (I ⟨g,0,K⟩) n cap) n c:=by
 obtain⟨m,⟨a,_⟩|⟨q,p,e,a,f,i,j,k,l,d⟩⟩:=h
 ·cases a
 ·simp only[VA,U8,Wh,and_true,true_and] at a;obtain⟨rfl,rfl⟩:=a;refine⟨m,.inr ⟨g,cap,e,rfl,f,NB i ?_,j,k,l,d⟩⟩;rw[<-d,V8] at b
  split at b
  ·simpa using b
  ·cases b
def PB{w:F}{base e d n:Nat}{v:U}{f:List U}(h:w.ownsRow base e d v n f)(l:0<n):∃g cap,v= .slice (I ⟨g,0,K⟩) n cap:=by
 obtain⟨k,⟨a,j⟩|⟨c,b,i,a,_⟩⟩:=h
 ·omega
 ·exact⟨c,b,a⟩
def dB.Ge{w:F}{base g cap:Nat}{l:List cF}(h:w.ownsRow base 61 7 (.slice (I ⟨g,0,K⟩) l.length cap) l.length (dL l)):dB w (I ⟨g,0,K⟩) g 0 l:=by
 obtain⟨o,⟨a,_⟩|⟨i,e,f,a,j,c,k,m,n,d⟩⟩:=h
 ·cases a
 ·simp only[VA,U8,Wh,and_true,true_and] at a;obtain⟨rfl,rfl⟩:=a;refine dB.Ea (Ue c) λp v b=>?_;rw[<-d,V8] at b
  split at b
  ·rw[UT];unfold Us;simp only[c];simpa using b
  ·cases b
def M1{w:F}{base g n cap c e:Nat}{d:List U}(h:w.ownsRow base e c (.slice (I ⟨g,0,K⟩) n cap) n d):base<=g:=by
 obtain⟨q,⟨a,_⟩|⟨j,f,i,a,b,k,l,m,o,p⟩⟩:=h
 ·cases a
 ·simp only[VA,U8,Wh,and_true,true_and] at a;obtain⟨rfl,rfl⟩:=a;exact b
def Ek{w:F}{base g n cap c e o:Nat}{d:List U}(h:w.ownsRow base e c (.slice (I ⟨g,0,K⟩) n cap) n d):w.frozen? ⟨g,o,K⟩=T7:=by
 obtain⟨r,⟨a,_⟩|⟨j,f,i,a,k,b,l,m,p,q⟩⟩:=h
 ·cases a
 ·simp only[VA,U8,Wh,and_true,true_and] at a;obtain⟨rfl,rfl⟩:=a;simp[UQ,b]
def Eh{w:F}{base g n cap o:Nat}{c:List U}{u:U}(h:w.ownsRow base 61 7 (.slice (I ⟨g,0,K⟩) n cap) n c)(b:c[o]? =I u):aM w g o u:=by
 obtain⟨q,⟨a,_⟩|⟨j,f,i,a,k,d,l,m,p,e⟩⟩:=h
 ·cases a
 ·simp only[VA,U8,Wh,and_true,true_and] at a;obtain⟨rfl,rfl⟩:=a;rw[<-e,V8] at b
  split at b
  ·unfold Us;simp only[d];simpa using b
  ·cases b
def ya(l:List cF)(t:Option UJ)(b off cap:Nat)(w:F)(av:l.length<=1000)(ar:0<l.length->t=I ⟨b,off,K⟩)(hc:∀j u,(dL l)[j]? =I u->aM w b (off+j) u)(a0:∀r∈l,r.low.s.size<=32/\r.high.s.size<=32):
 bH 71 #[.slice t l.length cap] w λe w'=>aP w w'/\((l.length=0/\∃co,e= .returned (.slice co 0 0))\/(0<l.length/\∃v,e= .returned v/\w'.ownsRow w.heap.size 61 7 v l.length (dL l))):=by
 have o:=wL l t b off cap w av ar hc;have O:=af a0;clear ar hc a0;by_cases B:0<l.length
 ·have ao:bH 107 #[.slice t l.length cap] w λe w'=>aP w w'/\∃c gP,e= .returned (.slice (I ⟨c,0,K⟩) l.length gP)/\w'.ownsRow w.heap.size 61 7 (.slice (I ⟨c,0,K⟩) l.length gP) l.length (dL l):=by
   refine o.mono λe w' g=>⟨g.1,?_⟩;obtain⟨_,v,rfl,m⟩:=g.2.resolve_left λg=>absurd g.1 (by omega);obtain⟨c,gP,rfl⟩:=PB m B;exact⟨c,gP,rfl,m⟩
  clear o;go_enter ay.func71,Tryz.ntmps71
  go_wp2_with (go_at_call 107;refine ao.mono ?_;rintro e a3 ⟨x,c,gP,rfl,az⟩)
  have z:=af x;have p:=af az;clear x az ao
  go_loopw [10] (λn wr=>∃a:Nat,a<=l.length/\n= .int .i64 (a:Int)/\wr.ownsRow w.heap.size 61 7 (.slice (I ⟨c,0,K⟩) l.length gP) l.length (dL l)/\aP w wr) (λn _=>l.length-(US n).toNat)
  case atStart=>exact⟨0,UE _,rfl,p.o,z.o⟩
  case round=>
   clear z p;obtain⟨a,bu,rfl,m,C⟩:=hrel;have H:=af C;have A:=af m;have a1:=C.size;by_cases h:a<l.length
   ·have k:=dB.Ge m;have S:=k.c0 a h;have T:=k.c1 a h;have U:=k.c2 a h;have V:=k.c3 a h;have W:=k.c4 a h;have Z:=k.c5 a h;have aa:=k.c6 a h;simp only[UT] at S T U V W Z aa;have N:=af (oa l a h 3 _ Y);have M:=af (oa l a h 6 _ Y);obtain⟨a4,a5⟩:=O.o l[a] (Uj h);have E:=λP=>uq l[a].low.s P a4;have G:=λP=>uq l[a].high.s P a5;clear m C k O a4 a5;generalize l[a]=br at*;obtain⟨D,d,f⟩:=br;dsimp only at S T U V W Z aa N M E G
    go_upto_region 5 with fail
    obtain⟨bd,be,bi,bj,bl,bm,a2⟩:=jM (iU wr (.cells #[.int .i64 D,.bool d.null,.int .i64 d.n,.string d.s,.bool f.null,.int .i64 f.n,.string f.s] 61));have Q:aP wr (wr.alloc (.cells #[.int .i64 D,.bool d.null,.int .i64 d.n,.string d.s,.bool f.null,.int .i64 f.n,.string f.s] 61)):=(Up _ _).alloc (T8 _) _;have L:=af (H.o.trans (Q.mono a1));have aw:=aK A.o Q;have p:=af aw;have bc:wr.heap.size<(wr.alloc (.cells #[.int .i64 D,.bool d.null,.int .i64 d.n,.string d.s,.bool f.null,.int .i64 f.n,.string f.s] 61)).heap.size:=by simp
    have ba:wr.heap.size≠c:=λg=>by have:=(dB.Ge A.o).lt B;omega
    clear Q S T U V W Z aa H a1 A aw;generalize wr.alloc (.cells #[.int .i64 D,.bool d.null,.int .i64 d.n,.string d.s,.bool f.null,.int .i64 f.n,.string f.s] 61)=bs at*;generalize wr.heap.size=aq at*;have bb:=L.o.size
    go_upto_region 6 with(go_at_call 66;refine(E _).mono ?_;rintro e y ⟨rfl,i⟩;have ae:=af (L.o.trans (i.mono bb));have q:=af (aK p.o i);have ab:=(i.cell (p:=⟨aq,6,K⟩) bc).trans a2;have u3:aM y c (a*7+1+2) (.string d.s):=Eh q.o N.o;have a8:y.frozen? ⟨c,a*7+1+2,K⟩=T7:=Ek q.o;have bv:=i.size;clear i E)
    have J:X (aP w (y.setCell ⟨c,a*7+1+2,K⟩ (.string d.s))):=ae.o.setCell (p:=⟨c,a*7+1+2,K⟩) (M1 q.o) _;have ap:=af (rK q.o N.o);have bo:(y.setCell ⟨c,a*7+1+2,K⟩ (.string d.s)).cell? ⟨aq,6,K⟩=I (.string f.s):=by
     unfold Us at ab ⊢;rw[Uu _ _ _ _ ba];exact ab
    clear u3 a8 ab ae q L p bd be bi bj bl bm a2;generalize y.setCell ⟨c,a*7+1+2,K⟩ (.string d.s)=bt at*
    go_upto_region 7 with(go_at_call 66;refine(G _).mono ?_;rintro e ad ⟨rfl,i⟩;have al:=af (J.o.trans (i.mono J.o.size));have s:=af (aK ap.o i);have u6:aM ad c (a*7+4+2) (.string f.s):=Eh s.o M.o;have a9:ad.frozen? ⟨c,a*7+4+2,K⟩=T7:=Ek s.o;clear i G)
    have a6:X (aP w (ad.setCell ⟨c,a*7+4+2,K⟩ (.string f.s))):=al.o.setCell (p:=⟨c,a*7+4+2,K⟩) (M1 s.o) _;have a7:=af (rK s.o M.o);clear u6 a9 bo al s J ap;go_wp2
    go_roundw
    case rel=>exact⟨a+1,by omega,by go_num,a7.o,a6.o⟩
    case measure=>simp[US];omega
   ·clear m C;go_wp2;go_ret;exact⟨H.o,.inr ⟨B,_,rfl,A.o⟩⟩
 ·have R:l.length=0:=by omega
  have am:bH 107 #[.slice t 0 cap] w λe w'=>aP w w'/\∃co,e= .returned (.slice co 0 0):=by
   rw[R] at o;exact o.mono λe w' g=>⟨g.1,(g.2.resolve_right λg=>absurd g.1 (by omega)).2⟩
  rw[R];clear o R B O av;go_enter ay.func71,Tryz.ntmps71
  go_wp2_with (go_at_call 107;refine am.mono ?_;rintro e a3 ⟨x,co,rfl⟩)
  have z:=af x;clear x am
  go_loopw [10] (λn wr=>n= .int .i64 0/\wr=a3) (λn _=>0)
  case atStart=>exact⟨rfl,rfl⟩
  case round=>
   obtain⟨rfl,rfl⟩:=hrel;go_wp2;go_ret;exact⟨z.o,.inl ⟨trivial,_,rfl⟩⟩
def Sf (w:F)(s:ByteArray)(e:WS)(w':F):Prop:=
 aP w w'/\((∃(b:List (bL×Int)) (a:List Bd) (c:List (Bd×U)) (d f h:U),e= .returned (.tuple #[.agg #[d,f,h],.bool Z])/\fZ s b a/\c.map Ux=a/\cO w' w.heap.size b c d f h/\(∀i g,fZ s i g->i=b/\g=a))\/
  (e= .returned (.tuple #[.agg #[aO,aO,aO],.bool T7])/\∀b a,¬fZ s b a))
def uA(s:ByteArray)(w:F)(ba:s.size<=Uq):
 bH 44 #[.string s] w (Sf w s):=by
 have G:X ((w.alloc (.cells #[aO,aO,aO] 105)).heap[w.heap.size]? =I (.cells #[aO,aO,aO] 105 (0,0))):=bk w _;have P:X (aP w (w.alloc (.cells #[aO,aO,aO] 105))):=(Up _ _).alloc (T8 _) _;have bc:∀(W:Fn) (first R:Array U) (w:F),(Instr.makeFunc W first R).run (aB T4) w= .ok (.func W first R) w:=λ_ _ _ _=>rfl;go_enter ay.func44,Tryz.ntmps44
 go_wp2_with fail
 refine(OJ s _ ba).mono ?_;rintro a6 b ⟨a9,M⟩;have q:X (b.heap[w.heap.size]? =I (.cells #[aO,aO,aO] 105 (0,0))):=(M.block _ (Ue G.o)).trans G.o;have B:X (aP w b):=P.o.trans (M.mono (by simp));have al:w.heap.size<b.heap.size:=Ue q.o;clear G P M;rcases a9 with⟨d,O,rfl,hcut⟩|⟨rfl,m⟩;rotate_left
 ·have E:X (∀a c,¬fZ s a c):=λa c h=>m _ _ h.2;have j:(b.alloc (.cells #[.string ⟨#[]⟩] 9)).heap[w.heap.size]? =I (.cells #[aO,aO,aO] 105 (0,0)):=by rw[UN _ _ _ al];exact q.o
  have i:aP w (b.alloc (.cells #[.string ⟨#[]⟩] 9)):=B.o.alloc (by omega) _;clear m
  go_upto_region 2 with fail
  generalize b.alloc (.cells #[.string ⟨#[]⟩] 9)=H at*;have ar:X (aP w (gT H w.heap.size aO aO aO)):=mN _ _ _ i (T8 _) (T8 _);obtain⟨⟨ao,ap,aq⟩,S,T,V⟩:=fK j;obtain⟨⟨n,o,p⟩,-⟩:=fK (qQ aO aO aO j);clear j i;unfold gT at*;go_wp2;simp[VR,UX,Tryz.results44,go_sem,n,o,p];exact⟨ar.o,.inr ⟨rfl,E.o⟩⟩
 ·have D:=af hcut;have ae:=hcut.len;have bb:=hcut.1;rw[aj,aj] at ae;have j:(b.alloc (.cells #[.string d] 9)).heap[w.heap.size]? =I (.cells #[aO,aO,aO] 105 (0,0)):=by rw[UN _ _ _ al];exact q.o
  have i:aP w (b.alloc (.cells #[.string d] 9)):=B.o.alloc (by omega) _;have Y:(b.alloc (.cells #[.string d] 9)).heap[b.heap.size]? =I (.cells #[.string d] 9 (0,0)):=bk b _;have N:w.heap.size<=(b.alloc (.cells #[.string d] 9)).heap.size:=i.size;have a8:O.size<=65536:=by omega
  have a7:d.size<=65536:=by omega
  clear hcut ae bb
  go_upto_region 2 with fail
  generalize b.alloc (.cells #[.string d] 9)=H at*;generalize b.heap.size=a5 at*;have r:=af j;have Q:=af i;have av:=af Y;clear j i Y q B
  go_wp2_with fail
  refine(Hj a5 O d H a8 a7 av.o).mono ?_;rintro a6 f ⟨k,⟨a,c,g,a2,a3,a4,rfl,ad,Z,aa,ab,hF,am⟩|⟨rfl,m⟩⟩
  ·have e:f.heap[w.heap.size]? =I (.cells #[aO,aO,aO] 105 (0,0)):=(k.block _ (Ue r.o)).trans r.o;have l:aP w f:=Q.o.trans (k.mono N);have L:cO f w.heap.size a g a2 a3 a4:=hF.base N;obtain⟨t,ac,v,u,z,y,rfl,rfl,rfl⟩:=L.Ib;have aw:X (cO (gT f w.heap.size (.slice t a.length ac) (.slice v a.length u) (.slice z g.length y)) w.heap.size a g (.slice t a.length ac) (.slice v a.length u) (.slice z g.length y)):=L.gT _ _ _ e;have C:X (aP w (gT f w.heap.size (.slice t a.length ac) (.slice v a.length u) (.slice z g.length y))):=mN _ _ _ l (T8 _) (T8 _);have az:X (fZ s a c):=⟨ad,by rw[<-aa,<-ab];exact D.o⟩;have a1:X (∀A x,fZ s A x->A=a/\x=c):=λA x h=>by
    obtain⟨J,K⟩:=D.o.IM h.2;exact am A x h.1 K J
   have a0:=af Z;obtain⟨⟨ao,ap,aq⟩,S,T,V⟩:=fK e;obtain⟨⟨n,o,p⟩,-⟩:=fK (qQ (.slice t a.length ac) (.slice v a.length u) (.slice z g.length y) e);clear e l L hF ad aa ab am k Z;unfold gT at*;go_wp2;simp[VR,UX,Tryz.results44,go_sem,n,o,p];exact⟨C.o,.inl ⟨a,c,g,_,_,_,rfl,az.o,a0.o,aw.o,a1.o⟩⟩
  ·have e:f.heap[w.heap.size]? =I (.cells #[aO,aO,aO] 105 (0,0)):=(k.block _ (Ue r.o)).trans r.o;have l:aP w f:=Q.o.trans (k.mono N);have C:X (aP w (gT f w.heap.size aO aO aO)):=mN _ _ _ l (T8 _) (T8 _);have E:X (∀a c,¬fZ s a c):=λa c h=>by
    obtain⟨J,K⟩:=D.o.IM h.2;exact m a c h.1 K J
   obtain⟨⟨ao,ap,aq⟩,S,T,V⟩:=fK e;obtain⟨⟨n,o,p⟩,-⟩:=fK (qQ aO aO aO e);clear e l m k;unfold gT at*;go_wp2;simp[VR,UX,Tryz.results44,go_sem,n,o,p];exact⟨C.o,.inr ⟨rfl,E.o⟩⟩
def CB(s:ByteArray)(w:F)(ap:s.size<=Uq):
 bH 21 #[.string s] w λe w'=>aP w w'/\∃(cs:List bL) (n m:Nat) (C:U),e= .returned (.tuple #[C,.int .i64 (n:Int),.int .i64 (m:Int)])/\Sa s cs n m/\w'.ownsRow w.heap.size 63 2 C cs.length (eH cs)/\(m≠0->C=aO):=by
 go_enter ay.func21,Tryz.ntmps21
 go_wp2_with fail
 refine(uA s _ ap).mono ?_;rintro e k ⟨p,⟨a,x,b,ar,o,av,rfl,v,y,hF,H⟩|⟨rfl,T⟩⟩;rotate_left
 ·have r:X (aP w (k.alloc (.cells #[aO,aO,aO] 105))):=p.alloc p.size _;have ae:=af T;clear p T;go_wp2;simp[VR,UX,Tryz.results21,go_sem];exact⟨r.o,[],0,3,_,⟨rfl,rfl,rfl⟩,.inr ⟨ae.o,rfl,rfl,rfl⟩,Vp _ _ _ _,λ_=>rfl⟩
 ·obtain⟨c,ac,d,f,h,g,rfl,rfl,rfl⟩:=hF.Ib;have r:X (aP w (k.alloc (.cells #[.slice c a.length ac,.slice d a.length f,.slice h b.length g] 105))):=p.alloc p.size _;have S:=bk k (.cells #[.slice c a.length ac,.slice d a.length f,.slice h b.length g] 105);have A:X (cO (k.alloc (.cells #[.slice c a.length ac,.slice d a.length f,.slice h b.length g] 105)) w.heap.size a b (.slice c a.length ac) (.slice d a.length f) (.slice h b.length g)):=hF.below ((Up _ _).alloc (T8 _) _);obtain⟨⟨I,J,L⟩,-⟩:=fK S;have Z:X (Sa s (a.map Ux) (eV x) 0):=.inl ⟨a,x,v,rfl,rfl,rfl,λV Q l=>⟨(H V Q l).1,by rw[(H V Q l).2]⟩⟩;have ad:=af y;have al:=tB x (λo E=>(v.1.b9 o E).lo);have am:=v.1.rows;have ao:b.length<=65536:=by rw[<-UG (f:=Ux),y];omega
  have aq:∀o∈b.map Ux,o.rows<=100:=by rw[y];exact λo E=>(v.1.b9 o E).hi
  clear p hF v H S al am y
  go_upto_region 4 with fail
  have P:X (bH 45 #[.agg #[.slice c a.length ac,.slice d a.length f,.slice h b.length g]] (k.alloc (.cells #[.slice c a.length ac,.slice d a.length f,.slice h b.length g] 105)).drew λe w'=>e= .returned (.int .i64 (eV (b.map Ux):Int))/\Below (k.alloc (.cells #[.slice c a.length ac,.slice d a.length f,.slice h b.length g] 105)).drew.heap.size (k.alloc (.cells #[.slice c a.length ac,.slice d a.length f,.slice h b.length g] 105)).drew w'):=AR c d _ _ _ _ w.heap.size _ b _ (A.o.b9.below ((Up _ _).drew)) ao aq;have ab:k.heap.size<(k.alloc (.cells #[.slice c a.length ac,.slice d a.length f,.slice h b.length g] 105)).heap.size:=by simp
  generalize k.alloc (.cells #[.slice c a.length ac,.slice d a.length f,.slice h b.length g] 105)=t at*;generalize k.heap.size=i at*;have G:i<t.heap.size:=ab;refine Un.open_ (λj=>aM j i 0 (.slice c a.length ac)/\aM j i 1 (.slice d a.length f)/\aM j i 2 (.slice h b.length g)) 6 (λ_ _ _ _ _ l=>l) λaw=>?_;have D:(λj=>aM j i 0 (.slice c a.length ac)/\aM j i 1 (.slice d a.length f)/\aM j i 2 (.slice h b.length g)) t.drew:=⟨I,J,L⟩;refine Un.pk 0 ?_
  try simp only[UW,Uc,Ul,Uk]
  refine Un.ld [6] 1 ?_
  try simp only[UW,Uc,Ul,Uk]
  refine Un.ld [6] 2 ?_
  try simp only[UW,Uc,Ul,Uk]
  refine Un.on 3 λB u=>?_;go_simp;go_at_call 45;refine P.o.mono ?_;rintro e z ⟨rfl,R⟩;have q:aP t z:=(Up t.heap.size t).drew.trans R;have W:X (aP w z):=r.o.trans (q.mono r.o.size);have aa:X (cO z w.heap.size a b (.slice c a.length ac) (.slice d a.length f) (.slice h b.length g)):=A.o.below q;have M:=(q.cell (p:=⟨i,0,K⟩) G).trans I;have N:=(q.cell (p:=⟨i,1,K⟩) G).trans J;have O:=(q.cell (p:=⟨i,2,K⟩) G).trans L;refine u.o _ _ (λ_=>⟨M,N,O⟩) ?_;clear u B D R q P r A I J L
  try simp only[UW,Uc,Ul,Uk]
  have D:(λj=>aM j i 0 (.slice c a.length ac)/\aM j i 1 (.slice d a.length f)/\aM j i 2 (.slice h b.length g)) z:=⟨M,N,O⟩;refine Un.pk 4 ?_
  try simp only[UW,Uc,Ul,Uk]
  refine Un.pk 5 ?_
  try simp only[UW,Uc,Ul,Uk]
  refine Un.on 6 λB u=>?_;go_simp;refine u.o _ _ (λl=>absurd l (by decide)) ?_;clear u B
  try simp only[UW,Uc,Ul,Uk]
  clear D M N O;refine Un.done (by kernel_rfl) ?_ _
  try simp only[UW,Uc,Ul,Uk]
  go_wp2;simp[VR,UX,Tryz.results21,go_sem];exact⟨W.o,a.map Ux,eV x,0,_,⟨rfl,by rw[ad.o],rfl⟩,Z.o,by rw[UG];exact aa.o.ah,λl=>absurd Y l⟩
end Ec
namespace Cc
open Go Go.Conc
open Go.RowKit (Below)
open Ec
open Pk
open Pm
def lS{w:F}{base:Nat}{e:Uh}{j n:Nat}{v:U}{f:List U}(h:w.ownsRow base e j v n f)(r:0<n):∃g cap,v= .slice (I ⟨g,0,K⟩) n cap/\base<=g/\g<w.heap.size/\∀o u,f[o]? =I u->aM w g o u:=by
 obtain⟨q,⟨b,c⟩|⟨g,cap,k,b,c,d,l,m,p,i⟩⟩:=h
 ·omega
 ·refine⟨g,cap,b,c,(Ub.1 d).1,λo u a=>?_⟩;rw[<-i,V8] at a
  split at a
  ·unfold Us;simp only[d];simpa using a
  ·cases a
def zN (kb eb c:Nat)(cS:Nat->Nat)(cb rb n d e:Nat):Nat->Prop:=λa=>a=kb\/a=eb\/(0<n/\a=c)\/(∃b,b<n/\a=cS b)\/(0<d/\a=cb)\/(0<e/\a=rb)
def FM.kept{W W':F}{l:List (bL×Int)}{bs:List Bd}{ah:List Int}{rs:List cF}{kb eb:Nat}{r:Option UJ}{p:Nat}{cS ni:Nat->Nat}{co:Option UJ}{cb bE:Nat}{ro:Option UJ}{rb bh:Nat}(h:FM W l bs ah rs kb eb r p cS ni co cb bE ro rb bh)(m:W.heap.size<=W'.heap.size)(w:∀b,zN kb eb p cS cb rb bs.length ah.length rs.length b->m7 W' W b):FM W' l bs ah rs kb eb r p cS ni co cb bE ro rb bh:=by
 have k:∀b,zN kb eb p cS cb rb bs.length ah.length rs.length b->∀o v,aM W b o v->aM W' b o v:=λb i o v n=>by
  unfold Us at n ⊢;cases q:W.heap[b]? with
  |none=>rw[q] at n;cases n
  |some j=>
   rw[q] at n;cases j<;>first|(cases n;done)|skip
   rw[w b i _ q trivial];exact n
 have s:∀d b,bs[d]? =I b->d<bs.length:=λd b h=>(UA.1 h).1;have f:∀{o v},0<rs.length->aM W rb o v->aM W' rb o v:=λg=>k rb (.inr (.inr (.inr (.inr (.inr ⟨g,rfl⟩))))) _ _;have e:=h.nr;refine⟨λc j a=>k kb (.inl Y) _ _ (h.k c j a),λc j a=>k eb (.inr (.inl Y)) _ _ (h.e c j a),λd b i=>?_,λd b i c j a x y u=>k (cS d) (.inr (.inr (.inr (.inl ⟨d,s d b i,rfl⟩)))) _ _ (h.c d b i c j a x y u),Ud h.lk m,Ud h.le m,h.da,λg=>Ud (h.ld g) m,λd t=>Ud (h.lc d t) m,h.ca,λg=>Ud (h.cl g) m,λc a=>k cb (.inr (.inr (.inr (.inr (.inl ⟨by omega,rfl⟩))))) _ _ (h.cc c a),
  ⟨e.addr,λg=>Ud (e.lt g) m,λc a=>f (by omega) (e.c0 c a),λc a=>f (by omega) (e.c1 c a),λc a=>f (by omega) (e.c2 c a),λc a=>f (by omega) (e.c3 c a),λc a=>f (by omega) (e.c4 c a),λc a=>f (by omega) (e.c5 c a),λc a=>f (by omega) (e.c6 c a)⟩⟩
 intro c v a;exact k p (.inr (.inr (.inl ⟨by have:=s d b i;omega,rfl⟩))) _ _ (h.d d b i c v a)
def D3{W' W:F}{b:Nat}(h:W'.heap[b]? =W.heap[b]?):m7 W' W b:=λc a _=>h.trans a
def MI{W' w':F}{b:Nat}(h:Un W' w'):m7 w' W' b:=λe d c=>h.o d λa=>(eA (aB T4)).Ri (a▸c)
def Lh (W:F)(base:Nat)(a:U)(ah:List Int):Prop:=(ah.length=0/\∃b,a= .slice b 0 0)\/(0<ah.length/\W.ownsRow base 3 1 a ah.length (bz ah))
def Qo (W:F)(base:Nat)(a:U)(rs:List cF):Prop:=(rs.length=0/\∃b,a= .slice b 0 0)\/(0<rs.length/\W.ownsRow base 61 7 a rs.length (dL rs))
def Lh.below{W W':F}{base:Nat}{a:U}{ah:List Int}(h:Lh W base a ah)(b:aP W W'):Lh W' base a ah:=h.imp (λh=>h) λh=>⟨h.1,aK h.2 b⟩
def Lh.at_{W:F}{base:Nat}{c:U}{ah:List Int}(h:Lh W base c ah):∃co cb cap,c= .slice co ah.length cap/\(0<ah.length->co=I ⟨cb,0,K⟩/\base<=cb/\cb<W.heap.size)/\∀j,j<ah.length->aM W cb (0+j) (.int .i64 (ah.getD j 0)):=by
 rcases h with⟨a,co,rfl⟩|⟨a,h⟩
 ·exact⟨co,0,0,by rw[a],λh=>absurd h (by omega),λj b=>absurd b (by omega)⟩
 ·obtain⟨d,cap,rfl,e,f,g⟩:=lS h a;refine⟨_,d,cap,rfl,λ_=>⟨rfl,e,f⟩,λj b=>?_⟩;rw[UT];refine g j _ ?_;simp[bz,Ui,Um b]
def Qo.at_{W:F}{base:Nat}{d:U}{rs:List cF}(h:Qo W base d rs):∃ro rb cap,d= .slice ro rs.length cap/\(0<rs.length->base<=rb/\rb<W.heap.size)/\dB W ro rb 0 rs:=by
 rcases h with⟨b,ro,rfl⟩|⟨b,h⟩
 ·refine⟨ro,0,0,by rw[b],λh=>absurd h (by omega),?_⟩;have e:=Vh b;subst e;exact⟨λh=>absurd h (by simp),λh=>absurd h (by simp),λa h=>absurd h (by simp),λa h=>absurd h (by simp),λa h=>absurd h (by simp),λa h=>absurd h (by simp),λa h=>absurd h (by simp),λa h=>absurd h (by simp),λa h=>absurd h (by simp)⟩
 ·obtain⟨f,cap,rfl,g,c,i⟩:=lS h b;exact⟨_,f,cap,rfl,λ_=>⟨g,c⟩,dB.Ea c λk v j=>by rw[UT];exact i k v j⟩
def Dm:U->Nat
 | .slice (I a) _ _=>a.block
 |_=>0
def Qx:U->Nat
 | .slice _ _ a=>a
 |_=>0
def Qz{W:F}{base:Nat}{l:List (bL×Int)}{bs:List Bd}{L:List (Bd×U)}{a b c G Q:U}{ah:List Int}{rs:List cF}(N:xe l bs)(hL:L.map Ux=bs)(h:cO W base l L a b c)(hc:Lh W base G ah)(ad:Qo W base Q rs):
 ∃(kb ck eb ce:Nat) (p:Option UJ) (j dh:Nat) (cS ni:Nat->Nat) (co:Option UJ) (cb aJ:Nat) (ro:Option UJ) (rb aN:Nat),a= .slice (I ⟨kb,0,K⟩) l.length ck/\b= .slice (I ⟨eb,0,K⟩) l.length ce/\c= .slice p bs.length dh/\G= .slice co ah.length aJ/\Q= .slice ro rs.length aN/\FM W l bs ah rs kb eb p j cS ni co cb 0 ro rb 0/\∀x,zN kb eb j cS cb rb bs.length ah.length rs.length x->base<=x/\x<W.heap.size:=by
 have B:0<l.length:=by
  have:=N.pl.1.1;simp at this;omega
 have A:L.length=bs.length:=by rw[<-hL,UG]
 obtain⟨kb,ck,rfl,am,P,ao⟩:=lS h.ah B;obtain⟨eb,ce,rfl,X,H,Y⟩:=lS h.eI B;obtain⟨co,cb,aJ,rfl,w,S⟩:=hc.at_;obtain⟨ro,rb,aN,rfl,ar,av⟩:=ad.at_;have Z:∃p j dh,c= .slice p bs.length dh/\(0<bs.length->p=I ⟨j,0,K⟩/\base<=j/\j<W.heap.size)/\∀m g,(nH L)[m]? =I g->aM W j m g:=by
  rcases Nat.eq_zero_or_pos L.length with e|e
  ·obtain⟨R,n,z⟩:=bC h.b9.own;have V:=Vh e;refine⟨R,0,n,by rw[<-A];exact z,λh=>absurd h (by omega),λm g O=>?_⟩;rw[V] at O;simp[nH] at O
  ·obtain⟨k,n,z,s,y,T⟩:=lS h.b9.own e;exact⟨_,k,n,by rw[<-A];exact z,λ_=>⟨rfl,s,y⟩,T⟩
 obtain⟨p,j,dh,rfl,s,y⟩:=Z;have M:∀d b,bs[d]? =I b->∃(f:d<L.length),L[d].1=b/\∃k n,L[d].2= .slice (I ⟨k,0,K⟩) l.length n/\base<=k/\k<W.heap.size/\∀m g,(ej b.chunks)[m]? =I g->aM W k m g:=λd b i=>by
  have f:d<L.length:=by rw[A];exact(UA.1 i).1
  have J:L[d].1=b:=by
   have:(L.map Ux)[d]? =I b:=by rw[hL];exact i
   rw[List.getElem?_map,Um f] at this;simpa using this
  have ab:b.chunks.length=l.length:=by
   have:=(N.b9 b (VD i)).len;simpa using this
  have:=h.b9.each L[d] (Uj f);rw[J,ab] at this;obtain⟨k,n,r,C,D,E⟩:=lS this B;exact⟨f,J,k,n,r,C,D,E⟩
 have t:∀d b,bs[d]? =I b->(L.getD d (⟨0,[]⟩,.bool T7)).2= .slice (I ⟨Dm (L.getD d (⟨0,[]⟩,.bool T7)).2,0,K⟩) l.length (Qx (L.getD d (⟨0,[]⟩,.bool T7)).2)/\base<=Dm (L.getD d (⟨0,[]⟩,.bool T7)).2/\Dm (L.getD d (⟨0,[]⟩,.bool T7)).2<W.heap.size/\∀m g,(ej b.chunks)[m]? =I g->W.cell? ⟨Dm (L.getD d (⟨0,[]⟩,.bool T7)).2,m,K⟩=I g:=λd b i=>by
  obtain⟨f,_,k,n,r,C,D,E⟩:=M d b i;have:L.getD d (⟨0,[]⟩,.bool T7)=L[d]:=by rw[Ui,Um f];rfl
  rw[this,r];exact⟨rfl,C,D,E⟩
 refine⟨kb,ck,eb,ce,p,j,dh,λd=>Dm (L.getD d (⟨0,[]⟩,.bool T7)).2,λd=>Qx (L.getD d (⟨0,[]⟩,.bool T7)).2,co,cb,aJ,ro,rb,aN,rfl,rfl,rfl,rfl,rfl,⟨λq x o=>?_,λq x o=>?_,λd b i=>?_,λd b i q x o aw g ae=>?_,P,H,λe=>(s e).1,λe=>(s e).2.2,λd f=>(t d _ (Um f)).2.2.1,λe=>(w e).1,λe=>(w e).2.2,S,av⟩,λx al=>?_⟩
 ·obtain⟨u,rfl⟩:=UA.1 o;rw[UT];have:=(AM (l.map Ux) q (by simpa using u)).2;simp only[Xr] at this;exact ao _ _ this
 ·obtain⟨u,rfl⟩:=UA.1 o;rw[UT,Nat.mul_one];exact Y _ _ (by simp[bz,Um u])
 ·obtain⟨f,ap,-⟩:=M d b i;have r:=(t d b i).1;have aq:L.getD d (⟨0,[]⟩,.bool T7)=L[d]:=by rw[Ui,Um f];rfl
  intro q v o;have aa:(n6 L[d])[q]? =I v:=by
   unfold n6;rw[ap];rw[aq] at r o;rw[r];exact o
  have:=y _ _ (lQ n6 2 qD L d f q v aa);rw[UT];exact this
 ·obtain⟨u,rfl⟩:=UA.1 o;exact(t d b i).2.2.2 _ _ (lQ dI 8 uy b.chunks q u aw g ae)
 ·rcases al with rfl|rfl|⟨e,rfl⟩|⟨d,f,rfl⟩|⟨e,rfl⟩|⟨e,rfl⟩
  ·exact⟨am,P⟩
  ·exact⟨X,H⟩
  ·exact(s e).2
  ·exact⟨(t d _ (Um f)).2.1,(t d _ (Um f)).2.2.1⟩
  ·exact(w e).2
  ·exact ar e
end Cc
namespace Cc
open Go Go.Conc
open Go.RowKit (Below)
open Ec
open Pk (bz)
abbrev Fp:=Option (List (bL×Int)×List Bd)
def rT (s:ByteArray):Fp->Prop
 |none=>∀b a,¬fZ s b a
 |some (b,a)=>fZ s b a/\∀d c,fZ s d c->d=b/\c=a
def wI (n:Nat)(ah:List Int)(rs:List cF):Bool:=ah.all (cX n)&&rs.all λa=>cX n a.col
def kD (l:List (bL×Int))(k:Int):Int:=(l.getD k.toNat (⟨⟨#[]⟩,0⟩,0)).1.kind
def Cv (l:List (bL×Int))(rs:List cF):Bool:=rs.all λa=>iV (kD l a.col) a
def jz (b:Fp)(ah:List Int)(rs:List cF):Nat:=match b with
 |none=>3
 |some (a,_)=>if wI a.length ah rs then(if Cv a rs then 0 else 5) else 4
def oT{n:Nat}{k:Int}:cX n k=Z↔0<=k/\k<(n:Int):=by
 unfold cX;simp
def sK{n:Nat}{ah:List Int}{rs:List cF}:wI n ah rs=Z↔(∀k∈ah,0<=k/\k<(n:Int))/\∀r∈rs,0<=r.col/\r.col<(n:Int):=by
 unfold wI;rw[Uw,Uz,Uz];simp only[oT]
def I1{a:Fp}{ah:List Int}{rs:List cF}(h:jz a ah rs=0):∃l bs,a=I (l,bs)/\wI l.length ah rs=Z/\Cv l rs=Z:=by
 cases a with
 |none=>simp[jz] at h
 |some d=>
  obtain⟨l,bs⟩:=d;simp only[jz] at h
  split at h
  ·rename_i b
   split at h
   ·rename_i c;exact⟨l,bs,rfl,b,c⟩
   ·cases h
  ·cases h
def xq{l:List (bL×Int)}(h:nT l){k:Int}(e:cX l.length k=Z):kD l k=1\/kD l k=2\/kD l k=3:=by
 obtain⟨d,f⟩:=oT.1 e;obtain⟨b,rfl⟩:=WB d;have a:b<l.length:=by omega
 have c:=(h.1.2.2 b (by simpa using a)).1;simp only[Xr,n5,fX,Uw,decide_eq_true_eq] at c;unfold kD;rw[Ui];simp[a];omega
def yG{v:aE}{k:Int}(b:k=1\/k=2\/k=3)(h:fQ v k=Z):v.s.size<=32:=by
 have a:∀s:ByteArray,(s.toList==[])=Z->s.size<=32:=λs h=>by
  have:s.toList=[]:=by simpa using h
  rw[kP this];decide
 unfold fQ at h
 split at h
 ·rw[Uw] at h;exact a _ h.2
 ·split at h
  ·exact a _ h
  ·split at h
   ·rw[Uw] at h;exact a _ h.2
   ·rw[Uw,decide_eq_true_eq] at h;have:=h.2;omega
end Cc
namespace Ec
open Go.RowKit Pk Pm
open Cc (Lh Qo Fp rT wI kD Cv jz oT sK xq yG lS)
def wN (w:F)(g:Nat)(a b c d e f:U):F:=(((((w.setCell ⟨g,0,K⟩ a).setCell ⟨g,1,K⟩ b).setCell ⟨g,2,K⟩ c).setCell ⟨g,3,K⟩ d).setCell ⟨g,4,K⟩ e).setCell ⟨g,5,K⟩ f
def xx{w:F}{g:Nat}{a b c d e f:U}{t:Uh}(i j k l m n:U)(h:w.heap[g]? =I (.cells #[a,b,c,d,e,f] t (0,0))):(wN w g i j k l m n).heap[g]? =I (.cells #[i,j,k,l,m,n] t (0,0)):=by
 have o:=Ur w g 0 _ _ i h;have p:=Ur _ g 1 _ _ j o;have q:=Ur _ g 2 _ _ k p;have r:=Ur _ g 3 _ _ l q;have s:=Ur _ g 4 _ _ m r;exact Ur _ g 5 _ _ n s
def oC{w w0:F}{g n:Nat}(c d e f i j:U)(h:Below n w0 w)(b:n<=w0.heap.size)(a:n<=g):Below n w0 (wN w g c d e f i j):=
 bT (bT (bT (bT (bT (bT h b a _ _) b a _ _) b a _ _) b a _ _) b a _ _) b a _ _
def ql{W:F}{g:Nat}{a b c d e f:U}{t:Uh}(h:W.heap[g]? =I (.cells #[a,b,c,d,e,f] t (0,0))):W.frozen? ⟨g,0,K⟩=T7/\W.frozen? ⟨g,1,K⟩=T7/\W.frozen? ⟨g,2,K⟩=T7/\W.frozen? ⟨g,3,K⟩=T7/\W.frozen? ⟨g,4,K⟩=T7/\W.frozen? ⟨g,5,K⟩=T7:=by
 unfold UQ;simp[h]
def yx(n:Nat)(ah:List Int)(rs:List cF)(d:Option UJ)(a:Nat)(b c:U)(co:Option UJ)(cb bE aJ:Nat)(ro:Option UJ)(rb bh aN:Nat)(sk:Bool)(w:F)(l:ah.length<=Uq)(m:rs.length<=Uq)
 (h:0<ah.length->co=I ⟨cb,bE,K⟩) (k:0<ah.length->cb<w.heap.size) (i:∀j,j<ah.length->aM w cb (bE+j) (.int .i64 (ah.getD j 0))) (o:dB w ro rb bh rs):
 bH 68 #[.agg #[.slice d n a,b,c,.slice co ah.length aJ,.slice ro rs.length aN,.bool sk]] w λe w'=>e= .returned (.bool (wI n ah rs))/\aP w w':=by
 refine(yw n ah rs d a b c co cb bE aJ ro rb bh aN sk w l m h k i o).mono ?_;rintro e w' ⟨p,rfl,f,g⟩;refine⟨j5 ?_,g⟩;rw[XF,f];unfold wI;rw[Uw,Uz,Uz,List.forall_mem_iff_forall_getElem,List.forall_mem_iff_forall_getElem]
def Ai(l:List (bL×Int))(rs:List cF)(kb g:Nat)(b c d:U)(ro:Option UJ)(rb bh aN:Nat)(sk:Bool)(w:F)(t:rs.length<=Uq)(i:nT l)(a:dB w ro rb bh rs)(k:∀r∈rs,cX l.length r.col=Z)(q:kb<w.heap.size)(p:∀j x,l[j]? =I x->aM w kb (j*2+1) (.int .i64 x.1.kind)):
 bH 69 #[.agg #[.slice (I ⟨kb,0,K⟩) l.length g,b,c,d,.slice ro rs.length aN,.bool sk]] w λe w'=>e= .returned (.bool (Cv l rs))/\aP w w':=by
 have s:l.length<=Uq:=by have:=i.each.2;unfold Uq;omega
 refine(Ah l.length rs (kD l) kb g b c d ro rb bh aN sk w t s a λr a=>?_).mono ?_
 ·obtain⟨n,v⟩:=oT.1 (k r a);obtain⟨j,h⟩:=WB n;have f:j<l.length:=by omega
  refine⟨j,h,f,q,?_,xq i (k r a)⟩;have:=p j _ (Um f);rw[this];unfold kD;rw[h,Ui];simp[f]
 ·rintro e w' ⟨u,rfl,m,o⟩;refine⟨j5 ?_,o⟩;rw[XF,m];unfold Cv;rw[Uz,List.forall_mem_iff_forall_getElem]
def dB.cells{w:F}{f:Option UJ}{b off:Nat}{l:List cF}(h:dB w f b off l):∀j u,(dL l)[j]? =I u->aM w b (off+j) u:=by
 intro j u e;have o:j<l.length*7:=by rw[<-rI];exact(UA.1 e).1
 have c:j/7<l.length:=by omega
 have g:j=j/7*7+j%7:=by omega
 have p:j%7<7:=Nat.mod_lt _ (by decide);have n:(dL l)[j/7*7+j%7]? =I u:=by rw[<-g];exact e
 have d:∀a v,j%7=a->(sj l[j/7])[a]? =I v->u=v:=λa v k m=>by
  have:=oa l (j/7) c a v m;rw[<-k,n] at this;exact Yk this
 have i:off+j=off+j/7*7+j%7:=by omega
 rw[i];generalize j%7=a at*;have:a=0\/a=1\/a=2\/a=3\/a=4\/a=5\/a=6:=by omega
 rcases this with rfl|rfl|rfl|rfl|rfl|rfl|rfl
 ·rw[d 0 _ Y Y];exact h.c0 _ c
 ·rw[d 1 _ Y Y];exact h.c1 _ c
 ·rw[d 2 _ Y Y];exact h.c2 _ c
 ·rw[d 3 _ Y Y];exact h.c3 _ c
 ·rw[d 4 _ Y Y];exact h.c4 _ c
 ·rw[d 5 _ Y Y];exact h.c5 _ c
 ·rw[d 6 _ Y Y];exact h.c6 _ c
structure De(W:F)(base:Nat)(l:List (bL×Int))(L:List (Bd×U))(a b c cv rv:U)(ah:List Int)(rs:List cF):Prop where
 f:cO W base l L a b c
 c:Lh W base cv ah
 r:Qo W base rv rs
def De.put{W:F}{base:Nat}{l:List (bL×Int)}{L:List (Bd×U)}{a b c e f:U}{ah:List Int}{rs:List cF}(h:De W base l L a b c e f ah rs){g:Nat}{cs:Array U}(d:W.heap[g]? =I (.cells cs 115 (0,0)))(o:Nat)(u:U):De (W.setCell ⟨g,o,K⟩ u) base l L a b c e f ah rs:=by
 refine⟨⟨h.f.ah.kept (aQ W g o u) (.inr (bw h.f.ah d (by decide)).symm),h.f.eI.kept (aQ W g o u) (.inr (bw h.f.eI d (by decide)).symm),h.f.b9.put d (by decide) (by decide) o u⟩,h.c.imp (λh=>h) λh=>⟨h.1,h.2.kept (aQ W g o u) (.inr (bw h.2 d (by decide)).symm)⟩,h.r.imp (λh=>h) λh=>⟨h.1,h.2.kept (aQ W g o u) (.inr (bw h.2 d (by decide)).symm)⟩⟩
def De.wN{W:F}{base:Nat}{l:List (bL×Int)}{L:List (Bd×U)}{a b c d m:U}{ah:List Int}{rs:List cF}(h:De W base l L a b c d m ah rs){g:Nat}{t u v w x y:U}(n o p q r z:U)(k:W.heap[g]? =I (.cells #[t,u,v,w,x,y] 115 (0,0))):De (wN W g n o p q r z) base l L a b c d m ah rs:=by
 have e:=Ur W g 0 _ _ n k;have f:=Ur _ g 1 _ _ o e;have i:=Ur _ g 2 _ _ p f;have j:=Ur _ g 3 _ _ q i;have s:=Ur _ g 4 _ _ r j;exact(((((h.put k _ _).put e _ _).put f _ _).put i _ _).put j _ _).put s _ _
def SY (w:F)(a:Fp)(ah:List Int)(rs:List cF)(sk:Bool)(e:WS)(w':F):Prop:=
 aP w w'/\((jz a ah rs≠0/\e= .returned (.tuple #[.agg #[aO,aO,aO,aO,aO,.bool T7],.int .i64 (jz a ah rs:Int)]))\/
  (∃(i:List (bL×Int)) (f:List Bd) (b:List (Bd×U)) (c d g h j:U),a=I (i,f)/\jz a ah rs=0/\e= .returned (.tuple #[.agg #[c,d,g,h,j,.bool sk],.int .i64 0])/\b.map Ux=f/\cO w' w.heap.size i b c d g/\Lh w' w.heap.size h ah/\Qo w' w.heap.size j rs))
def Ot(s:ByteArray)(B:Fp)(ah:List Int)(rs:List cF)(co:Option UJ)(cb bE aJ:Nat)(ro:Option UJ)(rb bh aN:Nat)(sk:Bool)(w:F)(e5:s.size<=Uq)(hF:rT s B)(ea:ah.length<=1000)(eh:rs.length<=1000)
 (d7:0<ah.length->co=I ⟨cb,bE,K⟩) (d9:0<ah.length->cb<w.heap.size) (d8:∀j,j<ah.length->aM w cb (bE+j) (.int .i64 (ah.getD j 0))) (al:dB w ro rb bh rs):
 bH 48 #[.string s,.slice co ah.length aJ,.slice ro rs.length aN,.bool sk] w (SY w B ah rs sk):=by
 have c6:=af d7;have a5:=af d9;have c7:=af d8;have dp:=af al;have am:=af hF;have da:=af ea;have br:=af eh;have aa:X ((w.alloc (.cells #[aO,aO,aO,aO,aO,.bool T7] 115)).heap[w.heap.size]? =I (.cells #[aO,aO,aO,aO,aO,.bool T7] 115 (0,0))):=bk w _;have a4:X (aP w (w.alloc (.cells #[aO,aO,aO,aO,aO,.bool T7] 115))):=(Up _ _).alloc (T8 _) _;clear d7 d9 d8 al hF ea eh;go_enter ay.func48,Tryz.ntmps48
 go_wp2_with fail
 refine(uA s _ e5).mono ?_;rintro x k ⟨N,⟨a,dE,b,fm,ft,fu,rfl,av,d2,aq,e8⟩|⟨rfl,ef⟩⟩;rotate_left
 ·have d0:jz B ah rs=3:=by
   cases B with
   |none=>rfl
   |some fa=>exact(ef _ _ am.o.1).elim
  have ae:=Ue aa.o;have bc:(k.alloc (.cells #[aO,aO,aO] 105)).heap[w.heap.size]? =I (.cells #[aO,aO,aO,aO,aO,.bool T7] 115 (0,0)):=by rw[UN _ _ _ (Ud ae N.size)];exact(N.block _ ae).trans aa.o
  have M:aP w k:=a4.o.trans (N.mono (by simp));have dO:aP w (k.alloc (.cells #[aO,aO,aO] 105)):=M.alloc M.size _;have r:=af d0;clear d0 ae ef N aa a4 am M
  go_upto_region 3 with fail
  generalize k.alloc (.cells #[aO,aO,aO] 105)=e0 at*;have q:X (aP w (wN e0 w.heap.size aO aO aO aO aO (.bool T7))):=oC _ _ _ _ _ _ dO (T8 _) (T8 _);obtain⟨cp,cs,cu,cv,cx,cR⟩:=jD bc;obtain⟨bu,bv,bx,bA,bB,b0⟩:=ql bc;obtain⟨P,Q,R,S,T,U⟩:=jD (xx aO aO aO aO aO (.bool T7) bc);clear bc dO;unfold wN at*;go_wp2;simp[VR,UX,Tryz.results48,go_sem,P,Q,R,S,T,U];exact⟨q.o,.inl ⟨by rw[r.o];decide,by rw[r.o];rfl⟩⟩
 ·have d1:B=I (a,dE):=by
   cases B with
   |none=>exact(am.o _ _ av).elim
   |some fa=>
    obtain⟨e1,e2⟩:=am.o.2 _ _ av;rw[e1,e2]
  have a6:=af d1;have et:=af d2;have e6:0<a.length:=by
   have:=av.1.pl.1.1;simp at this;omega
  have bl:=af av.1.pl;obtain⟨c,f,rfl,e9,ck,el⟩:=lS aq.ah e6;obtain⟨e,d,rfl⟩:=bC aq.eI;obtain⟨g,h,rfl⟩:=bC aq.b9.own;have ae:=Ue aa.o;have M:aP w k:=a4.o.trans (N.mono (by simp));have b2:k.heap[w.heap.size]? =I (.cells #[aO,aO,aO,aO,aO,.bool T7] 115 (0,0)):=(N.block _ ae).trans aa.o;have ee:w.heap.size<k.heap.size:=Ue b2;have ab:aP k ((k.alloc (.cells #[.slice (I ⟨c,0,K⟩) a.length f,.slice e a.length d,.slice g b.length h] 105)).alloc (.cells #[.slice (I ⟨c,0,K⟩) a.length f,.slice e a.length d,.slice g b.length h,.slice co ah.length aJ,.slice ro rs.length aN,.bool sk] 115)):=((Up _ _).alloc (T8 _) _).alloc (by simp) _;have a7:X (((k.alloc (.cells #[.slice (I ⟨c,0,K⟩) a.length f,.slice e a.length d,.slice g b.length h] 105)).alloc (.cells #[.slice (I ⟨c,0,K⟩) a.length f,.slice e a.length d,.slice g b.length h,.slice co ah.length aJ,.slice ro rs.length aN,.bool sk] 115)).heap[k.heap.size+1]? =I (.cells #[.slice (I ⟨c,0,K⟩) a.length f,.slice e a.length d,.slice g b.length h,.slice co ah.length aJ,.slice ro rs.length aN,.bool sk] 115 (0,0))):=jH _ _ _;have ao:X (((k.alloc (.cells #[.slice (I ⟨c,0,K⟩) a.length f,.slice e a.length d,.slice g b.length h] 105)).alloc (.cells #[.slice (I ⟨c,0,K⟩) a.length f,.slice e a.length d,.slice g b.length h,.slice co ah.length aJ,.slice ro rs.length aN,.bool sk] 115)).heap[w.heap.size]? =I (.cells #[aO,aO,aO,aO,aO,.bool T7] 115 (0,0))):=(ab.block _ ee).trans b2;have q:X (aP w ((k.alloc (.cells #[.slice (I ⟨c,0,K⟩) a.length f,.slice e a.length d,.slice g b.length h] 105)).alloc (.cells #[.slice (I ⟨c,0,K⟩) a.length f,.slice e a.length d,.slice g b.length h,.slice co ah.length aJ,.slice ro rs.length aN,.bool sk] 115))):=M.trans (ab.mono M.size);have db:X (cO ((k.alloc (.cells #[.slice (I ⟨c,0,K⟩) a.length f,.slice e a.length d,.slice g b.length h] 105)).alloc (.cells #[.slice (I ⟨c,0,K⟩) a.length f,.slice e a.length d,.slice g b.length h,.slice co ah.length aJ,.slice ro rs.length aN,.bool sk] 115)) w.heap.size a b (.slice (I ⟨c,0,K⟩) a.length f) (.slice e a.length d) (.slice g b.length h)):=(aq.base (by simp)).below ab;have ec:c<((k.alloc (.cells #[.slice (I ⟨c,0,K⟩) a.length f,.slice e a.length d,.slice g b.length h] 105)).alloc (.cells #[.slice (I ⟨c,0,K⟩) a.length f,.slice e a.length d,.slice g b.length h,.slice co ah.length aJ,.slice ro rs.length aN,.bool sk] 115)).heap.size:=Ud ck ab.size;have df:X (∀j J,a[j]? =I J->((k.alloc (.cells #[.slice (I ⟨c,0,K⟩) a.length f,.slice e a.length d,.slice g b.length h] 105)).alloc (.cells #[.slice (I ⟨c,0,K⟩) a.length f,.slice e a.length d,.slice g b.length h,.slice co ah.length aJ,.slice ro rs.length aN,.bool sk] 115)).cell? ⟨c,j*2+1,K⟩=I (.int .i64 J.1.kind)):=λj J p=>by
   obtain⟨cd,rfl⟩:=UA.1 p;have:=(AM (a.map Ux) j (by simpa using cd)).2;simp only[Xr] at this;exact(ab.cell (p:=⟨c,j*2+1,K⟩) ck).trans (el _ _ this)
  have dc:X (w.heap.size≠k.heap.size+1):=by show _≠_;omega
  have dd:X (w.heap.size<=k.heap.size+1):=by show _<=_;omega
  clear aq av e8 d2 d1 N aa a4 am M b2 ae e9 ck el ab ee
  go_upto_region 5 with fail
  generalize (k.alloc (.cells #[.slice (I ⟨c,0,K⟩) a.length f,.slice e a.length d,.slice g b.length h] 105)).alloc (.cells #[.slice (I ⟨c,0,K⟩) a.length f,.slice e a.length d,.slice g b.length h,.slice co ah.length aJ,.slice ro rs.length aN,.bool sk] 115)=a9 at*;generalize k.heap.size+1=o at*;have b5:=q.o.size;have b6:∀j,j<ah.length->aM a9 cb (bE+j) (.int .i64 (ah.getD j 0)):=λj p=>(q.o.cell (p:=⟨cb,bE+j,K⟩) (a5.o (by omega))).trans (c7.o j p);have ch:dB a9 ro rb bh rs:=dp.o.below q.o;have V:=yx a.length ah rs (I ⟨c,0,K⟩) f (.slice e a.length d) (.slice g b.length h) co cb bE aJ ro rb bh aN sk a9 (by have:=da.o;unfold Uq;omega) (by have:=br.o;unfold Uq;omega) c6.o (λl=>Ud (a5.o l) b5) b6 ch;have c8:=af b6;have dq:=af ch;have bi:X (0<ah.length->cb<a9.heap.size):=λl=>Ud (a5.o l) b5;obtain⟨aw,az,a0,a1,a2,a3⟩:=jD a7.o;have bj:=af ec;clear b6 ch c7 dp a5 ec b5;cases ad:wI a.length ah rs
  ·rw[ad] at V;have r:X (jz B ah rs=4):=by
    show _=_;rw[a6.o];simp[jz,ad]
   clear ad
   go_upto_region 6 with(go_at_call 68;refine V.mono ?_;rintro x m ⟨rfl,i⟩;have D:m.heap[w.heap.size]? =I (.cells #[aO,aO,aO,aO,aO,.bool T7] 115 (0,0)):=(i.block _ (Ue ao.o)).trans ao.o;have E:X (aP w m):=q.o.trans (i.mono q.o.size);clear i V)
   have C:X (aP w (wN m w.heap.size aO aO aO aO aO (.bool T7))):=oC _ _ _ _ _ _ E.o (T8 _) (T8 _);obtain⟨cp,cs,cu,cv,cx,cR⟩:=jD D;obtain⟨bu,bv,bx,bA,bB,b0⟩:=ql D;obtain⟨P,Q,R,S,T,U⟩:=jD (xx aO aO aO aO aO (.bool T7) D);clear D aw az a0 a1 a2 a3 E;unfold wN at*;go_wp2;simp[VR,UX,Tryz.results48,go_sem,P,Q,R,S,T,U];exact⟨C.o,.inl ⟨by rw[r.o];decide,by rw[r.o];rfl⟩⟩
  ·rw[ad] at V;have be:=af ad;clear ad
   go_upto_region 7 with(go_at_call 68;refine V.mono ?_;rintro x m ⟨rfl,i⟩;have a8:X (m.heap[w.heap.size]? =I (.cells #[aO,aO,aO,aO,aO,.bool T7] 115 (0,0))):=(i.block _ (Ue ao.o)).trans ao.o;have bm:X (m.heap[o]? =I (.cells #[.slice (I ⟨c,0,K⟩) a.length f,.slice e a.length d,.slice g b.length h,.slice co ah.length aJ,.slice ro rs.length aN,.bool sk] 115 (0,0))):=(i.block _ (Ue a7.o)).trans a7.o;have E:X (aP w m):=q.o.trans (i.mono q.o.size);have er:X (cO m w.heap.size a b (.slice (I ⟨c,0,K⟩) a.length f) (.slice e a.length d) (.slice g b.length h)):=db.o.below i;have en:X (∀j,j<ah.length->aM m cb (bE+j) (.int .i64 (ah.getD j 0))):=λj p=>(i.cell (p:=⟨cb,bE+j,K⟩) (bi.o (by omega))).trans (c8.o j p);have dr:X (dB m ro rb bh rs):=dq.o.below i;have eq:X (0<ah.length->cb<m.heap.size):=λl=>Ud (bi.o l) i.size;have dk:X (c<m.heap.size/\∀j J,a[j]? =I J->aM m c (j*2+1) (.int .i64 J.1.kind)):=⟨Ud bj.o i.size,λj J p=>(i.cell (p:=⟨c,j*2+1,K⟩) bj.o).trans (df.o j J p)⟩;clear i V)
   clear ao a7 q db c8 dq bi bj df aw az a0 a1 a2 a3;obtain⟨aw,az,a0,a1,a2,a3⟩:=jD bm.o;have ci:∀H∈rs,cX a.length H.col=Z:=by
    have:=be.o;unfold wI at this;rw[Uw,Uz,Uz] at this;exact this.2
   have W:=Ai a rs c f (.slice e a.length d) (.slice g b.length h) (.slice co ah.length aJ) ro rb bh aN sk m (by have:=br.o;unfold Uq;omega) bl.o dr.o ci dk.o.1 dk.o.2;have dt:=af ci;clear ci;cases G:Cv a rs
   ·rw[G] at W;have r:X (jz B ah rs=5):=by
     show _=_;rw[a6.o];simp[jz,G,be.o]
    clear G
    go_upto_region 8 with(go_at_call 69;refine W.mono ?_;rintro x n ⟨rfl,i⟩;have D:n.heap[w.heap.size]? =I (.cells #[aO,aO,aO,aO,aO,.bool T7] 115 (0,0)):=(i.block _ (Ue a8.o)).trans a8.o;have C:X (aP w n):=E.o.trans (i.mono E.o.size);clear i W)
    have Y:X (aP w (wN n w.heap.size aO aO aO aO aO (.bool T7))):=oC _ _ _ _ _ _ C.o (T8 _) (T8 _);obtain⟨cp,cs,cu,cv,cx,cR⟩:=jD D;obtain⟨bu,bv,bx,bA,bB,b0⟩:=ql D;obtain⟨P,Q,R,S,T,U⟩:=jD (xx aO aO aO aO aO (.bool T7) D);clear D aw az a0 a1 a2 a3 E C;unfold wN at*;go_wp2;simp[VR,UX,Tryz.results48,go_sem,P,Q,R,S,T,U];exact⟨Y.o,.inl ⟨by rw[r.o];decide,by rw[r.o];rfl⟩⟩
   ·rw[G] at W;have r:X (jz B ah rs=0):=by
     show _=_;rw[a6.o];simp[jz,G,be.o]
    have eQ:X (∀H∈rs,H.low.s.size<=32/\H.high.s.size<=32):=λH al=>by
     unfold Cv at G;have ba:=Uz.1 G H al;unfold iV at ba;rw[Uw] at ba;exact⟨yG (xq bl.o (dt.o H al)) ba.1,yG (xq bl.o (dt.o H al)) ba.2⟩
    clear G
    go_upto_region 9 with(go_at_call 69;refine W.mono ?_;rintro x n ⟨rfl,i⟩;have du:X (n.heap[w.heap.size]? =I (.cells #[aO,aO,aO,aO,aO,.bool T7] 115 (0,0))):=(i.block _ (Ue a8.o)).trans a8.o;have dl:X (n.heap[o]? =I (.cells #[.slice (I ⟨c,0,K⟩) a.length f,.slice e a.length d,.slice g b.length h,.slice co ah.length aJ,.slice ro rs.length aN,.bool sk] 115 (0,0))):=(i.block _ (Ue bm.o)).trans bm.o;have C:X (aP w n):=E.o.trans (i.mono E.o.size);have es:X (cO n w.heap.size a b (.slice (I ⟨c,0,K⟩) a.length f) (.slice e a.length d) (.slice g b.length h)):=er.o.below i;have eo:X (∀j,j<ah.length->aM n cb (bE+j) (.int .i64 (ah.getD j 0))):=λj p=>(i.cell (p:=⟨cb,bE+j,K⟩) (eq.o (by omega))).trans (en.o j p);have ds:X (dB n ro rb bh rs):=dr.o.below i;clear i W)
    have c0:=z6 ah co cb bE aJ n da.o c6.o (λj fz p=>by
     obtain⟨cd,x⟩:=UA.1 p;have eb:j<ah.length:=by simpa [bz] using cd
     rw[eo.o j eb,<-x];simp[bz,Ui,eb])
    have c1:=λdC (e3:aP n dC)=>ya rs ro rb bh aN dC br.o (λl=>ds.o.addr l) (ds.o.below e3).cells eQ.o
    go_upto_region 10 with(first|(go_at_call 70;refine c0.mono ?_;rintro x cn ⟨b3,d5⟩;have e4:∃bs,x= .returned bs/\Lh cn n.heap.size bs ah:=d5.elim (fun⟨L,bt,O⟩=>⟨_,O,.inl ⟨L,bt,rfl⟩⟩) (fun⟨L,v,O,cf⟩=>⟨v,O,.inr ⟨L,cf⟩⟩);obtain⟨bs,rfl,ca⟩:=e4;obtain⟨t,fv,u,rfl,_⟩:=ca.at_;have c9:=af ca;have Y:=af b3;have c2:=c1 cn b3;clear b3 d5 ca c0 c1)|(go_at_call 71;refine c2.mono ?_;rintro x A ⟨b4,d6⟩;have e7:∃cl,x= .returned cl/\Qo A cn.heap.size cl rs:=d6.elim (fun⟨L,bt,O⟩=>⟨_,O,.inl ⟨L,bt,rfl⟩⟩) (fun⟨L,v,O,cf⟩=>⟨v,O,.inr ⟨L,cf⟩⟩);obtain⟨cl,rfl,cc⟩:=e7;obtain⟨y,fx,z,rfl,_⟩:=cc.at_;have ap:aP n A:=Y.o.trans (b4.mono Y.o.size);have c5:X (aP w A):=C.o.trans (ap.mono C.o.size);have d4:A.heap[w.heap.size]? =I (.cells #[aO,aO,aO,aO,aO,.bool T7] 115 (0,0)):=(ap.block _ (Ue du.o)).trans du.o;have bb:A.heap[o]? =I (.cells #[.slice (I ⟨c,0,K⟩) a.length f,.slice e a.length d,.slice g b.length h,.slice co ah.length aJ,.slice ro rs.length aN,.bool sk] 115 (0,0)):=(ap.block _ (Ue dl.o)).trans dl.o;have c3:X (De A w.heap.size a b (.slice (I ⟨c,0,K⟩) a.length f) (.slice e a.length d) (.slice g b.length h) (.slice t ah.length u) (.slice y rs.length z) ah rs):=⟨es.o.below ap,(c9.o.below b4).imp (λl=>l) (λl=>⟨l.1,bM l.2 C.o.size⟩),cc.imp (λl=>l) (λl=>⟨l.1,bM l.2 (Uy C.o.size Y.o.size)⟩)⟩;obtain⟨u0,u1,u2,u3,u4,u5⟩:=jD bb;obtain⟨fb,fd,fe,fg,fi,fk⟩:=ql bb;have dv:=af d4;have bo:=af bb;clear b4 d6 cc c2 ap c9 Y d4 bb))
    have b1:=Ur _ o 3 _ _ (.slice t ah.length u) bo.o;have d3:=Ur _ o 4 _ _ (.slice y rs.length z) b1;have ar:((A.setCell ⟨o,3,K⟩ (.slice t ah.length u)).setCell ⟨o,4,K⟩ (.slice y rs.length z)).heap[w.heap.size]? =I (.cells #[aO,aO,aO,aO,aO,.bool T7] 115 (0,0)):=by
     rw[Uu _ _ _ _ dc.o,Uu _ _ _ _ dc.o];exact dv.o
    have c4:X (De ((A.setCell ⟨o,3,K⟩ (.slice t ah.length u)).setCell ⟨o,4,K⟩ (.slice y rs.length z)) w.heap.size a b (.slice (I ⟨c,0,K⟩) a.length f) (.slice e a.length d) (.slice g b.length h) (.slice t ah.length u) (.slice y rs.length z) ah rs):=(c3.o.put bo.o _ _).put b1 _ _;have dT:aP w ((A.setCell ⟨o,3,K⟩ (.slice t ah.length u)).setCell ⟨o,4,K⟩ (.slice y rs.length z)):=bT (bT c5.o (T8 _) dd.o _ _) (T8 _) dd.o _ _;clear u0 u1 u2 u3 u4 u5 fb fd fe fg fi fk c3 c5 dv bo;generalize ((A.setCell ⟨o,3,K⟩ (.slice t ah.length u)).setCell ⟨o,4,K⟩ (.slice y rs.length z))=fl at*;have bd:X _:=c4.o.wN (.slice (I ⟨c,0,K⟩) a.length f) (.slice e a.length d) (.slice g b.length h) (.slice t ah.length u) (.slice y rs.length z) (.bool sk) ar;have em:X _:=oC (.slice (I ⟨c,0,K⟩) a.length f) (.slice e a.length d) (.slice g b.length h) (.slice t ah.length u) (.slice y rs.length z) (.bool sk) dT (T8 _) (T8 _);obtain⟨P,Q,R,S,T,U⟩:=jD (xx (.slice (I ⟨c,0,K⟩) a.length f) (.slice e a.length d) (.slice g b.length h) (.slice t ah.length u) (.slice y rs.length z) (.bool sk) ar);obtain⟨cp,cs,cu,cv,cx,cR⟩:=jD ar;obtain⟨bu,bv,bx,bA,bB,b0⟩:=ql ar;obtain⟨aw,az,a0,a1,a2,a3⟩:=jD d3;clear ar b1 d3 c4 dT;unfold wN at*;go_wp2;simp[VR,UX,Tryz.results48,go_sem,P,Q,R,S,T,U];exact⟨em.o,.inr ⟨a,dE,b,_,_,_,_,_,a6.o,r.o,rfl,et.o,bd.o.f,bd.o.c,bd.o.r⟩⟩
end Ec
namespace Ec
open Go.RowKit Pk Pm
open Cc (Lh Qo Fp rT wI kD Cv jz lS FM Qz zN gF jB FM.kept)
def vp (w:F)(a:Fp)(ah:List Int)(rs:List cF)(sk:Bool)(e:WS)(w':F):Prop:=
 aP w w'/\((jz a ah rs≠0/\e= .returned (.tuple #[.pointer K,.int .i64 (jz a ah rs:Int)]))\/
  (∃(d:List (bL×Int)) (b:List Bd) (c g p f o:Nat) (k:Option UJ) (l dh:Nat) (cS ni:Nat->Nat) (j:Option UJ) (i aJ:Nat) (n:Option UJ) (m aN:Nat),a=I (d,b)/\jz a ah rs=0/\e= .returned (.tuple #[.pointer (I ⟨c,0,K⟩),.int .i64 0])/\w.heap.size<=c/\w'.heap[c]? =I (.cells (jB (gF g d.length p f d.length o k b.length dh j ah.length aJ n rs.length aN sk) 0 0) 119 (0,0))/\FM w' d b ah rs g f k l cS ni j i 0 n m 0/\∀h,zN g f l cS i m b.length ah.length rs.length h->w.heap.size<=h/\h<c))
def xN(a:Fp)(ah:List Int)(rs:List cF):jz a ah rs=0\/jz a ah rs=3\/jz a ah rs=4\/jz a ah rs=5:=by
 unfold jz
 split
 ·simp
 ·split
  ·split<;>simp
  ·simp
def p8(s:ByteArray)(b:Fp)(ah:List Int)(rs:List cF)(co:Option UJ)(cb bE aJ:Nat)(ro:Option UJ)(rb bh aN:Nat)(sk:Bool)(w:F)(S:s.size<=Uq)(hF:rT s b)(P:ah.length<=1000)(V:rs.length<=1000)
 (L:0<ah.length->co=I ⟨cb,bE,K⟩) (O:0<ah.length->cb<w.heap.size) (M:∀j,j<ah.length->aM w cb (bE+j) (.int .i64 (ah.getD j 0))) (U:dB w ro rb bh rs):
 bH 31 #[.string s,.slice co ah.length aJ,.slice ro rs.length aN,.bool sk] w (vp w b ah rs sk):=by
 have x:=Ot s b ah rs co cb bE aJ ro rb bh aN sk w S hF P V L O M U;have r:=af hF;clear L O M U hF P V S;go_enter ay.func31,Tryz.ntmps31
 go_wp2_with fail
 refine x.mono ?_;rintro az e ⟨c,⟨T,rfl⟩|⟨a,d,ap,aq,ar,av,aw,a0,B,E,rfl,J,H,N,Q⟩⟩
 ·have ae:=xN b ah rs;have D:aP w (e.alloc (.cells #[aO,aO,aO,aO,aO,.bool T7] 115)):=c.alloc c.size _;have y:=af D;have ao:=af T;clear c x D r;have z:X (∀m,jz b ah rs=m->m≠0->∀A,aP w A->vp w b ah rs sk (.returned (.tuple #[.pointer K,.int .i64 (m:Int)])) A):=λm C ab A al=>⟨al,.inl ⟨by rw[C];exact ab,by rw[C]⟩⟩;generalize jz b ah rs=m at*;have ad:m=3\/m=4\/m=5:=by omega
  clear T ae;rcases ad with rfl|rfl|rfl
  ·go_wp2;simp[VR,UX,Tryz.results31,go_sem];exact z.o 3 Y (by decide) _ y.o
  ·go_wp2;simp[VR,UX,Tryz.results31,go_sem];exact z.o 4 Y (by decide) _ y.o
  ·go_wp2;simp[VR,UX,Tryz.results31,go_sem];exact z.o 5 Y (by decide) _ y.o
 ·have R:xe a d:=by
   rw[B] at r;exact r.o.1.1
  obtain⟨n,h,l,g,k,aa,dh,cS,ni,i,Z,f,p,am,o,rfl,rfl,rfl,rfl,rfl,G,u⟩:=Qz R J H N Q;have t:aP e ((e.alloc (.cells #[.slice (I ⟨n,0,K⟩) a.length h,.slice (I ⟨l,0,K⟩) a.length g,.slice k d.length dh,.slice i ah.length f,.slice p rs.length o,.bool sk] 115)).alloc (.cells #[.slice (I ⟨n,0,K⟩) a.length h,.slice (I ⟨l,0,K⟩) a.length g,.slice k d.length dh,.slice i ah.length f,.slice p rs.length o,.bool sk,.int .i64 0,.int .i64 0] 119)):=((Up _ _).alloc (T8 _) _).alloc (by simp) _;have W:X (vp w b ah rs sk (.returned (.tuple #[.pointer (I ⟨e.heap.size+1,0,K⟩),.int .i64 0])) ((e.alloc (.cells #[.slice (I ⟨n,0,K⟩) a.length h,.slice (I ⟨l,0,K⟩) a.length g,.slice k d.length dh,.slice i ah.length f,.slice p rs.length o,.bool sk] 115)).alloc (.cells #[.slice (I ⟨n,0,K⟩) a.length h,.slice (I ⟨l,0,K⟩) a.length g,.slice k d.length dh,.slice i ah.length f,.slice p rs.length o,.bool sk,.int .i64 0,.int .i64 0] 119))):=
   ⟨c.trans (t.mono c.size),.inr ⟨a,d,e.heap.size+1,n,h,l,g,k,aa,dh,cS,ni,i,Z,f,p,am,o,B,E,rfl,by have:=c.size;omega,jH _ _ _,G.kept t.size (λq v=>Cc.D3 (t.block q (u q v).2)),λq v=>⟨(u q v).1,by have:=(u q v).2;omega⟩⟩⟩
  clear c t x r G u H N Q R J B E;go_wp2;simp[VR,UX,Tryz.results31,go_sem];exact W.o
def kX(cu:Nat)(w:F):bH 36 #[.pointer (I ⟨cu,0,K⟩)] w λe w'=>e= .returned (.func (.func 53) #[] #[.pointer (I ⟨w.heap.size,0,K⟩)])/\w'=w.alloc (.cells #[.pointer (I ⟨cu,0,K⟩)] 74):=by
 have c:∀(b:Fn) (first a:Array U) (w:F),(Instr.makeFunc b first a).run (aB T4) w= .ok (.func b first a) w:=λ_ _ _ _=>rfl;go_enter ay.func36,Tryz.ntmps36;go_wp2;go_ret;exact⟨rfl,rfl⟩
def mF(cu:Nat)(v:U)(w:F)(h:aM w cu 7 v):bH 32 #[.pointer (I ⟨cu,0,K⟩)] w λe w'=>e= .returned v/\w'=w:=by
 go_enter ay.func32,Tryz.ntmps32;go_wp2;go_ret;exact⟨rfl,rfl⟩
end Ec
namespace Cc
open Go Go.Conc
open Go.RowKit (Below)
open Ec (aE aH cF dB qv bL Bd aY fZ vp p8 kX mF)
section
variable {P0 P:Uf}{Post:U->F->Prop}{own:Nat->Prop}{cs:List Ut}{w:F}{b:Ut}{a:V6}{k:List WM}{ops:Array Vu}{i:Nat}{rest:List Nat}{o:Vu}
def nh{W:F}(d:∀(b:Nat) o,w.heap[b]? =I o->bn P0 o->W.heap[b]? =I o){p:UJ}{v:U}(h:w.cell? p=I v):W.cell? p=I v:=by
 unfold Us at h ⊢;cases c:w.heap[p.block]? with
 |none=>rw[c] at h;cases h
 |some e=>
  rw[c] at h;cases e<;>first|(cases h;done)|skip
  rw[d _ _ c trivial];exact h
def Pv{W:F}(e:∀(b:Nat) o,w.heap[b]? =I o->bn P0 o->W.heap[b]? =I o)(j:w.heap.size<=W.heap.size){f:Option UJ}{b off:Nat}{l:List cF}(h:dB w f b off l):dB W f b off l:=
 ⟨h.addr,λg=>Ud (h.lt g) j,λd c=>nh e (h.c0 d c),λd c=>nh e (h.c1 d c),λd c=>nh e (h.c2 d c),λd c=>nh e (h.c3 d c),λd c=>nh e (h.c4 d c),λd c=>nh e (h.c5 d c),λd c=>nh e (h.c6 d c)⟩
def gh (w:F):Nat->Prop:=λb=>b<w.heap.size
def RQ{fr:Ut}(h:∀c,RelB own w c->Xe P0 P Post (gh c) fr cs c):Xe P0 P Post own fr cs w:=λf c e d=>h c e (λb h=>h) c (RelB.refl _ _) d
def oX(h:Twins P0 P){f:FuncId}{fn:WC}{c:WV}{args:Array U6}{ats:Array Uh}{vs:Array U}{R:F->U->F->Prop}(L:b.kind= .normal)(n:ops[i]? =I o)(aa:UF o (Vj ops a.tmps)=Z)(S:o.op= .call {callee:=.value (.func f),args,argTypes:=ats})(J:args.map a.eval=vs)
 (N:P.funcs[f]? =I fn) (Q:(fn.name == "runtime.NumGoroutine")=T7) (K:fn.body=I c) (O:P.funcs[f]? =P0.funcs[f]?) (V:eN P0 (b.at a (.inRegion ops (i::rest)::k)) [])
 (hR:∀W,(∀(b:Nat) o,w.heap[b]? =I o->bn P0 o->W.heap[b]? =I o)->w.heap.size<=W.heap.size->Calls P0 f vs W λe W'=>aP W W'/\∃v,e= .returned v/\R W v W')
 (G:∀v W W' w',(∀(b:Nat) o,w.heap[b]? =I o->bn P0 o->W.heap[b]? =I o)->w.heap.size<=W.heap.size->aP W W'->R W v W'->Un W' w'->RelB (gh w) w w'->Xe P0 P Post (gh w') (b.at (a.put o.dst v) (.inRegion ops rest::k)) cs w'):Xe P0 P Post (gh w) (b.at a (.inRegion ops (i::rest)::k)) cs w:=by
 intro y;refine sD (P0:=P0) (R:=λm e ab=>∃l,Mk P0 l m/\Tl l m (λe W'=>∃W,W.heap=l.heap/\aP W W'/\∃v,e= .returned v/\R W v W') e ab) L n aa S J N Q K V (λm d=>?_) (λm v w' d Y u T=>?_) (λm ad w' ⟨_,_,_,_,_,_,W,_,_,v,e,_⟩=>by cases e) (λm w' ⟨_,_,_,_,_,_,W,_,_,v,e,_⟩=>by cases e) y
 ·obtain⟨l,j⟩:=D6 P0 m;intro A B p g D E;exact pM h j.hp j.un O (λw' ⟨W,_,_,v,e,_⟩=>by cases e) (λq=>(hR (sh q 0 l) (λb o n s=>j.at_ b o ((d.at_ b (Ub.1 n).1).trans n) s) (by show w.heap.size<=l.heap.size;rw[<-j.un.size];exact d.size)).mono λe W' ⟨p,g⟩=>⟨sh q 0 l,rfl,p,g⟩) A B p g D λe w' M=>E e w' ⟨l,j,M⟩
 obtain⟨l,j,q,C,W',g,W,t,r,ae,e,H⟩:=Y;cases e;have X:W.heap.size<=w'.heap.size:=by rw[g.un.size];exact r.size
 have x:W.heap.size=m.heap.size:=by rw[t,j.un.size]
 have hrel:RelB (gh w) w w':=⟨λb z=>by
  have p:W'.heap[b]? =W.heap[b]? :=r.block b (by rw[x];exact Ud (y b z) d.size);exact(g.same j.un (by rw[p,t])).trans (d.at_ b z),Uy d.size (by rw[<-x];exact X),u.tape.trans d.tape,u.os.trans d.os,u.output.trans d.output⟩
 exact Xe.go (G v W (sh q C W') w' (λb o n s=>by rw[t];exact j.at_ b o ((d.at_ b (Ub.1 n).1).trans n) s) (by rw[x];exact d.size) r H ⟨g.un.size,g.un.at_,g.un.os,g.un.output⟩ hrel) (λb h=>h) T
def NC{P:Uf}{b:Ut}{a:V6}{todo:List WM}{D:Nat}{m:FrameMode}(d:b.kind= .normal)(g:a.defers=[{target:=.collected D,args:= #[]}])(n:(todo.all (yA P))=Z):eN P {b.at a todo with mode:=m} []:=by
 refine⟨⟨λi l=>?_,λe h=>?_,.inl d⟩,λf j=>by simp at j,d⟩
 ·have:=Uz.1 n i l;cases i<;>first|exact this|trivial|cases this
 ·have c:e∈a.defers:=h;rw[g] at c;simp only[WI] at c;subst c;rfl
def IC{P:Uf}{b:Ut}{a:V6}{todo:List WM}{D:Nat}(c:b.kind= .normal)(d:a.defers=[{target:=.collected D,args:= #[]}])(e:(todo.all (yA P))=Z):eN P (b.at a todo) []:=NC (m:=.run) c d e
end
def xK{a:V6}{x y z u:U6}{d e f c:U}(h1:a.eval x=d)(g:a.eval y=e)(h:a.eval z=f)(j:a.eval u=c): #[x,y,z,u].map a.eval=#[d,e,f,c]:=by simp[h1,g,h,j]
def xF (f:Fp)(V:Nat->Nat->List aE):Prop:=match f with
 |none=>True
 |some (h,g)=>∀(i:Nat) b,g[i]? =I b->∀(c:Nat) e d,b.chunks[c]? =I e->h[c]? =I d->pp e.text d.1.kind d.2 (b.rows:Int) (V i c)
def sw (d:Fp)(V:Nat->Nat->List aE)(ah:List Int)(rs:List cF)(sk:Bool)(Go:List dy->Bool):List dy×Nat×Nat:=match d with
 |none=>([],0,0)
 |some (e,c)=>iW sk c ah rs (aY e.length (ah++rs.map cF.col)) V Go 0 c.length [] 0
def oM (c:Fp)(V:Nat->Nat->List aE)(ah:List Int)(rs:List cF)(sk:Bool):List (List aE)×Nat:=
 if jz c ah rs=0 then(if (sw c V ah rs sk λ_=>Z).2.2=0 then((sw c V ah rs sk λ_=>Z).1.map VU,0) else([],(sw c V ah rs sk λ_=>Z).2.2)) else([],jz c ah rs)
def sI (W:F)(base:Nat)(v:U)(h:List (List aE)):Prop:=
 ∃d,W.ownsRow base 43 1 v h.length d/\(∀(i:Nat) e,h[i]? =I e->∃c,d[i]? =I c/\W.ownsRow base 59 3 c e.length (aH e))/\∀(i g:Nat) c j f,d[i]? =I c->d[g]? =I j->c.ownBlock=I f->j.ownBlock=I f->i=g
def Dg (c:List (List aE)×Nat)(w0:F)(e:WS)(w':F):Prop:=
 ∃v,e= .returned (.tuple #[v,.int .i64 (c.2:Int)])/\sI w' w0.heap.size v c.1/\(c.2≠0->v=aO)/\(∀b,b<w0.heap.size->w'.heap[b]? =w0.heap[b]?)/\w0.heap.size<=w'.heap.size
def R1:(Tryz.f31.name == "runtime.NumGoroutine")=T7:=by kernel_rfl
def K6:(Tryz.f36.name == "runtime.NumGoroutine")=T7:=by kernel_rfl
def Fc:(Tryz.f32.name == "runtime.NumGoroutine")=T7:=by kernel_rfl
def sI.nil(W:F)(base:Nat):sI W base aO []:=⟨[],Vp _ _ _ _,λi h c=>by simp at c,λi e g f d c=>by simp at c⟩
def Sl{s:ByteArray}{l:List (bL×Int)}{bs:List Bd}{ah:List Int}{rs:List cF}{V:Nat->Nat->List aE}(d:fZ s l bs)(e:wI l.length ah rs=Z)(j:ah.length<=1000)(x:rs.length<=1000)(h:xF (I (l,bs)) V):FQ l bs ah rs V:=by
 have u:l.length<=8:=by
  have:=d.1.pl.1.2.1;simpa using this
 have v:bs.length<=2000:=by
  have r:=Ec.tB bs (λb c=>(d.1.b9 b c).lo);have t:=d.1.rows;omega
 refine⟨λb c=>by have:=(d.1.b9 b c).len;simpa using this,by omega,by have:=d.1.pl.1.1;simp at this;omega,λb c=>(d.1.b9 b c).hi,d.1.rows,by omega,j,by unfold Uq;omega,(sK.1 e).1,(sK.1 e).2,λi b c g p q f n=>⟨?_,h i b c g p q f n⟩⟩;obtain⟨m,rfl⟩:=UA.1 f;have:=((d.1.b9 b (VD c)).each g m).n;unfold Uq;omega
def zk (fn:WC):WV:=match fn.body with
 |some (.seq _ (.seq _ (.seq _ (.seq _ (.seq _ c)))))=>c
 |_=>.skip
section
variable {Post:U->F->Prop}{cs:List Ut}{w:F}{a:V6}{c:Ut}
def Knows.same{a a':V6}{n:Nat}{l:List (Nat×U)}(b:Knows a n l)(h:a'.tmps=a.tmps):Knows a' n l:=⟨by rw[h];exact b.size,λs v d=>by unfold aW;rw[h];exact b.slot s v d⟩
def tN{D:Nat}{todo:List WM}(f:a.defers=[{target:=.collected D,args:= #[]}])(e:w.heap[D]? =I (.deferred (I [])))(l:(todo.all (yA (aB T4)))=Z){b:Ut}(k:b.kind= .normal)
 (j:∀a' w',a'.tmps=a.tmps->a'.defers=[]->w.heap.size<=w'.heap.size->(∀x,x<w.heap.size->x≠D->w'.heap[x]? =w.heap[x]?)->w'.tape=w.tape->w'.os=w.os->w'.output=w.output->Xe (aB T4) T4 Post (gh w') {b.at a' todo with mode:=.returning} cs w'):Xe (aB T4) T4 Post (gh w) {b.at a todo with mode:=.returning} cs w:=by
 intro r q d n;have i:D<w.heap.size:=(Ub.1 e).1;have h:q.heap[D]? =I (.deferred (I [])):=(d.at_ D i).trans e;refine Ca cV f h (λ_ o=>Xe.go (j {a with defers:=[]} _ Y Y ?_ ?_ d.tape d.os d.output) (λb g=>g) o) (NC k f l) n
 ·rw[World.putObj_size];exact d.size
 ·intro x p m;rw[World.putObj_heap_other m];exact d.at_ x p
structure TQ(w w':F)(D:Nat):Prop where
 at_:∀x,x<w.heap.size->x≠D->w'.heap[x]? =w.heap[x]?
 size:w.heap.size<=w'.heap.size
 tape:w'.tape=w.tape
 os:w'.os=w.os
 output:w'.output=w.output
def Kv{cu rb D n e:Nat}{q:Array U}{C:U}(b:Knows a 40 [(12,.pointer (I ⟨rb,0,K⟩)),(10,.pointer (I ⟨cu,0,K⟩))])(s:a.defers=[{target:=.collected D,args:= #[]}])(u:w.heap[D]? =I (.deferred (I [])))(hc:w.heap[cu]? =I (.cells (jB q n e) 119 (0,0)))(ad:q.size=6)(M:w.heap[rb]? =I (.cells #[C] 26 (0,0)))
 (J:∀w',TQ w w' D->Xe (aB T4) T4 Post (gh w') (c.finish (.tuple #[if e=0 then C else aO,.int .i64 (e:Int)])) cs w'):Xe (aB T4) T4 Post (gh w) ((base 13).at a [.inBlock 0,.code (zk VT)]) (c::cs) w:=by
 have d:=ir (aB T4) T4 Post;have Q:(jB q n e)[7]? =I (.int .i64 (e:Int)):=by simp[jB,Array.getElem?_append,ad]
 have av:cu<w.heap.size:=(Ub.1 hc).1;have N:rb<w.heap.size:=(Ub.1 M).1;have B:D<w.heap.size:=(Ub.1 u).1;have G:∀h,(∀(m:Nat) r,w.heap[m]? =I r->bn (aB T4) r->h.heap[m]? =I r)->w.heap.size<=h.heap.size->bH 32 #[.pointer (I ⟨cu,0,K⟩)] h λf i=>aP h i/\∃v,f= .returned v/\(v= .int .i64 (e:Int)/\i=h):=λh o t=>(mF cu _ h (kI (o cu _ hc trivial) Q)).mono λf i ⟨P,F⟩=>⟨by rw[F];exact Below.refl _ _,_,P,rfl,F⟩;refine iJ d ?_;refine aS d ?_;refine aS d ?_;refine bq d [0,1,2] Y ?_;refine cH d b λb=>?_;refine oX (vs:= #[.pointer (I ⟨cu,0,K⟩)]) (R:=λh v i=>v= .int .i64 (e:Int)/\i=h) cV Y Y Y Y (mr (b.of Y)) Tryz.func32 Fc Y (jX Y Y Y).symm (IC Y (by simp only[put_defers];exact s) (by kernel_rfl)) G λv h i aw o t R A V g=>?_;obtain⟨rfl,-⟩:=A;replace b:=b.put (d:=35) (by decide) (.int .i64 (e:Int));by_cases H:e=0
 ·subst H;refine dD d b Y (.bool T7) (qK (c:=T7) Y (b.of Y) Y (by decide)) λb=>?_;refine ak d ?_;refine dn d T7 (b.of Y) ?_;refine ij d ?_;refine aS d ?_;refine bq d [0,1,2] Y ?_;refine rf d b Y C (bZ Y (b.of Y) Tryz.isAgg26 (.inr (Ud N g.size)) (kI ((g.at_ rb N).trans M) Y)) λb=>?_;refine gX d b λb=>?_;refine m0 d b (.int .i64 0) λb=>?_;refine ak d ?_;refine pL d ?_;refine tN (by simp only[put_defers];exact s) ((g.at_ D B).trans u) (by kernel_rfl) Y λO E z x ae W am aa ap=>?_;replace b:=b.same z;have p:=gI (P:=T4) Tryz.results13 (b.slot 8 _ Y) (b.slot 9 _ Y);refine je d Y x Tryz.func13 p.1 p.2 ?_;have:=J E ⟨λl k y=>(W l (Ud k g.size) y).trans (g.at_ l k),Uy g.size ae,am.trans g.tape,aa.trans g.os,ap.trans g.output⟩;rw[if_pos Y] at this;exact this
 ·refine dD d b Y (.bool Z) (qK (c:=Z) Y (b.of Y) Y (by simp;omega)) λb=>?_;refine ak d ?_;refine dn d Z (b.of Y) ?_;refine aS d ?_;refine bq d [0,1,2,3] Y ?_;refine cH d b λb=>?_;refine oX (vs:= #[.pointer (I ⟨cu,0,K⟩)]) (R:=λh v i=>v= .int .i64 (e:Int)/\i=h) cV Y Y Y Y (mr (b.of Y)) Tryz.func32 Fc Y (jX Y Y Y).symm (IC Y (by simp only[put_defers];exact s) (by kernel_rfl)) (λh o t=>G h (λm r L T=>o m r ((g.at_ m (Ub.1 L).1).trans L) T) (Uy g.size t)) λv h i E o t R A V j=>?_;obtain⟨rfl,-⟩:=A;replace b:=b.put (d:=38) (by decide) (.int .i64 (e:Int));refine m0 d b aO λb=>?_;refine gX d b λb=>?_;refine ak d ?_;refine pL d ?_;have S:E.heap[D]? =I (.deferred (I [])):=(j.at_ D (Ud B g.size)).trans ((g.at_ D B).trans u);refine tN (by simp only[put_defers];exact s) S (by kernel_rfl) Y λO ar z x al X ao ab aq=>?_;replace b:=b.same z;have p:=gI (P:=T4) Tryz.results13 (b.slot 8 _ Y) (b.slot 9 _ Y);refine je d Y x Tryz.func13 p.1 p.2 ?_;have:=J ar ⟨λl k y=>(X l (Ud k (Uy g.size j.size)) y).trans ((j.at_ l (Ud k g.size)).trans (g.at_ l k)),Uy g.size (Uy j.size al),ao.trans (j.tape.trans g.tape),ab.trans (j.os.trans g.os),aq.trans (j.output.trans g.output)⟩;rw[if_neg H] at this;exact this
end
def Nu (fn:WC):WV:=match fn.body with
 |some (.seq _ (.seq _ (.seq _ (.seq _ (.seq (.seq _ (.block _ c)) _)))))=>c
 |_=>.skip
section
variable {Post:U->F->Prop}{cs:List Ut}{w:F}{a:V6}{c:Ut}{l:List (bL×Int)}{bs:List Bd}{ah:List Int}{rs:List cF}{kb ck eb ce db:Nat}{dO:Option UJ}{cS ni:Nat->Nat}{co:Option UJ}{cb bE aJ:Nat}{ro:Option UJ}{rb bh aN:Nat}{V:Nat->Nat->List aE}{dh:Nat}{sk:Bool}{cu xb bx vu:Nat}
structure QM(w w':F)(vu cu bx:Nat)(q:Array U)(res:List dy×Nat×Nat)(D:Nat)(rv:U):Prop where
 d:w'.heap[D]? =I (.deferred (I []))
 dl:w.heap.size<=D
 c:w'.heap[cu]? =I (.cells (jB q res.2.1 res.2.2) 119 (0,0))
 b:w'.heap[bx]? =I (.cells #[rv] 26 (0,0))
 own:sI w' vu rv (res.1.map VU)
 keep:∀x,x<vu->w'.heap[x]? =w.heap[x]?
 size:w.heap.size<=w'.heap.size
 tape:w'.tape=w.tape
 os:w'.os=w.os
 output:w'.output=w.output
def GI(q:FQ l bs ah rs V)(hF:FM w l bs ah rs kb eb dO db cS ni co cb bE ro rb bh)(aa:∀x,zN kb eb db cS cb rb bs.length ah.length rs.length x->x<cu)(b6:vu<=cu)(cc:cu<bx)(ci:bx<xb)
 (hc:w.heap[cu]? =I (.cells (jB (gF kb l.length ck eb l.length ce dO bs.length dh co ah.length aJ ro rs.length aN sk) 0 0) 119 (0,0))) (Q:w.heap[bx]? =I (.cells #[aO] 26 (0,0))) (d:w.heap[xb]? =I (.cells #[.pointer (I ⟨cu,0,K⟩)] 74 (0,0)))
 (f:Knows a 40 [(27,.func (.func 53) #[] #[.pointer (I ⟨xb,0,K⟩)]),(12,.pointer (I ⟨bx,0,K⟩)),(10,.pointer (I ⟨cu,0,K⟩))]) (S:a.defers=[])
 (T:∀a' w' D E,Knows a' 40 [(12,.pointer (I ⟨bx,0,K⟩)),(10,.pointer (I ⟨cu,0,K⟩))]->a'.defers=[{target:=.collected D,args:= #[]}]->QM w w' vu cu bx (gF kb l.length ck eb l.length ce dO bs.length dh co ah.length aJ ro rs.length aN sk) (iW sk bs ah rs (aY l.length (ah++rs.map cF.col)) V (λ_=>Z) 0 bs.length [] 0) D E->Xe (aB T4) T4 Post (gh w') ((base 13).at a' [.inBlock 0,.code (zk VT)]) (c::cs) w'):
 Xe (aB T4) T4 Post (gh w) ((base 13).at a [.code (Nu VT),.inBlock 0,.code (zk VT)]) (c::cs) w:=by
 intro ca b n be;have bt:cu<w.heap.size:=(Ub.1 hc).1;have br:bx<w.heap.size:=(Ub.1 Q).1;have bu:xb<w.heap.size:=(Ub.1 d).1;have bm:=n.size;generalize t:A9 (base 13).fn a.tmps #[28,29] (.region 6 (fS VT) T7) (.block 1 (.region 7 (ei VT) T7)) b.heap.size=i;have X:qB i bx:=by
  rw[<-t];exact⟨rfl,rfl,rfl,f.size,f.slot 12 _ Y⟩
 generalize o:(b.alloc (.deferred (I []))).alloc (.loop i)=j;have a1:∀x,x<b.heap.size->j.heap[x]? =b.heap[x]? :=λx d=>by
  rw[<-o];show((b.heap.push _).push _)[x]? =_;rw[VB,if_neg (by simp;omega),VB,if_neg (by omega)]
 have a2:j.heap[b.heap.size]? =I (.deferred (I [])):=by
  rw[<-o];show((b.heap.push _).push _)[b.heap.size]? =_;rw[VB,if_neg (by simp),VB,if_pos Y]
 have a3:j.heap[b.heap.size+1]? =I (.loop i):=by
  rw[<-o];show((b.heap.push _).push _)[b.heap.size+1]? =_;rw[VB,if_pos (by simp)]
 have b5:j.heap.size=b.heap.size+2:=by
  rw[<-o];show((b.heap.push _).push _).size=_;simp
 have m:∀x,x<w.heap.size->j.heap[x]? =w.heap[x]? :=λx d=>(a1 x (by omega)).trans (n.at_ x d);let ad:Nat->Prop:=λx=>x=b.heap.size+1\/x=b.heap.size\/x=bx;have bl:i.state= .ready:=by rw[<-t];rfl
 have bj:i.pending=K:=by rw[<-t];rfl
 have a5:lM (b.heap.size+1) b.heap.size bx i [] ad j:=by
  refine⟨bl,bj,a3,a2,aO,[],(m bx br).trans Q,Vp _ _ _ _,λu x h=>by simp at h,λu cl v G e h=>by simp at h,λx=>?_⟩;show(x=_\/x=_\/x=_)↔_;simp[Vz]
 have R:=Jk (Post:=Post) (cu:=cu) (xb:=xb) (n0:=0) (e0:=0) (Ks (Post:=Post) (D:=b.heap.size) (l:=b.heap.size+1) X) q a5 (λb1 a9 cf=>hF.kept (by omega) λx d=>by
  have g:=aa x d;refine λbv bd a8=>a9 x (by omega) (λh=>?_) (by omega) bv ((m x (by omega)).trans bd) a8;rcases h with h|h|h<;>omega) (λaz h=>by
  have g:=aa db (.inr (.inr (.inl ⟨az,rfl⟩)));rcases h with h|h|h<;>omega) (λh=>by rcases h with h|h|h<;>omega) (λh=>by rcases h with h|h|h<;>omega) (by omega) ((m xb bu).trans d) ((m cu bt).trans hc)
 generalize iW sk bs ah rs (aY l.length (ah++rs.map cF.col)) V (λ_=>Z) 0 bs.length [] 0=bA at R T;subst o;subst t;refine MU cV (g:=.tmp 27) (gf:=53) (cap:= #[.pointer (I ⟨xb,0,K⟩)]) (f.of Y) (λargs w=>ay.call53 args w) (.inl (jX Y Y Y).symm) R (λv r a4 A=>?_) (λb4 w' h=>by cases h.1) (λw' h=>by cases h.1) (λs h=>?_) (dJ Y S (by kernel_rfl)) be
 ·obtain⟨-,⟨J,a6,bb⟩,bc,ba,ch⟩:=a4;obtain⟨ao,M,N,ap,E,bB,aq,ar,av,aw,O⟩:=a6;refine Ee cV N (zl X M) (by rw[ao];decide) M (by intro s;simp) ?_;intro _ bi;refine Xe.go (own:=gh _) (T _ _ b.heap.size E ?_ (by show _::a.defers=_;rw[S]) ?_) (λb3 h=>h) bi
  ·exact((f.nil.cons (f.slot 10 _ Y)).cons (f.slot 12 _ Y)).same Y
  ·have a7:∀x,J x->vu<=x:=λx d=>by
    rcases bb x d with h|h
    ·rcases h with h|h|h<;>omega
    ·omega
   have cd:b.heap.size+1<r.heap.size:=by omega
   have p:∀x,x≠b.heap.size+1->(r.putObj (b.heap.size+1) (.loop {A9 (base 13).fn a.tmps #[28,29] (.region 6 (fS VT) T7) (.block 1 (.region 7 (ei VT) T7)) b.heap.size with state:=.exhausted})).heap[x]? =r.heap[x]? :=λx d=>World.putObj_heap_other d;have ab:∀{k:Uh} {F C:Nat} {v:U} {H:List U},r.ownsRow 0 k F v C H->(∀e,v.ownBlock=I e->J e)->(r.putObj (b.heap.size+1) (.loop {A9 (base 13).fn a.tmps #[28,29] (.region 6 (fS VT) T7) (.block 1 (.region 7 (ei VT) T7)) b.heap.size with state:=.exhausted})).ownsRow vu k F v C H:=λ{k F C v H} h bo=>by
    obtain⟨W,⟨g,P⟩|⟨e,al,am,g,P,y,a0⟩⟩:=h
    ·exact⟨W,.inl ⟨g,P⟩⟩
    ·refine⟨W,.inr ⟨e,al,am,g,a7 e (bo e (by rw[g];rfl)),(p e (λk=>?_)).trans y,a0⟩⟩;rw[k,N] at y;cases y
   refine⟨(p _ (by omega)).trans ap,bm,(p _ (by omega)).trans ba,(p _ (by omega)).trans aq,⟨bB,by rw[UG];exact ab ar (λe z=>(O e).2 (.inr (.inr (.inr (.inl z.symm))))),λu x d=>?_,aw⟩,λx d=>?_,?_,A.tape.trans n.tape,A.os.trans n.os,A.output.trans n.output⟩
   ·rw[List.getElem?_map] at d;cases B:bA.1[u]? with
    |none=>rw[B] at d;cases d
    |some b0=>
     rw[B] at d;simp only[V3,U8] at d;subst d;obtain⟨G,L,b2,ae⟩:=av u b0 B;exact⟨G,L,ab ae λe z=>(O e).2 (.inr (.inr (.inr (.inr ⟨G,VD L,z.symm⟩))))⟩
   ·refine(p x (by omega)).trans ((bc x (by omega) (λh=>?_) (by omega)).trans (m x (by omega)));rcases h with h|h|h<;>omega
   ·rw[World.putObj_size];omega
 ·rw[enter_at _ ay.func53 Y] at h;cases h
end
end Cc
namespace Cc
open Go Go.Conc
open Go.RowKit (Below)
open Ec (aE aH cF dB qv bL Bd aY fZ vp p8 kX mF xN)
def Oh(w:F):(zeroValue 26).run T4 w= .ok aO w:=Tryz.zeroValue26 w
section
variable {Post:U->F->Prop}{s:ByteArray}{F0:Fp}{V:Nat->Nat->List aE}{ah:List Int}{rs:List cF}{co:Option UJ}{cb bE aJ:Nat}{ro:Option UJ}{rb bh aN:Nat}{sk:Bool}{w0:F}
def GH(ca:s.size<=Uq)(hF:rT s F0)(bo:xF F0 V)(aw:ah.length<=1000)(a1:rs.length<=1000)
 (bv:0<ah.length->co=I ⟨cb,bE,K⟩) (bA:0<ah.length->cb<w0.heap.size) (bx:∀j,j<ah.length->aM w0 cb (bE+j) (.int .i64 (ah.getD j 0))) (cl:dB w0 ro rb bh rs):
 mi (aB T4) T4 Post 13 #[.string s,.slice co ah.length aJ,.slice ro rs.length aN,.bool sk] w0 (Dg (oM F0 V ah rs sk) w0):=by
 intro dd df a3 ds ch ar;have b:=ir (aB T4) T4 Post;refine Xe.go (own:=gh w0) ?_ (λc d=>d) ch;rw[enter_at _ Tryz.func13 Y];have a:=TL (.string s) (.slice co ah.length aJ) (.slice ro rs.length aN) (.bool sk) 40 (by decide);refine aS b ?_;refine bq b [0,1] Y ?_;refine m0 b a aO λa=>?_;refine m0 b a (.int .i64 0) λa=>?_;refine ak b ?_;refine aS b ?_;refine bq b [0,1,2,3,4,5,6,7,8,9] Y ?_;refine cH b a λa=>?_;refine cH b a λa=>?_;refine cH b a λa=>?_;refine cH b a λa=>?_;refine oX (vs:= #[.string s,.slice co ah.length aJ,.slice ro rs.length aN,.bool sk]) (R:=λn v w=>vp n F0 ah rs sk (.returned v) w) cV Y Y Y Y (xK (a.of Y) (a.of Y) (a.of Y) (a.of Y)) Tryz.func31 R1 Y (jX Y Y Y).symm (dJ Y (by simp only[put_defers]) (by kernel_rfl)) (λn L F=>?_) λv n w u L F dl cp S g=>?_
 ·refine(p8 s F0 ah rs co cb bE aJ ro rb bh aN sk n ca hF aw a1 bv (λd=>Ud (bA d) F) (λj b4=>nh L (bx j b4)) (Pv L F cl)).mono λk w d=>⟨d.1,?_⟩
  ·rcases d.2 with⟨_,rfl⟩|⟨p,f,r,T,bi,Q,be,al,O,dh,cS,ni,ae,N,bd,a7,W,c6,_,_,rfl,_⟩
   ·exact⟨_,rfl,d⟩
   ·exact⟨_,rfl,d⟩
 ·rcases cp.2 with⟨cf,k⟩|⟨p,f,r,T,bi,Q,be,al,O,dh,cS,ni,ae,N,bd,a7,W,c6,J,aq,k,bB,M,bl,a5⟩
  ·have P:=YA k;subst P;have cc:jz F0 ah rs≠0:=cf;generalize cd:jz F0 ah rs=m at*;replace a:=a.put (d:=20) (by decide) (.tuple #[.pointer K,.int .i64 (m:Int)]);refine cH b a λa=>?_;refine ri b a λa=>?_;refine ri b a λa=>?_;refine gX b a λa=>?_;refine gX b a λa=>?_;refine ak b ?_;refine aS b ?_;refine aS b ?_;refine bq b [0,1] Y ?_;refine cH b a λa=>?_;refine dD b a Y (.bool Z) (qK (c:=Z) Y (a.of Y) Y (by simp;omega)) λa=>?_;refine ak b ?_;refine dn b Z (a.of Y) ?_;refine aS b ?_;refine bq b [0,1,2] Y ?_;refine cH b a λa=>?_;refine m0 b a aO λa=>?_;refine gX b a λa=>?_;refine ak b ?_;refine pL b ?_;have a0:=gI (P:=T4) Tryz.results13 (a.slot 8 _ Y) (a.slot 9 _ Y);refine je b Y (by simp only[put_defers]) Tryz.func13 a0.1 a0.2 ?_;intro _ H h ci;have A:oM F0 V ah rs sk=([],m):=by
    unfold oM;rw[cd,if_neg cc]
   refine ar (.returned (.tuple #[aO,.int .i64 (m:Int)])) H ⟨aO,by rw[A],by rw[A];exact sI.nil _ _,λ_=>rfl,λc e=>(h.at_ c (Ud e g.size)).trans (g.at_ c e),Uy g.size h.size⟩ ci ⟨h.tape.trans g.tape,h.os.trans g.os,h.output.trans g.output,Uy g.size h.size⟩ (n8 a3 _)
  ·have P:=YA k;subst P;have b0:=Uy F bB;replace M:=S.row.1 M;have bm:FM u p f ah rs T Q al O cS ni ae N 0 a7 W 0:=bl.kept (by rw[S.size];exact T8 _) (λc _=>MI S);have c0:r<u.heap.size:=(Ub.1 M).1;replace a:=a.put (d:=20) (by decide) (.tuple #[.pointer (I ⟨r,0,K⟩),.int .i64 0]);refine cH b a λa=>?_;refine ri b a λa=>?_;refine ri b a λa=>?_;refine gX b a λa=>?_;refine gX b a λa=>?_;refine ak b ?_;refine aS b ?_;refine aS b ?_;refine bq b [0,1] Y ?_;refine cH b a λa=>?_;refine dD b a Y (.bool T7) (qK (c:=T7) Y (a.of Y) Y (by decide)) λa=>?_;refine ak b ?_;refine dn b T7 (a.of Y) ?_;refine ij b ?_;refine aS b ?_;refine bq b [0] Y ?_;refine mB b (λc e=>e.elim Yq (λd=>d)) (by decide) Y Y (.cells #[aO] 26) trivial (λG=>.pointer (I ⟨G,0,K⟩)) (sZ Y Oh) λB dE dr du E bu=>?_;replace a:=a.put (d:=12) (by decide) (.pointer (I ⟨B,0,K⟩));refine ak b ?_;refine RQ λH h=>?_;have x:RelB (gh u) u H:=⟨λc e=>(h.at_ c (.inl e)).trans (E.at_ c (.inr e)),Uy E.size h.size,h.tape.trans E.tape,h.os.trans E.os,h.output.trans E.output⟩;have av:H.heap[B]? =I (.cells #[aO] 26 (0,0)):=(h.at_ B (.inr Y)).trans bu;have cR:B<H.heap.size:=(Ub.1 av).1;refine aS b ?_;refine aS b ?_;refine bq b [0,1] Y ?_;refine cH b a λa=>?_;refine oX (vs:= #[.pointer (I ⟨r,0,K⟩)]) (R:=λn v w=>v= .func (.func 53) #[] #[.pointer (I ⟨n.heap.size,0,K⟩)]/\w=n.alloc (.cells #[.pointer (I ⟨r,0,K⟩)] 74)) cV Y Y Y Y (mr (a.of Y)) Tryz.func36 K6 Y (jX Y Y Y).symm (dJ Y (by simp only[put_defers]) (by kernel_rfl)) (λn L F=>(kX r n).mono λk w ⟨ap,C⟩=>⟨by rw[C];exact(Below.refl _ _).alloc (T8 _) _,_,ap,rfl,C⟩) λv bc da a9 dq dt dp cs bs y=>?_;obtain⟨rfl,br⟩:=cs;generalize cv:bc.heap.size=ba at*;have cu:a9.heap[ba]? =I (.cells #[.pointer (I ⟨r,0,K⟩)] 74 (0,0)):=by
    refine bs.row.1 ?_;rw[br,<-cv];exact Ec.bk _ _
   replace a:=a.put (d:=27) (by decide) (.func (.func 53) #[] #[.pointer (I ⟨ba,0,K⟩)]);refine ak b ?_;refine gB b ?_;have bt:wI p.length ah rs=Z:=by
    obtain⟨dv,dc,am,bj,_⟩:=I1 aq;rw[J] at am;cases am;exact bj
   have b2:fZ s p f:=by
    rw[J] at hF;exact hF.1
   have o:RelB (gh u) u a9:=⟨λc e=>(y.at_ c (Ud e x.size)).trans (x.at_ c e),Uy x.size y.size,y.tape.trans x.tape,y.os.trans x.os,y.output.trans x.output⟩;have b6:∀l,zN T Q O cS N W f.length ah.length rs.length l->l<u.heap.size:=λl t=>by have:=(a5 l t).2;omega
   refine GI (vu:=w0.heap.size) (Sl b2 bt aw a1 (J▸bo)) (bm.kept o.size λl t=>D3 (o.at_ l (b6 l t))) (λl t=>(a5 l t).2) b0 (by omega) (by omega) ((o.at_ r c0).trans M) ((y.at_ B cR).trans av) cu (((a.nil.cons (a.slot 10 _ Y)).cons (a.slot 12 _ Y)).cons (a.slot 27 _ Y)) (by simp only[put_defers]) λdb c9 D a8 bb b1 i=>?_;refine Kv bb b1 i.d i.c Y i.b λdO q=>?_;intro _ ab z ck;have a4:=Uy g.size (Uy o.size i.size);have cn:sw F0 V ah rs sk (λ_=>Z)=iW sk f ah rs (aY p.length (ah++rs.map cF.col)) V (λ_=>Z) 0 f.length [] 0:=by rw[J];rfl
   have A:oM F0 V ah rs sk=if (iW sk f ah rs (aY p.length (ah++rs.map cF.col)) V (λ_=>Z) 0 f.length [] 0).2.2=0 then((iW sk f ah rs (aY p.length (ah++rs.map cF.col)) V (λ_=>Z) 0 f.length [] 0).1.map VU,0) else([],(iW sk f ah rs (aY p.length (ah++rs.map cF.col)) V (λ_=>Z) 0 f.length [] 0).2.2):=by
    unfold oM;rw[if_pos aq,cn]
   generalize iW sk f ah rs (aY p.length (ah++rs.map cF.col)) V (λ_=>Z) 0 f.length [] 0=X at*;have dC:=Uy g.size (Uy o.size i.dl);have b5:∀c,c<w0.heap.size->ab.heap[c]? =w0.heap[c]? :=λc e=>(z.at_ c (Ud e (Uy a4 q.size))).trans ((q.at_ c (by omega) (by omega)).trans ((i.keep c e).trans ((o.at_ c (Ud e g.size)).trans (g.at_ c e))));have a2:=Uy a4 (Uy q.size z.size);refine ar (.returned (.tuple #[if X.2.2=0 then a8 else aO,.int .i64 (X.2.2:Int)])) ab ⟨if X.2.2=0 then a8 else aO,?_,?_,?_,b5,a2⟩ ck ⟨z.tape.trans (q.tape.trans (i.tape.trans (o.tape.trans g.tape))),z.os.trans (q.os.trans (i.os.trans (o.os.trans g.os))),z.output.trans (q.output.trans (i.output.trans (o.output.trans g.output))),a2⟩ (n8 a3 _)
   ·rw[A]
    split
    ·rename_i R;rw[R]
    ·rfl
   ·rw[A]
    split
    ·obtain⟨c8,c1,c2,c3⟩:=i.own;have a6:∀{k:Uh} {aa G:Nat} {v:U} {ad:List U},c9.ownsRow w0.heap.size k aa v G ad->ab.ownsRow w0.heap.size k aa v G ad:=λ{k aa G v ad} d=>jW d (T8 _) λao b3 ap C=>by
      refine(z.at_ ao (Ud C q.size)).trans (q.at_ ao C λk=>?_);obtain⟨dk,az⟩:=Ec.Gk d b3;rw[k,i.d] at az;cases az
     exact⟨c8,a6 c1,λcx l t=>by
      obtain⟨c7,c4,c5⟩:=c2 cx l t;exact⟨c7,c4,a6 c5⟩,c3⟩
    ·exact sI.nil _ _
   ·rw[A];intro d
    split at d
    ·exact absurd Y d
    ·rename_i R;rw[if_neg R]
end
end Cc
namespace Cc
open Go Go.Conc
open Ec
def OR(s:ByteArray)(w0:F)(e:s.size<=Uq):∃b,rT s b:=by
 obtain⟨k,m,l,⟨_,a⟩,_⟩:=uA s w0 e [];rcases a with⟨f,bs,g,h,i,j,_,c,_,_,d⟩|⟨_,a⟩
 ·exact⟨I (f,bs),c,d⟩
 ·exact⟨K,a⟩
def PX(s:ByteArray)(k e cn:Int)(w0:F)(g:s.size<=Uq):∃vs,pp s k e cn vs:=by
 obtain⟨n,m,j,⟨_,a⟩,_⟩:=pK s k e cn w0 g [];rcases a with⟨a,_⟩|⟨b,rfl,d,c,l,⟨v,i,_,_,f⟩|⟨_,h⟩⟩
 ·exact⟨[],.inr ⟨rfl,.inl a⟩⟩
 ·exact⟨i,.inl ⟨b,rfl,d,c,f⟩⟩
 ·exact⟨[],.inr ⟨rfl,.inr ⟨b,rfl,h⟩⟩⟩
def Mp{s:ByteArray}{i:Fp}(w0:F)(hF:rT s i):∃V,xF i V:=by
 cases i with
 |none=>exact⟨λ_ _=>[],trivial⟩
 |some v=>
  obtain⟨p,bs⟩:=v;have o:∀e c:Nat,∃l,∀b d a,bs[e]? =I b->b.chunks[c]? =I d->p[c]? =I a->pp d.text a.1.kind a.2 (b.rows:Int) l:=λe c=>by
   cases k:bs[e]? with
   |none=>exact⟨[],λb d a h=>by cases h⟩
   |some b=>
    cases g:b.chunks[c]? with
    |none=>exact⟨[],λm d a h f=>by cases h;rw[g] at f;cases f⟩
    |some d=>
     cases n:p[c]? with
     |none=>exact⟨[],λm d a h f j=>by cases j⟩
     |some a=>
      have t:d.text.size<=Uq:=by
       obtain⟨r,rfl⟩:=UA.1 g;have:=((hF.1.1.b9 b (VD k)).each c r).n;unfold Uq;omega
      obtain⟨l,u⟩:=PX d.text a.1.kind a.2 (b.rows:Int) w0 t;exact⟨l,λm w x q f j=>by
       cases q;rw[g] at f;cases f;cases j;exact u⟩
  exact⟨λe c=>Vq (o e c),λe b k c d a g n=>Uv (o e c) b d a k g n⟩
theorem DR:∀(a pre:List dy),feed (λ_=>Z) pre a=(pre++a,Z)
 | [],pre=>by simp[feed]
 |x::a,pre=>by
  rw[uv,if_pos Y,DR a (pre++[x])];simp
section
variable {bs:List Bd}{ah:List Int}{rs:List cF}{ws:List Bool}{V:Nat->Nat->List aE}
def Nr(sk:Bool)(r i:Nat)(pre:List dy)(n:Nat):iW sk bs ah rs ws V (λ_=>Z) i (r+1) pre n=if sk&&tc bs rs i then iW sk bs ah rs ws V (λ_=>Z) (i+1) r pre n else if Le bs ws V i then iW sk bs ah rs ws V (λ_=>Z) (i+1) r (pre++ix bs ah rs V i) (n+1) else(pre,n+1,3):=by
 rw[iW,DR];simp
end
end Cc
namespace Ec
open Go.RowKit Pk Pm
theorem xW:∀A B C:List UInt8,Vd A B<=0->Vd B C<=0->Vd A C<=0
 | [],B,[],_,_=>by simp[Vd]
 | [],B,_::_,_,_=>by simp[Vd]
 |_::_,[],C,b,_=>by simp[Vd] at b
 |_::_,_::_,[],_,b=>by simp[Vd] at b
 |a::A,h::B,i::C,b,c=>by
  have f:=xW A B C;simp only[Vd] at b c ⊢;have g:∀d e:UInt8,d<e↔d.toNat<e.toNat:=λd e=>UInt8.lt_iff_toNat_lt;simp only[g] at b c ⊢
  split at b
  ·split at c
   ·rw[if_pos (by omega)];omega
   ·split at c
    ·omega
    ·rw[if_pos (by omega)];omega
  ·split at b
   ·omega
   ·split at c
    ·rw[if_pos (by omega)];omega
    ·split at c
     ·omega
     ·rw[if_neg (by omega),if_neg (by omega)];exact f b c
def oU{x y z:aE}(h:fp x y<=0)(a:fp y z<=0):fp x z<=0:=by
 unfold fp at h a ⊢
 split at h
 ·split at a
  ·rw[if_pos (by omega)];omega
  ·split at a
   ·omega
   ·rw[if_pos (by omega)];omega
 ·split at h
  ·omega
  ·split at a
   ·rw[if_pos (by omega)];omega
   ·split at a
    ·omega
    ·rw[if_neg (by omega),if_neg (by omega)];exact xW _ _ _ h a
def Da (l:List aE)(b:lB):Prop:=(b=cE/\∀a∈l,a.null=Z)\/(b.there=Z/\b.least∈l/\b.least.null=T7/\b.most∈l/\b.most.null=T7/\∀a∈l,a.null=T7->fp b.least a<=0/\fp a b.most<=0)
def FA{l:List aE}{b:lB}(h:Da l b)(v:aE):Da (l++[v]) (nX b v):=by
 unfold nX;cases f:v.null with
 |true=>
  rw[if_pos Y];rcases h with⟨g,e⟩|⟨g,e,i,j,k,m⟩
  ·refine .inl ⟨g,λd a=>?_⟩;rcases U1.1 a with a|a
   ·exact e d a
   ·simp at a;rw[a];exact f
  ·refine .inr ⟨g,List.mem_append_left _ e,i,List.mem_append_left _ j,k,λd a c=>?_⟩;rcases U1.1 a with a|a
   ·exact m d a c
   ·simp at a;rw[a,f] at c;cases c
 |false=>
  rw[if_neg (by simp)];rcases h with⟨rfl,e⟩|⟨g,e,i,j,k,m⟩
  ·refine .inr ⟨rfl,?_,?_,?_,?_,λd a c=>?_⟩
   ·simp[cE]
   ·simp[cE,f]
   ·simp[cE]
   ·simp[cE,f]
   ·rcases U1.1 a with a|a
    ·rw[e d a] at c;cases c
    ·simp at a;subst a;simp[cE,vh]
  ·have p:v∈l++[v]:=by simp
   refine .inr ⟨rfl,?_,?_,?_,?_,λd a c=>?_⟩
   ·dsimp only;split
    ·exact p
    ·exact List.mem_append_left _ e
   ·dsimp only;split
    ·exact f
    ·exact i
   ·dsimp only;split
    ·exact p
    ·exact List.mem_append_left _ j
   ·dsimp only;split
    ·exact f
    ·exact k
   ·dsimp only;simp only[g,Bool.true_eq_false,false_or];rcases U1.1 a with a|a
    ·obtain⟨n,o⟩:=m d a c;constructor
     ·split
      ·rename_i h;exact oU (by omega) n
      ·exact n
     ·split
      ·rename_i h;exact oU o (by have:=mg v b.most;omega)
      ·exact o
    ·simp at a;subst a;constructor
     ·split
      ·rw[vh];omega
      ·rename_i h;have:=mg b.least d;omega
     ·split
      ·rw[vh];omega
      ·rename_i h;omega
def Qw(l:List aE):Da l (cw l):=by
 have g:∀(a l:List aE) (b:lB),Da l b->Da (l++a) (a.foldl nX b):=by
  intro a
  induction a with
  |nil=>intro l b c;simpa using c
  |cons d a f=>
   intro l b c;have:=f (l++[d]) _ (FA c d);rw[UC] at this;exact this
 exact g l [] cE (.inl ⟨rfl,λd e=>by cases e⟩)
def QX{k:Int}{l:List aE}(h:∀x∈l,VC k x):Lf k (cw l):=by
 rcases Qw l with⟨b,_⟩|⟨b,c,d,f,g,i⟩
 ·exact .inl b
 ·have e:∀x∈l,x.null=T7->VK k x:=λx m j=>by
   rcases h x m with⟨a,_⟩|a
   ·rw[j] at a;cases a
   ·exact a
  exact .inr ⟨b,e _ c d,e _ f g,by have:=(i _ c d).2;omega⟩
def sR{α:Type}{f:α->List Nat}{l:List α}(h:∀a∈l,∀x∈f a,x<256):∀x∈l.flatMap f,x<256:=λx b=>by
 obtain⟨a,c,b⟩:=List.mem_flatMap.1 b;exact h a c x b
def kw{a b:List Nat}(h1:∀x∈a,x<256)(c:∀x∈b,x<256):∀x∈a++b,x<256:=λx d=>(U1.1 d).elim (h1 x) (c x)
def I8(k:Int)(b:lB):∀x∈cq k b,x<256:=by
 unfold cq
 split
 ·exact kw (by simp) (kw (uH _ _) (uH _ _))
 ·simp
def OG(cs:List bL)(es:List Int)(i:Nat):∀x∈xY cs es i,x<256:=by
 unfold xY;refine kw (kS _) (kw (jA _) λx a=>?_);simp only[VM,XQ,or_false] at a;rcases a with rfl|rfl<;>exact nY _
def M3(cs:List bL)(l:List kq)(n:Nat):∀x∈fo cs l n,x<256:=by
 unfold fo;refine sR λa _=>?_;unfold o8;exact kw (kS _) (I8 _ _)
def Mh(cs:List bL)(es:List Int)(bs:List Bd):∀x∈ji cs es bs,x<256:=by
 unfold ji;refine kw (kS _) (kw (sR λa _=>OG cs es a) (kw (kS _) (sR λb _=>?_)));unfold ek;exact kw (kS _) (M3 _ _ _)
def D5:∀x∈dN,x<256:=by decide
def Pa(n:Nat):∀x∈iA n,x<256:=by
 intro x a;unfold iA at a;simp only[VM,XQ,or_false] at a;omega
def Me(cs:List bL)(es:List Int)(bs:List Bd):∀x∈vB cs es bs,x<256:=by
 unfold vB;exact kw D5 (kw (sR λa _=>sR λb _=>jA _) (kw (Mh _ _ _) (kw (Pa _) D5)))
section
variable {cs:List bL}{rows:List (List aE)}{es:List Int}{bd:Nat}
def tP(h:mZ cs rows es bd):(cs.zip es).map Ux=cs:=List.map_fst_zip (by rw[h.FW];exact T8 _)
def IU(h:mZ cs rows es bd):(cs.zip es).map VU=es:=List.map_snd_zip (by rw[h.FW];exact T8 _)
theorem BT(rows:List (List aE)){bd:Nat}(a:0<bd):∀n,((UK n).map λj=>(bY rows bd j).length).sum=min (n*bd) rows.length
 |0=>by simp
 |n+1=>by
  rw[XI,U0,List.sum_append,BT rows a n];simp only[Xw,List.map_nil,List.sum_cons,List.sum_nil,iu,Nat.succ_mul];omega
def xP(h:mZ cs rows es bd)(bo:Bool):eV (bP rows cs es bo bd (b7 rows.length bd))=rows.length:=by
 unfold eV bP;rw[List.map_map];have:=BT rows h.lo (b7 rows.length bd);have c:((λb:Bd=>b.rows) ∘ λa=>gL (bY rows bd a) cs es bo)=λa=>(bY rows bd a).length:=rfl;rw[c,this];have e:¬b7 rows.length bd*bd<rows.length:=λd=>Nat.lt_irrefl _ ((mw (len:=rows.length) h.lo (b7 rows.length bd)).1 d);omega
def mZ.vc(h:mZ cs rows es bd)(j p:Nat)(a:p<cs.length):∀x∈bI (bY rows bd j) p,VC cs[p].kind x:=by
 intro x e;unfold bI at e;obtain⟨f,k,rfl⟩:=U7.1 e;have d:=DG k;obtain⟨m,g,l⟩:=Vv d;have c:=h.table.2.2 m g;rw[l] at c;have b:p<f.length:=by rw[c.1];exact a
 have i:=c.2 p b a;rw[Ui,Um b];exact KV (gw h.table.1 _ (Uj a)) (h.vals f d _ (Uj b)) i
def pV(h:mZ cs rows es bd)(bo:Bool)(j:(eC cs rows es bo bd).length<=65536):fZ (strOf (eC cs rows es bo bd)) (cs.zip es) (bP rows cs es bo bd (b7 rows.length bd)):=by
 refine⟨⟨⟨by rw[tP h];exact h.table.1,by rw[tP h,IU h];exact h.eI⟩,λl d=>?_,by rw[xP h bo];exact h.table.2.1⟩,by rw[kK];exact j,?_⟩
 ·rw[tP h];unfold bP at d;obtain⟨a,g,rfl⟩:=U7.1 d;have p:=(mw (len:=rows.length) h.lo a).2 (Vt.1 g);have e:(gL (bY rows bd a) cs es bo).rows=min bd (rows.length-a*bd):=iu;have m:=h.lo;have n:=h.hi;refine⟨by rw[e];omega,by rw[e];omega,cT _ _ _ _ _,λb o=>?_⟩;have c:b<cs.length:=by
   have:(gL (bY rows bd a) cs es bo).chunks.length=cs.length:=cT _ _ _ _ _;omega
  have f:(gL (bY rows bd a) cs es bo).chunks[b]=BQ (bY rows bd a) cs es bo b:=by simp[gL,eu]
  rw[f];have k:BQ (bY rows bd a) cs es bo b∈eu (bY rows bd a) cs es bo cs.length:=U7.2 ⟨b,Vt.2 c,rfl⟩;have q:=(h.chunks bo a _ k).1;refine⟨by omega,?_⟩;have i:(cs.getD b ⟨⟨#[]⟩,0⟩).kind=cs[b].kind:=by rw[Ui,Um c];rfl
  rw[i,h.lN bo a b c];cases bo with
  |false=>exact .inl Y
  |true=>exact QX (h.vc a b c)
 ·unfold eC;rw[nG _ (Me _ _ _)];unfold vB;rw[<-Mg,tP h,IU h]
end
def MY{cs:List bL}{b:List (List aE)}{es:List Int}{a:Int}(h:iH cs b)(d:mq a es cs)(e:∀r∈b,∀x∈r,rC x):mZ cs b es a.toNat/\a=(a.toNat:Int):=by
 obtain⟨f,g,c⟩:=d;exact⟨⟨h,c,by omega,by omega,e⟩,by omega⟩
def GG{es:List Int}(a3:(∀e∈es,e=0)\/xE/\rS)(cs:List bL)(a:List (List aE))(b:Int)(bo:Bool)(aw a9 az:U)(w:F)(ae:cs.length<=Uq)(a4:a.length<=Uq)(a5:∀r∈a,r.length<=Uq)(a6:es.length<=Uq)(a8:∀r∈a,∀x∈r,rC x)
 (E:vn w aw cs) (Q:AB w a9 a) (O:rA w az es):
 bH 20 #[.agg #[aw,a9],.agg #[.int .i64 b,az,.bool bo]] w λe w'=>∃s n,e= .returned (.tuple #[.string s,.int .i64 n])/\Lq cs a b es bo s n/\aP w w':=by
 have bb:=af a3;clear a3;have bl:=E;have br:=Q;have bm:=O;obtain⟨d,bu,bE,aJ,rfl,bx,-⟩:=bl;obtain⟨l,bB,bh,aN,rfl,bA,-⟩:=br;obtain⟨h,bv,jg,bW,rfl,-,-,-⟩:=bm;have ao:=af E;have bc:=af Q;have ap:=af O;have bd:=af a8;have K:X (∀c,aP w c->bH 40 #[.agg #[.slice d cs.length aJ,.slice l a.length aN]] c λe w'=>∃A,e= .returned (.bool A)/\(A=Z↔iH cs a)/\aP c w'):=λc k=>
  D1 cs a _ _ c ae a4 a5 (E.below k) (Q.below k)
 have J:X (∀c,aP w c->bH 41 #[.agg #[.int .i64 b,.slice h es.length bW,.bool bo],.slice d cs.length aJ] c λe w'=>∃A,e= .returned (.bool A)/\(A=Z↔mq b es cs)/\aP c w'):=λc k=>
  xM b es bo cs _ _ c ae a6 (E.below k) (O.lower k)
 clear E Q O ae a4 a5 a6 a8;go_enter ay.func20,Tryz.ntmps20
 go_upto_region 1 with fail
 have a1:aP w ((w.alloc (.cells #[.slice d cs.length aJ,.slice l a.length aN] 46)).alloc (.cells #[.int .i64 b,.slice h es.length bW,.bool bo] 48)):=gA _ _;have al:((w.alloc (.cells #[.slice d cs.length aJ,.slice l a.length aN] 46)).alloc (.cells #[.int .i64 b,.slice h es.length bW,.bool bo] 48)).heap[w.heap.size]? =I (.cells #[.slice d cs.length aJ,.slice l a.length aN] 46 (0,0)):=alloc_old _ (by simp) (bk w _);have am:((w.alloc (.cells #[.slice d cs.length aJ,.slice l a.length aN] 46)).alloc (.cells #[.int .i64 b,.slice h es.length bW,.bool bo] 48)).heap[w.heap.size+1]? =I (.cells #[.int .i64 b,.slice h es.length bW,.bool bo] 48 (0,0)):=jH w _ _;generalize (w.alloc (.cells #[.slice d cs.length aJ,.slice l a.length aN] 46)).alloc (.cells #[.int .i64 b,.slice h es.length bW,.bool bo] 48)=q at*;have y:=af a1;have Y:X (∀c,aP q c->(aM c w.heap.size 0 (.slice d cs.length aJ)/\aM c w.heap.size 1 (.slice l a.length aN))/\aM c (w.heap.size+1) 0 (.int .i64 b)/\aM c (w.heap.size+1) 1 (.slice h es.length bW)/\aM c (w.heap.size+1) 2 (.bool bo)):=λc k=>
  ⟨qA ((k.block _ (Ue al)).trans al),cB ((k.block _ (Ue am)).trans am)⟩
 clear a1 al am;obtain⟨⟨V,W⟩,R,S,T⟩:=Y.o q (Up _ _);by_cases z:iH cs a
 ·have G:X (bH 40 #[.agg #[.slice d cs.length aJ,.slice l a.length aN]] q λe w'=>e= .returned (.bool Z)/\aP q w'):=pP (K.o _ y.o) z;have M:=af z;clear K z
  go_upto_region 3 with(go_at_call 40;refine G.o.mono ?_;rintro e v ⟨rfl,C⟩)
  have o:X (aP w v):=y.o.trans (C.mono y.o.size);have N:=af C;clear V W R S T C G;obtain⟨⟨V,W⟩,R,S,T⟩:=Y.o v N.o;by_cases t:mq b es cs
  ·have H:X (bH 41 #[.agg #[.int .i64 b,.slice h es.length bW,.bool bo],.slice d cs.length aJ] v λe w'=>e= .returned (.bool Z)/\aP v w'):=pP (J.o _ o.o) t;obtain⟨a7,a2⟩:=MY M.o t bd.o;have g:=af a7;have ba:=af a2;have av:=af t;clear J t a7 a2
   go_upto_region 5 with(go_at_call 41;refine H.o.mono ?_;rintro e m ⟨rfl,D⟩)
   have f:X (aP w m):=o.o.trans (D.mono o.o.size);have be:X (aP q m):=N.o.trans (D.mono N.o.size);clear V W R S T D H N o;obtain⟨⟨V,W⟩,R,S,T⟩:=Y.o m be.o;have aq:X (bH 43 #[.agg #[.slice d cs.length aJ,.slice l a.length aN],.agg #[.int .i64 b,.slice h es.length bW,.bool bo]] m λe w'=>∃j i,e= .returned (.agg #[.slice d cs.length aJ,.slice h es.length bW,j])/\i.map Ux=bP a cs es bo b.toNat (b7 a.length b.toNat)/\iY w' m.heap.size j i/\aP m w'):=by
    have k:=F2 bb.o a cs b.toNat bo (.slice l a.length aN) (.slice d cs.length aJ) (.slice h es.length bW) m g.o.lo g.o.hi g.o.table.2.1 g.o.len g.o.vals g.o.table.1.2.1 g.o.FW (bc.o.below f.o) (ao.o.below f.o) (ap.o.lower f.o);rw[<-ba.o] at k;exact k
   have ar:X (∀c j i,aP w c->i.map Ux=bP a cs es bo b.toNat (b7 a.length b.toNat)->(∃base,iY c base j i)->bH 42 #[.agg #[.slice d cs.length aJ,.slice h es.length bW,j]] c λe w'=>e= .returned (.string (strOf (eC cs a es bo b.toNat)))/\aP c w'):=λc j i a0 B aa=>by
    obtain⟨base,aa⟩:=aa;exact Mv cs es (bP a cs es bo b.toNat (b7 a.length b.toNat)) _ _ j c g.o.table.1.2.1 g.o.FW (vI g.o.table.1) (gw g.o.table.1) (by rw[jb];exact g.o.nb) (g.o.b9 bo _) (g.o.pos bo) (g.o.body bo) (ao.o.below a0) (ap.o.lower a0) ⟨base,i,B,aa⟩
   have L:X ((strOf (eC cs a es bo b.toNat)).size=(eC cs a es bo b.toNat).length):=kK _;by_cases P:65536<(eC cs a es bo b.toNat).length
   ·have p:X (Lq cs a b es bo ⟨#[]⟩ 6):=.inr (.inr (.inl ⟨M.o,av.o,P,rfl,rfl⟩));have bi:decide (65536<((strOf (eC cs a es bo b.toNat)).size:Int))=Z:=by rw[L.o];simp;omega
    clear P L;generalize strOf (eC cs a es bo b.toNat)=bj at*
    go_wp2_with (first|(go_at_call 43;refine aq.o.mono ?_;rintro e bs ⟨j,i,rfl,B,ad,u⟩)|(go_at_call 42;refine(ar.o _ j i ?_ B ⟨_,ad⟩).mono ?_;(exact f.o.trans (u.mono f.o.size));rintro e bt ⟨rfl,ab⟩))
    go_ret2
    exact⟨_,_,rfl,p.o,(f.o.trans (u.mono f.o.size)).trans (ab.mono (f.o.trans (u.mono f.o.size)).size)⟩
   ·have p:X (Lq cs a b es bo (strOf (eC cs a es bo b.toNat)) 0):=.inr (.inr (.inr ⟨M.o,av.o,P,rfl,rfl⟩));have bi:decide (65536<((strOf (eC cs a es bo b.toNat)).size:Int))=T7:=by rw[L.o];simp;omega
    clear P L;generalize strOf (eC cs a es bo b.toNat)=bj at*
    go_wp2_with (first|(go_at_call 43;refine aq.o.mono ?_;rintro e bs ⟨j,i,rfl,B,ad,u⟩)|(go_at_call 42;refine(ar.o _ j i ?_ B ⟨_,ad⟩).mono ?_;(exact f.o.trans (u.mono f.o.size));rintro e bt ⟨rfl,ab⟩))
    go_ret2
    exact⟨_,_,rfl,p.o,(f.o.trans (u.mono f.o.size)).trans (ab.mono (f.o.trans (u.mono f.o.size)).size)⟩
  ·have H:X (bH 41 #[.agg #[.int .i64 b,.slice h es.length bW,.bool bo],.slice d cs.length aJ] v λe w'=>e= .returned (.bool T7)/\aP v w'):=n7 (J.o _ o.o) t;have p:X (Lq cs a b es bo ⟨#[]⟩ 2):=.inr (.inl ⟨M.o,t,rfl,rfl⟩);clear J t
   go_wp2_with (go_at_call 41;refine H.o.mono ?_;rintro e m ⟨rfl,D⟩)
   go_ret2
   exact⟨_,_,rfl,p.o,o.o.trans (D.mono o.o.size)⟩
 ·have G:X (bH 40 #[.agg #[.slice d cs.length aJ,.slice l a.length aN]] q λe w'=>e= .returned (.bool T7)/\aP q w'):=n7 (K.o _ y.o) z;have p:X (Lq cs a b es bo ⟨#[]⟩ 1):=.inl ⟨z,rfl,rfl⟩;clear K z
  go_wp2_with (go_at_call 40;refine G.o.mono ?_;rintro e v ⟨rfl,C⟩)
  go_ret2
  exact⟨_,_,rfl,p.o,y.o.trans (C.mono y.o.size)⟩
end Ec
namespace Cc
open Go Go.Conc
open Go.RowKit (Below)
open Ec
def Ak{cs:List bL}{b:List (List aE)}{es:List Int}{a:Nat}{bo:Bool}(h:mZ cs b es a){V:Nat->Nat->List aE}(r:xF (I (cs.zip es,bP b cs es bo a (b7 b.length a))) V):∀j,j<b7 b.length a->∀p,p<cs.length->V j p=bI (bY b a j) p:=by
 intro j u p c;have n:(bP b cs es bo a (b7 b.length a))[j]? =I (gL (bY b a j) cs es bo):=by simp[bP,u]
 have o:(gL (bY b a j) cs es bo).chunks[p]? =I (BQ (bY b a j) cs es bo p):=by simp[gL,eu,c]
 have m:p<es.length:=by rw[h.FW];exact c
 have q:(cs.zip es)[p]? =I (cs[p],es[p]):=by simp[List.getElem?_zip_eq_some,c,m]
 have f:=r j _ n p _ _ o q;have k:es.getD p 0=es[p]:=by rw[Ui,Um m];rfl
 rw[h.lN bo j p c,k] at f;have w:((gL (bY b a j) cs es bo).rows:Int)=((bI (bY b a j) p).length:Int):=by rw[ga];rfl
 rw[w] at f;have z:=h.cut j p;have l:=h.eI.2 p c;rw[k] at l;have s:jC ((bI (bY b a j) p).length:Int) cs[p].kind es[p]=0:=by
  unfold jC;rw[if_neg (by omega),l];rfl
 have i:=Pk.nG _ (x9 cs[p].kind es[p] (bI (bY b a j) p));rcases f with⟨g,d,x,y,t⟩|⟨_,d|⟨g,d,v⟩⟩
 ·have e:(bI (bY b a j) p).length=g:=by omega
  exact(t.IM _ e (h.vc j p c) (eO i.symm)).symm
 ·exact absurd s d
 ·have e:(bI (bY b a j) p).length=g:=by omega
  exact absurd i.symm (v _ e (h.vc j p c))
end Cc
namespace Cc
open Go Go.Conc
open Go.RowKit (Below)
section
variable {P0 P:Uf}{Post:U->F->Prop}{cs:List Ut}{w:F}{b:Ut}{a:V6}{k:List WM}
def RP(h:Twins P0 P){c:WV}{Q:F->V6->F->Prop}(E:∀s,Item.code (.refuse s)∉k)(K:eN P0 (b.at a (.code c::k)) [])
 (G:∀W,(∀(b:Nat) o,w.heap[b]? =I o->bn P0 o->W.heap[b]? =I o)->w.heap.size<=W.heap.size->c.wp P0 (λe a' W'=>e= .normal/\aP W W'/\Q W a' W') a W)
 (C:∀a' W W' w',(∀(b:Nat) o,w.heap[b]? =I o->bn P0 o->W.heap[b]? =I o)->w.heap.size<=W.heap.size->aP W W'->Q W a' W'->Un W' w'->RelB (gh w) w w'->Xe P0 P Post (gh w') (b.at a' k) cs w'):Xe P0 P Post (gh w) (b.at a (.code c::k)) cs w:=by
 intro O N d H;refine Iq h (Q:=λg e a' W'=>e= .normal/\∃W,W.heap=g.heap/\aP W W'/\Q W a' W') (λg j m=>?_) E (λg id a w f=>by cases f.1) (λg R a w f=>by cases f.1) (λg a w f=>by cases f.1) (λg e a' x w' m A j f i t=>?_) K H
 ·intro y M z;obtain⟨e,a',w',⟨n,i,B⟩,D⟩:=G (sh m 0 g) (λb o l q=>j.at_ b o ((d.at_ b (Ub.1 l).1).trans l) q) (by show w.heap.size<=g.heap.size;rw[<-j.un.size];exact d.size) y M z;exact⟨e,a',w',⟨n,sh m 0 g,rfl,i,B⟩,D⟩
 ·obtain⟨rfl,W,r,p,f⟩:=f;have L:W.heap.size<=w'.heap.size:=by rw[i.un.size];exact p.size
  have u:W.heap.size=N.heap.size:=by rw[r,j.un.size]
  have hrel:RelB (gh w) w w':=⟨λb v=>by
   have n:x.heap[b]? =W.heap[b]? :=p.block b (by rw[u];exact Ud v d.size);exact(i.same j.un (by rw[n,r])).trans (d.at_ b v),Uy d.size (by rw[<-u];exact L),t.tape.trans d.tape,t.os.trans d.os,t.output.trans d.output⟩
  intro _ J;exact Xe.go (C a' W (sh m A x) w' (λb o l q=>by rw[r];exact j.at_ b o ((d.at_ b (Ub.1 l).1).trans l) q) (by rw[u];exact d.size) p f ⟨i.un.size,i.un.at_,i.un.os,i.un.output⟩ hrel) (λb h=>h) J
end
end Cc
namespace Cc
open Go Go.Conc
open Go.RowKit (Below)
open Ec
open Pk
def Q4{a:V6}{n:Nat}(h:a.tmps.size=n)(c:a.defers=[]):a=⟨((UK n).map (aW a)).toArray,[]⟩:=by
 obtain⟨f,e⟩:=a;simp only at h c;subst c;congr 1;apply Array.ext_getElem?;intro d;simp only[List.getElem?_toArray,List.getElem?_map,List.getElem?_range];rcases Vy d n with b|b
 ·simp[b,aW,h]
 ·simp[b,h]
end Cc
namespace Ec
open Go.RowKit Pk Pm
def Tk(W:F)(v:Nat->U):(Tc Wc).wp (aB T4) (λe a' W'=>e= .normal/\W'=W.alloc (.cells #[aO,aO,.int .i64 0,aO,.bool T7] 50)/\Cc.Knows a' 156 [(0,v 0),(1,v 1),(2,v 2),(3,v 3),(4,v 4),(10,.pointer (I ⟨W.heap.size,0,K⟩))]/\a'.defers=[]) (pW v) W:=by
 unfold Tc Wc pW;dsimp only
 go_wp2_with fail
 exact(((((Am Y Y).cons Y).cons Y).cons Y).cons Y).cons Y
def Tn(W:F)(v:Nat->U):(Td Wc).wp (aB T4) (λe a' W'=>e= .normal/\W'=W.alloc (.cells #[aO,aO,.int .i64 0,aO,.bool T7] 50)/\Cc.Knows a' 156 [(0,v 0),(1,v 1),(2,v 2),(3,v 3),(4,v 4),(10,v 10),(11,.pointer (I ⟨W.heap.size,0,K⟩))]/\a'.defers=[]) (pW v) W:=by
 unfold Td Wc pW;dsimp only
 go_wp2_with fail
 exact((((((Am Y Y).cons Y).cons Y).cons Y).cons Y).cons Y).cons Y
def pX{a:V6}(h:a.tmps.size=156)(b:a.defers=[]):a=pW (Cc.aW a):=Cc.Q4 h b
def ML(w:F):eM w ((w.alloc (.cells #[aO,aO,.int .i64 0,aO,.bool T7] 50)).alloc (.cells #[aO,aO,.int .i64 0,aO,.bool T7] 50)) (w.heap.size+1) aO [] aO [] 0 aO [] T7:=
 ⟨alloc_old _ (by simp) (bk w _),jH w _ _,Vp _ _ _ _,Vp _ _ _ _,λb a=>absurd a (by simp),Vp _ _ _ _,gA _ _,by omega⟩
def MJ(kinds:List Int)(raw:List aE)(dU:List Int)(m:Int)(bo:Bool)(q:Option UJ)(kb gM fF:Nat)(ro:Option UJ)(rb bh aN:Nat)(co:Option UJ)(s bE r:Nat)(w:F)(az:kinds.length<=Uq)(a0:raw.length<=Uq)(aw:dU.length<=Uq)
 (aq:(0<kinds.length->q=I ⟨kb,gM,K⟩)/\(0<kinds.length->kb<w.heap.size)/\∀j,j<kinds.length->aM w kb (gM+j) (.int .i64 (kinds.getD j 0))) (a2:sJ w ro rb bh raw) (ae:(0<dU.length->co=I ⟨s,bE,K⟩)/\(0<dU.length->s<w.heap.size)/\∀j,j<dU.length->aM w s (bE+j) (.int .i64 (dU.getD j 0)))
 (ao:∀x∈kinds,lP x) (am:∀x∈dU,lP x) (ap:∀x∈raw,rC x/\x.s.size<=Uq) (ad:lP m):
 bH 19 #[.slice q kinds.length fF,.slice ro raw.length aN,.slice co dU.length r,.int .i64 m,.bool bo] w (TF w raw.length bo):=by
 refine calls_of_wp ay.func19 Pj ?_;have a:=Cc.TM (.slice q kinds.length fF) (.slice ro raw.length aN) (.slice co dU.length r) (.int .i64 m) (.bool bo) 156 (by decide);generalize T:(#[.slice q kinds.length fF,.slice ro raw.length aN,.slice co dU.length r,.int .i64 m,.bool bo]++U3 (156-5) Vk:Array U)=a6 at a;have a3:({tmps:= #[.slice q kinds.length fF,.slice ro raw.length aN,.slice co dU.length r,.int .i64 m,.bool bo]++U3 (Wc.ntmps-5) Vk,defers:=[]}:V6)=⟨a6,[]⟩:=by rw[<-T];rfl
 show Code.wp _ _ _ {tmps:= #[.slice q kinds.length fF,.slice ro raw.length aN,.slice co dU.length r,.int .i64 m,.bool bo]++U3 (Wc.ntmps-5) Vk,defers:=[]} w;rw[a3,pX a.size Y];refine wp_seq (Yf ?_ (Tk w _));rintro o G bc ⟨rfl,rfl,l,P⟩;show Code.wp _ _ _ G _;rw[pX l.size P];refine wp_seq (Yf ?_ (Tn _ _));rintro o H E ⟨rfl,rfl,i,Q⟩;have S:=(i.slot 0 _ Y).trans ((l.slot 0 _ Y).trans (a.slot 0 _ Y));have h:=(i.slot 1 _ Y).trans ((l.slot 1 _ Y).trans (a.slot 1 _ Y));have p:=(i.slot 2 _ Y).trans ((l.slot 2 _ Y).trans (a.slot 2 _ Y));have d:=(i.slot 3 _ Y).trans ((l.slot 3 _ Y).trans (a.slot 3 _ Y));have e:=(i.slot 4 _ Y).trans ((l.slot 4 _ Y).trans (a.slot 4 _ Y));have c:=(i.slot 10 _ Y).trans (l.slot 10 _ Y);have b:_=Value.pointer (I ⟨w.heap.size+1,0,K⟩):=(i.slot 11 _ Y).trans (by simp);have f:=ML w;generalize (w.alloc (.cells #[aO,aO,.int .i64 0,aO,.bool T7] 50)).alloc (.cells #[aO,aO,.int .i64 0,aO,.bool T7] 50)=E at*;show Code.wp _ _ _ H _;rw[pX i.size Q];refine wp_seq (Yf ?_ (Pn w _ _ _ kinds q kb gM fF S b az aq ao f));rintro o J bd ⟨rfl,n,k,X,Z,f,a,g⟩;replace h:=(a.slot 1 _ Y).trans h;replace p:=(a.slot 2 _ Y).trans p;replace d:=(a.slot 3 _ Y).trans d;replace e:=(a.slot 4 _ Y).trans e;replace c:=(a.slot 10 _ Y).trans c;replace b:=(a.slot 11 _ Y).trans b;show Code.wp _ _ _ J _;rw[pX a.size g];refine wp_seq (Yf ?_ (Tq w _ _ _ n k b X Z f));rintro o L be ⟨rfl,n,k,A,f,a,g⟩;replace h:=(a.slot 1 _ Y).trans h;replace p:=(a.slot 2 _ Y).trans p;replace d:=(a.slot 3 _ Y).trans d;replace e:=(a.slot 4 _ Y).trans e;replace c:=(a.slot 10 _ Y).trans c;replace b:=(a.slot 11 _ Y).trans b;show Code.wp _ _ _ L _;rw[pX a.size g];refine wp_seq (Yf ?_ (To w _ _ _ n k b f));rintro o M bi ⟨rfl,rfl,a,g⟩;replace h:=(a.slot 1 _ Y).trans h;replace p:=(a.slot 2 _ Y).trans p;replace d:=(a.slot 3 _ Y).trans d;replace e:=(a.slot 4 _ Y).trans e;replace c:=(a.slot 10 _ Y).trans c;replace b:=(a.slot 11 _ Y).trans b;have t:=a.slot 13 _ Y;show Code.wp _ _ _ M _;rw[pX a.size g];refine wp_seq (Yf ?_ (Po w _ _ _ dU co s bE r n k p b t aw ae am A f));rintro o N bj ⟨rfl,y,u,al,f,a,g⟩;replace h:=(a.slot 1 _ Y).trans h;replace d:=(a.slot 3 _ Y).trans d;replace e:=(a.slot 4 _ Y).trans e;replace c:=(a.slot 10 _ Y).trans c;replace b:=(a.slot 11 _ Y).trans b;replace t:=(a.slot 13 _ Y).trans t;show Code.wp _ _ _ N _;rw[pX a.size g];refine wp_seq (Yf ?_ (Pp w _ _ _ raw ro rb bh aN n k y u h b t a0 a2 ap A f));rintro o O bl ⟨rfl,C,B,f,aa,a1,ar,a,g⟩;replace d:=(a.slot 3 _ Y).trans d;replace e:=(a.slot 4 _ Y).trans e;replace c:=(a.slot 10 _ Y).trans c;replace b:=(a.slot 11 _ Y).trans b;show Code.wp _ _ _ O _;rw[pX a.size g];refine Yf ?_ (Pq w _ _ _ k n B C u y m bo d e c b ad f λv V W=>MK A al aa ar V W);rintro o br bm ⟨rfl,⟨v,a5,av,ab,a4⟩,D,R⟩;refine⟨R,.agg #[k,B,.int .i64 (v:Int),u,.bool bo],?_,ab,k,n,B,C,u,y,v,rfl,av,a4,a1⟩;obtain⟨⟨a7,a8,a9,ba,bb⟩,-⟩:=ff a5;have z:=D.slot 10 _ Y;unfold Cc.aW at z;rw[UD] at z;simp[UX,Tryz.results19,go_sem,z,a7,a8,a9,ba,bb]
def Ji(k e:Int)(l:List aE)(h:∀x∈l,pq x)(j:l.length<=100):(bK k e l).length<=54*l.length+11:=by
 have o:=lW l;have b:=oL (l.map nL).length (l.map nL);have d:(dV k e (there l)).length<=43*(there l).length+11:=by
  have a:∀x∈there l,pq x:=λx a=>h x (u7 a);generalize there l=l at*;unfold dV
  split
  ·have:=nI 0 l;omega
  ·split
   ·unfold ey;have c:=pQ l l.length (T8 _);rw[Vf] at c;obtain⟨b,d,i,f⟩:=c;have n:=gb k (dfold l).1 (λx g=>a x (f x g));have p:=cm 10 (dfold l).1.length;have m:(dfold l).2.length*wid (dfold l).1.length<=(dfold l).2.length*7:=Ws (T8 _) (vj _);rw[Ua,Ua,eZ];unfold aL;omega
   ·split
    ·have:=oL (l.map aE.n).length (l.map aE.n);unfold cy;rw[UG] at this ⊢;omega
    ·have:=gb k l a;omega
 unfold bK cy;rw[UG] at b;rw[Ua,UG];omega
section
variable {cs:List bL}{rows:List (List aE)}{es:List Int}{bd:Nat}
def P7(h:mZ cs rows es bd)(bo:Bool)(j:Nat):(ct (gL (bY rows bd j) cs es bo).chunks).length<=cs.length*(54*(bY rows bd j).length+11):=by
 have:=lR (λc:kq=>bytesOf c.text) (54*(bY rows bd j).length+11) (gL (bY rows bd j) cs es bo).chunks (λc d=>by
  obtain⟨a,b,rfl⟩:=U7.1 d;have b:a<cs.length:=by simpa using b
  rw[h.lN bo j a b,nG _ (x9 _ _ _)];have:=Ji cs[a].kind (es.getD a 0) (bI (bY rows bd j) a) (λf e=>(h.col j a b f e).2) (h.cut j a);rw[ga] at this;exact this)
 rwa [show(gL (bY rows bd j) cs es bo).chunks.length=cs.length from cT _ _ _ _ _] at this
theorem HJ(h:mZ cs rows es bd)(bo:Bool):∀n,(bR (bP rows cs es bo bd n)).length<=cs.length*(54*((UK n).map λj=>(bY rows bd j).length).sum+11*n)
 |0=>UE _
 |n+1=>by
  have b:=HJ h bo n;have c:=P7 h bo n;rw[vt,XI,U0,List.sum_append];unfold bR at b ⊢;rw[List.flatMap_append,List.flatMap_singleton,Ua];have a:cs.length*(54*(((UK n).map λj=>(bY rows bd j).length).sum+([n].map λj=>(bY rows bd j).length).sum)+11*(n+1))=cs.length*(54*((UK n).map λj=>(bY rows bd j).length).sum+11*n)+cs.length*(54*(bY rows bd n).length+11):=by
   rw[<-Ye];congr 1;simp;omega
  rw[a];omega
def OT(h:mZ cs rows es bd)(bo:Bool)(n:Nat):(ji cs es (bP rows cs es bo bd n)).length<=20+cs.length*28+n*(10+cs.length*95):=by
 have r:(iS cs es cs.length).length<=cs.length*28:=by
  have:=lR (xY cs es) 28 (UK cs.length) (λc a=>by
   have a:c<cs.length:=by simpa using a
   have w:=vI h.table.1 cs[c] (Uj a);have i:=cm 10 cs[c].name.size;unfold xY aL;rw[Ui,Um a];simp only[V2,Ua,aj,VI,XH];omega)
  rwa [List.length_range] at this
 have s:(cQ cs (bP rows cs es bo bd n)).length<=n*(10+cs.length*95):=by
  have:=lR (ek cs) (10+cs.length*95) (bP rows cs es bo bd n) (λb g=>by
   obtain⟨d,v,rfl⟩:=U7.1 g;have l:=h.chunks bo d;have e:(gL (bY rows bd d) cs es bo).chunks.length=cs.length:=cT _ _ _ _ _;have o:=lR (o8 cs (gL (bY rows bd d) cs es bo).chunks) 95 (UK (gL (bY rows bd d) cs es bo).chunks.length) (λc a=>by
    have a:c<(gL (bY rows bd d) cs es bo).chunks.length:=by simpa using a
    obtain⟨p,j,k,q⟩:=l _ (Uj a);have i:=cm 10 (gL (bY rows bd d) cs es bo).chunks[c].text.size;unfold o8 aL;rw[Ui,Um a];simp only[V2,Ua];have g:∀(f:Int) (b:lB),pq b.least->pq b.most->(cq f b).length<=85:=λf b e m=>by
     have x:=gR f b.least e.sz;have y:=gR f b.most m.sz;unfold cq
     split
     ·simp only[Ua,VI,XH];omega
     ·simp
    have:=g (cs.getD c ⟨⟨#[]⟩,0⟩).kind _ j k;simp only[Ui] at this ⊢;omega)
   rw[List.length_range,e] at o;have i:=cm 10 (gL (bY rows bd d) cs es bo).rows;unfold ek fo aL;rw[Ua,e];omega)
  rwa [jb] at this
 have t:=cm 10 cs.length;have u:=cm 10 (bP rows cs es bo bd n).length;unfold ji aL;simp only[Ua];omega
def GL(h:mZ cs rows es bd)(bo:Bool)(d:rows.length*cs.length<=100):(eC cs rows es bo bd).length<=65536:=by
 have n:1<=cs.length/\cs.length<=8:=⟨h.table.1.1,h.table.1.2.1⟩;have o:rows.length<=100:=Uy (Nat.le_mul_of_pos_right _ (by omega)) d;have c:b7 rows.length bd<=rows.length:=by
  rcases Vy rows.length (b7 rows.length bd) with a|a
  ·have:=(mw (len:=rows.length) h.lo rows.length).2 a;have:=Nat.le_mul_of_pos_right rows.length h.lo;omega
  ·exact a
 have b:=HJ h bo (b7 rows.length bd);rw[BT rows h.lo] at b;have m:=OT h bo (b7 rows.length bd);have i:cs.length*(54*min (b7 rows.length bd*bd) rows.length+11*b7 rows.length bd)<=cs.length*(65*rows.length):=Ws (T8 _) (by omega);have j:cs.length*(65*rows.length)=65*(rows.length*cs.length):=by rw[Nat.mul_left_comm,Xx cs.length]
 have k:b7 rows.length bd*(10+cs.length*95)<=rows.length*(10+cs.length*95):=Ws c (T8 _);have l:rows.length*(10+cs.length*95)=rows.length*10+95*(rows.length*cs.length):=by rw[Ye,<-Nat.mul_assoc,Xx 95]
 unfold eC vB;simp only[Ua];have e:dN.length=4:=rfl;have f:∀g,(iA g).length=4:=λ_=>rfl;rw[e,f];omega
end
end Ec
namespace Cc
open Go Go.Conc
open Go.RowKit (Below)
open Ec
section
variable {P0 P:Uf}{S own:Nat->Prop}{w:F}{a:V6}{o:Vu}
end
section
variable {P0 P:Uf}{Post:U->F->Prop}{cs:List Ut}{w:F}{b:Ut}{a:V6}{k:List WM}
def nC(h:Twins P0 P){n:Nat}{l:List (Nat×U)}(d:Knows a n l)(i:a.defers=[])(c:WV)(Q:F->V6->F->Prop)(j:∀s,Item.code (.refuse s)∉k)(q:eN P0 (b.at a (.code c::k)) [])
 (m:∀v W,(∀s x,l.lookup s=I x->v s=x)->(∀(b:Nat) o,w.heap[b]? =I o->bn P0 o->W.heap[b]? =I o)->w.heap.size<=W.heap.size->c.wp P0 (λe a' W'=>e= .normal/\aP W W'/\Q W a' W') ⟨((UK n).map v).toArray,[]⟩ W)
 (f:∀a' W W' w',(∀(b:Nat) o,w.heap[b]? =I o->bn P0 o->W.heap[b]? =I o)->w.heap.size<=W.heap.size->aP W W'->Q W a' W'->Un W' w'->RelB (gh w) w w'->Xe P0 P Post (gh w') (b.at a' k) cs w'):Xe P0 P Post (gh w) (b.at a (.code c::k)) cs w:=
 RP h j q (λW g p=>by
  have:=m (aW a) W d.slot g p;rwa [<-Q4 d.size i] at this) f
end
def Pt{c:WV}(hc:∀s,c≠.refuse s):∀s,Item.code (.refuse s)∉[Item.code c]:=λs d=>by
 simp only[WI,Item.code.injEq] at d;exact hc s d.symm
def sI.like{P0:Uf}{w W:F}{base:Nat}{v:U}{n:List (List aE)}(h:sI w base v n)(x:∀(b:Nat) o,w.heap[b]? =I o->bn P0 o->W.heap[b]? =I o):sI W base v n:=by
 have p:∀{e:Uh} {i g:Nat} {v:U} {j:List U},w.ownsRow base e i v g j->W.ownsRow base e i v g j:=λ{e i g v j} h=>by
  obtain⟨m,⟨c,d⟩|⟨l,s,t,c,d,f,u⟩⟩:=h
  ·exact⟨m,.inl ⟨c,d⟩⟩
  ·exact⟨m,.inr ⟨l,s,t,c,d,x l _ f trivial,u⟩⟩
 obtain⟨B,c,d,f⟩:=h;exact⟨B,p c,λz C y=>by
  obtain⟨A,q,r⟩:=d z C y;exact⟨A,q,p r⟩,f⟩
def Oi:(VT.name == "runtime.NumGoroutine")=T7:=by kernel_rfl
end Cc
namespace Ec
open Go.RowKit Pk
def Sj (x y:bL):Bool:=(x.name.toList==y.name.toList)&&(x.kind==y.kind)
def H8{x y:bL}:Sj x y=Z↔x=y:=by
 obtain⟨b,c⟩:=x;obtain⟨d,e⟩:=y;unfold Sj;simp only[Uw,beq_iff_eq,bL.mk.injEq];exact⟨λa=>⟨toList_inj a.1,a.2⟩,λa=>⟨by rw[a.1],a.2⟩⟩
def EB(w:F)(x y:bL):(binOp .neq 63 (.agg #[.string x.name,.int .i64 x.kind]) (.agg #[.string y.name,.int .i64 y.kind])).run (aB T4) w= .ok (.bool (!Sj x y)) w:=by
 go_simp;unfold Sj;by_cases a:x.name.toList=y.name.toList<;>by_cases b:x.kind=y.kind<;>simp[a,b]
def wS(c d:List bL)(v bo:Option UJ)(b off cap b2 t G:Nat)(w:F)(H:c.length<=Uq)(I:d.length<=Uq)
 (h1:xB w v b off c) (m:xB w bo b2 t d):
 bH 22 #[.slice v c.length cap,.slice bo d.length G] w λe w'=>∃b,e= .returned (.bool b)/\(b=Z↔c=d)/\∃n,w'=w.drewN n:=by
 unfold Uq at H I;by_cases k:c.length=d.length
 ·have x:((c.length:Int) !=(d.length:Int))=T7:=by simp[k]
  have u:=af k;clear k;go_enter ay.func22,Tryz.ntmps22
  go_wp2_with fail
  clear x
  go_loopw [5] (λs wr=>∃a:Nat,a<=c.length/\s= .int .i64 a/\c.take a=d.take a/\∃n,wr=w.drewN n) (λs _=>c.length-(US s).toNat)
  case atStart=>exact⟨0,UE _,rfl,rfl,0,rfl⟩
  case round=>
   obtain⟨a,J,rfl,z,n,f⟩:=hrel;have p:=af z;clear z;by_cases o:a<c.length
   ·have r:a<d.length:=by rw[<-u.o];exact o
    obtain rfl:=h1.addr (by omega);obtain rfl:=m.addr (by omega);have K:aM wr b (off+a*2) (.string c[a].name):=by rw[f];exact h1.c0 a o
    have L:aM wr b (off+a*2+1) (.int .i64 c[a].kind):=by rw[f];exact h1.c1 a o
    have M:aM wr b2 (t+a*2) (.string d[a].name):=by rw[f];exact m.c0 a r
    have N:aM wr b2 (t+a*2+1) (.int .i64 d[a].kind):=by rw[f];exact m.c1 a r
    have l:=af f;have h:X (c[a]≠d[a]->c≠d):=λi e=>i (by subst e;rfl);have q:X (c[a]=d[a]->c.take (a+1)=d.take (a+1)):=λi=>by rw[Uo o,Uo r,p.o,i]
    have y:=λw=>EB w c[a] d[a];clear f h1 m p;generalize c[a]=A at*;generalize d[a]=B at*;by_cases g:A=B
    ·have j:=H8.2 g;have E:=af (q.o g);rw[j] at y;clear q h g j
     go_wp2_with fail
     go_quiet (fail)
     go_wp2
     go_roundw
     case rel=>exact⟨a+1,by omega,by go_num,E.o,n+nq,by rw[l.o];exact Xh _ _ _⟩
     case measure=>simp[US];omega
    ·have j:Sj A B=T7:=by rw[Bool.eq_false_iff];intro i;exact g (H8.1 i)
     have D:=af (h.o g);rw[j] at y;clear q h g j
     go_wp2_with fail
     go_quiet (fail)
     go_wp2;go_ret;exact⟨T7,rfl,by simp only[UB,false_iff];exact D.o,n+nq,by rw[l.o];exact Xh _ _ _⟩
   ·have C:X (c=d):=by
     have:=p.o;rw[UO (by omega),UO (by have:=u.o;omega)] at this;exact this
    have l:=af f;clear f;go_wp2;go_ret;exact⟨Z,rfl,by simp only[true_iff];exact C.o,n,l.o⟩
 ·have x:((c.length:Int) !=(d.length:Int))=Z:=by simp;omega
  have h:X (c≠d):=λe=>k (by rw[e]);clear k;go_enter ay.func22,Tryz.ntmps22;go_wp2;go_ret;exact⟨T7,rfl,by simp only[UB,false_iff];exact h.o,0,rfl⟩
def Js{Q:Prop}{P:Uf}{f:Nat}{args:Array U}{w:F}(h:Calls P f args w λe w'=>∃b,e= .returned (.bool b)/\(b=Z↔Q)/\∃n,w'=w.drewN n)(d:Q):Calls P f args w λe w'=>e= .returned (.bool Z)/\∃n,w'=w.drewN n:=
 h.mono (by rintro e w' ⟨g,rfl,c,a⟩;rw[c.2 d];exact⟨rfl,a⟩)
def FT{Q:Prop}{P:Uf}{f:Nat}{args:Array U}{w:F}(h:Calls P f args w λe w'=>∃b,e= .returned (.bool b)/\(b=Z↔Q)/\∃n,w'=w.drewN n)(g:¬Q):Calls P f args w λe w'=>e= .returned (.bool T7)/\∃n,w'=w.drewN n:=
 h.mono (by
  rintro e w' ⟨a,rfl,d,c⟩;cases a
  ·exact⟨rfl,c⟩
  ·exact absurd (d.1 Y) g)
def CD(c d:List (List aE))(G bo:Option UJ)(b off cap b2 Q aa:Nat)(w:F)(ab:c.length<=Uq)(ad:d.length<=Uq)(L:∀r∈c,r.length<=Uq)(M:∀r∈d,r.length<=Uq)
 (h1:Df w G b off c) (x:Df w bo b2 Q d):
 bH 14 #[.slice G c.length cap,.slice bo d.length aa] w λe w'=>∃b,e= .returned (.bool b)/\(b=Z↔c=d)/\∃n,w'=w.drewN n:=by
 have S:=af L;have T:=af M;unfold Uq at ab ad;clear L M;by_cases i:c.length=d.length
 ·have K:((c.length:Int) !=(d.length:Int))=T7:=by simp[i]
  have C:=af i;clear i;go_enter ay.func14,Tryz.ntmps14
  go_wp2_with fail
  clear K
  go_loopw [5] (λz wr=>∃a:Nat,a<=c.length/\z= .int .i64 a/\c.take a=d.take a/\∃n,wr=w.drewN n) (λz _=>c.length-(US z).toNat)
  case atStart=>exact⟨0,UE _,rfl,rfl,0,rfl⟩
  case round=>
   obtain⟨a,aq,rfl,N,n,f⟩:=hrel;have t:=af N;clear N;by_cases l:a<c.length
   ·have y:a<d.length:=by rw[<-C.o];exact l
    obtain rfl:=h1.addr (by omega);obtain rfl:=x.addr (by omega);obtain⟨am,D,W⟩:=h1.c a l;obtain⟨ao,E,Y⟩:=x.c a y;have av:aM wr b (off+a) am:=by rw[f];exact D
    have aw:aM wr b2 (Q+a) ao:=by rw[f];exact E
    have k:=af f;have h:X (c[a]≠d[a]->c≠d):=λv e=>v (by subst e;rfl);have u:X (c[a]=d[a]->c.take (a+1)=d.take (a+1)):=λv=>by rw[Uo l,Uo y,t.o,v]
    have I:=S.o c[a] (Uj l);have J:=T.o d[a] (Uj y);have ar:(a:Int)<(d.length:Int):=by omega
    obtain⟨q,ap,ki,gP,rfl,O⟩:=W;obtain⟨p,ae,al,o,rfl,P⟩:=Y;have j:X (∀m,bH 29 #[.slice q c[a].length gP,.slice p d[a].length o] (wr.drewN m) λe w'=>∃b,e= .returned (.bool b)/\(b=Z↔c[a]=d[a])/\∃n,w'=(wr.drewN m).drewN n):=λm=>by
     have H:aP w (wr.drewN m):=by rw[f];exact below_drewN (below_drewN (Up _ _) n) m
     exact zi c[a] d[a] q p ap ki gP ae al o _ I J (O.below H) (P.below H)
    clear f h1 x t D E O P I J;generalize c[a]=A at*;generalize d[a]=B at*;by_cases g:A=B
    ·have V:=af (u.o g);have s:X (∀m,bH 29 #[.slice q A.length gP,.slice p B.length o] (wr.drewN m) λe w'=>e= .returned (.bool Z)/\∃n,w'=(wr.drewN m).drewN n):=λm=>Js (j.o m) g;clear u h g j
     go_wp2_with fail
     go_quiet ((go_at_call 29;exact Calls.quiet_of (s.o _)))
     go_wp2
     go_roundw
     case rel=>exact⟨a+1,by omega,by go_num,V.o,n+nq,by rw[k.o];exact Xh _ _ _⟩
     case measure=>simp[US];omega
    ·have U:=af (h.o g);have s:X (∀m,bH 29 #[.slice q A.length gP,.slice p B.length o] (wr.drewN m) λe w'=>e= .returned (.bool T7)/\∃n,w'=(wr.drewN m).drewN n):=λm=>FT (j.o m) g;clear u h g j
     go_wp2_with fail
     go_quiet ((go_at_call 29;exact Calls.quiet_of (s.o _)))
     go_wp2;go_ret;exact⟨T7,rfl,by simp only[UB,false_iff];exact U.o,n+nq,by rw[k.o];exact Xh _ _ _⟩
   ·have R:X (c=d):=by
     have:=t.o;rw[UO (by omega),UO (by have:=C.o;omega)] at this;exact this
    have k:=af f;clear f;go_wp2;go_ret;exact⟨Z,rfl,by simp only[true_iff];exact R.o,n,k.o⟩
 ·have K:((c.length:Int) !=(d.length:Int))=Z:=by simp;omega
  have h:X (c≠d):=λe=>i (by rw[e]);clear i;go_enter ay.func14,Tryz.ntmps14;go_wp2;go_ret;exact⟨T7,rfl,by simp only[UB,false_iff];exact h.o,0,rfl⟩
end Ec
namespace Ec
open Go.RowKit Pk Pm
def OQ(a:Option UJ)(n cap:Nat)(w:F)(g:n<=Uq)(hc:n<=cap)(f:0<n->∃b off,a=I ⟨b,off,K⟩):
 bH 8 #[.slice a n cap] w λe w'=>(∃d,min n 16<=d/\e= .returned (.slice a (min n 16) d))/\w'=w:=by
 unfold Uq at g;by_cases h:16<n
 ·obtain⟨b,off,rfl⟩:=f (by omega);have c:min n 16=16:=by omega
  rw[c];go_enter ay.func8,Tryz.ntmps8;go_wp2;go_ret;exact⟨⟨_,by omega,rfl⟩,rfl⟩
 ·have c:min n 16=n:=by omega
  rw[c];go_enter ay.func8,Tryz.ntmps8;go_wp2;go_ret;exact⟨⟨_,hc,rfl⟩,rfl⟩
def Ae(a:Option UJ)(n cap:Nat)(w:F)(g:n<=Uq)(hc:n<=cap)(f:0<n->∃b off,a=I ⟨b,off,K⟩):
 bH 9 #[.slice a n cap] w λe w'=>(∃d,min n 16<=d/\e= .returned (.slice a (min n 16) d))/\w'=w:=by
 unfold Uq at g;by_cases h:16<n
 ·obtain⟨b,off,rfl⟩:=f (by omega);have c:min n 16=16:=by omega
  rw[c];go_enter ay.func9,Tryz.ntmps9;go_wp2;go_ret;exact⟨⟨_,by omega,rfl⟩,rfl⟩
 ·have c:min n 16=n:=by omega
  rw[c];go_enter ay.func9,Tryz.ntmps9;go_wp2;go_ret;exact⟨⟨_,hc,rfl⟩,rfl⟩
end Ec
namespace Cc
open Go Go.Conc
open Go.RowKit
open Ec
open Pk
section
variable {P0 P:Uf}{Post:U->F->Prop}{cs:List Ut}{w:F}{b:Ut}{a:V6}{k:List WM}
def IR(h:Twins P0 P){n:Nat}{l:List (Nat×U)}(A:Knows a n l)(M:a.defers=[])(c:WV)(Q:F->V6->F->Prop)(N:∀s,Item.code (.refuse s)∉k)(T:eN P0 (b.at a (.code c::k)) [])
 (O:∀v W,(∀s x,l.lookup s=I x->v s=x)->(∀(b:Nat) o,w.heap[b]? =I o->bn P0 o->W.heap[b]? =I o)->w.heap.size<=W.heap.size->c.wp P0 (λe a' W'=>e= .ret/\aP W W'/\Q W a' W') ⟨((UK n).map v).toArray,[]⟩ W)
 (K:∀a' W W' w' todo,(∀(b:Nat) o,w.heap[b]? =I o->bn P0 o->W.heap[b]? =I o)->w.heap.size<=W.heap.size->aP W W'->Q W a' W'->Un W' w'->RelB (gh w) w w'->Xe P0 P Post (gh w') {b.at a' todo with mode:=.returning} cs w'):Xe P0 P Post (gh w) (b.at a (.code c::k)) cs w:=by
 intro Z Y d R;refine Iq h (Q:=λg e a' W'=>e= .ret/\∃W,W.heap=g.heap/\aP W W'/\Q W a' W') (λg j p=>?_) N (λg id a w f=>by cases f.1) (λg l a w f=>by cases f.1) (λg a w f=>by cases f.1) (λg e a' D w' p H j f i y=>?_) T R
 ·intro E X G;have B:=O (aW a) (sh p 0 g) A.slot (λb o m t=>j.at_ b o ((d.at_ b (Ub.1 m).1).trans m) t) (by show w.heap.size<=g.heap.size;rw[<-j.un.size];exact d.size);rw[<-Q4 A.size M] at B;obtain⟨e,a',w',⟨q,i,J⟩,L⟩:=B E X G;exact⟨e,a',w',⟨q,sh p 0 g,rfl,i,J⟩,L⟩
 ·obtain⟨rfl,W,u,r,f⟩:=f;have V:W.heap.size<=w'.heap.size:=by rw[i.un.size];exact r.size
  have z:W.heap.size=Y.heap.size:=by rw[u,j.un.size]
  have hrel:RelB (gh w) w w':=⟨λb C=>by
   have q:D.heap[b]? =W.heap[b]? :=r.block b (by rw[z];exact Ud C d.size);exact(i.same j.un (by rw[q,u])).trans (d.at_ b C),Uy d.size (by rw[<-z];exact V),y.tape.trans d.tape,y.os.trans d.os,y.output.trans d.output⟩
  intro todo _ S;exact Xe.go (K a' W (sh p H D) w' todo (λb o m t=>by rw[u];exact j.at_ b o ((d.at_ b (Ub.1 m).1).trans m) t) (by rw[z];exact d.size) r f ⟨i.un.size,i.un.at_,i.un.os,i.un.output⟩ hrel) (λb h=>h) S
end
end Cc
namespace Cc
open Go Go.Conc
open Go.RowKit (Below)
open Ec
def eg{w0 a b:F}(h:RelB (gh w0) w0 a)(c:RelB (gh a) a b):RelB (gh w0) w0 b:=h.trans (c.mono λe d=>Ud d h.size)
def Et{w0 a c:F}(h:RelB (gh w0) w0 a)(e:∀b,b<a.heap.size->c.heap[b]? =a.heap[b]?)(f:a.heap.size<=c.heap.size)(d:Sm a c):RelB (gh w0) w0 c:=eg h ⟨e,f,d.tape,d.os,d.output⟩
def Ni{w0 c:F}(h:RelB (gh w0) w0 c):∀(b:Nat) o,w0.heap[b]? =I o->bn (aB T4) o->c.heap[b]? =I o:=λb o a _=>(h.at_ b (Ub.1 a).1).trans a
def sI.TO{W:F}{base:Nat}{v:U}{a:List (List aE)}(h:sI W base v a):AB W v a/\a.length<=Uq/\∀r∈a,r.length<=Uq:=by
 obtain⟨H,d,l,-⟩:=h;have n:∀{j:Uh} {t f:Nat} {v:U} {u:List U},W.ownsRow base j t v f u->f<=Uq:=λ{j t f v u} h=>by
  rcases h.2 with⟨_,k⟩|⟨b,i,w,_,_,_,o,x,_⟩
  ·omega
  ·omega
 refine⟨?_,n d,λr B=>?_⟩
 ·have C:=d;rcases d.2 with⟨rfl,k⟩|⟨b,i,w,rfl,D,y,o,x,E,G⟩
  ·have:a=[]:=Vh k;subst this;exact⟨K,0,0,0,rfl,T8 _,λh=>by simp at h,λh=>by simp at h,λc h=>by simp at h⟩
  ·refine⟨I ⟨b,0,K⟩,b,0,i,rfl,o,λ_=>rfl,λ_=>(Ub.1 y).1,λc A=>?_⟩;obtain⟨g,p,e⟩:=l c a[c] (Um A);have m:=C.cells (g:=b) Y c g p;rw[Xc] at m;exact⟨g,m,rY.bO e⟩
 ·obtain⟨q,z,rfl⟩:=Vv B;obtain⟨g,p,e⟩:=l q a[q] (Um z);exact n e
def dB.take{w:F}{f:Option UJ}{b off:Nat}{l:List cF}(h:dB w f b off l)(n:Nat):dB w f b off (l.take n):=by
 have d:∀a,a<(l.take n).length->a<l.length:=λa c=>by simp at c;omega
 exact⟨λe=>h.addr (d 0 e),λe=>h.lt (d 0 e),λa c=>by rw[VF];exact h.c0 a (d a c),λa c=>by rw[VF];exact h.c1 a (d a c),λa c=>by rw[VF];exact h.c2 a (d a c),λa c=>by rw[VF];exact h.c3 a (d a c),λa c=>by rw[VF];exact h.c4 a (d a c),λa c=>by rw[VF];exact h.c5 a (d a c),λa c=>by rw[VF];exact h.c6 a (d a c)⟩
def SK:(Tryz.f8.name == "runtime.NumGoroutine")=T7:=by kernel_rfl
def Fe:(Tryz.f9.name == "runtime.NumGoroutine")=T7:=by kernel_rfl
def QI{Post:U->F->Prop}{b:Ut}{a:V6}{todo:List WM}{w:F}{fn:WC}{v:U}(q:T4.inits.idxOf? b.fn=K)(n:b.kind= .normal)(o:a.defers=[])(i:T4.funcs[b.fn]? =I fn)(j:(∀w,(UX fn a.tmps).run T4 w= .ok v w)/\∀w,(UX fn a.tmps).events T4 w #[]=#[])(r:∀c,RelB (gh w) w c->Post v c):Xe (aB T4) T4 Post (gh w) {b.at a todo with mode:=.returning} [] w:=by
 intro u c t x;refine Gg (v:=v) q (λy k=>⟨rfl,o,n,fn,i,j.1 _⟩) (λd f e p l g=>?_) (λd f=>?_)
 ·have:e=fn:=Yk (p.symm.trans i);subst this;rw[Sem.runT_eq] at g;have m:=j.2 d;have h:l∈(UX e a.tmps).events T4 d #[]:=g;rw[m] at h;simp at h
 ·obtain⟨k,rfl⟩:=f;exact r _ (t.trans (RelB.at _ _ _))
section
variable {Post:U->F->Prop}{s:ByteArray}{ah:List Int}{rs:List cF}{co:Option UJ}{cb bE aJ:Nat}{ro:Option UJ}{rb bh aN:Nat}{w0:F}
end
end Cc
namespace Ec
open Go.RowKit Pk Pm
def Ce (w W:F):Prop:=(∀(a:Nat) b c f,w.heap[a]? =I (.cells b c f)->W.heap[a]? =I (.cells b c f))/\w.heap.size<=W.heap.size
def Ce.trans{w W W':F}(h:Ce w W)(a:Ce W W'):Ce w W':=⟨λc d e f b=>a.1 _ _ _ _ (h.1 _ _ _ _ b),Uy h.2 a.2⟩
def LJ{w W:F}(h:aP w W):Ce w W:=⟨λb c d f a=>(h.block b (Ue a)).trans a,h.size⟩
def iq{w W:F}(h:Cc.RelB (Cc.gh w) w W):Ce w W:=⟨λb c d f a=>(h.at_ b (Ue a)).trans a,h.size⟩
def ng{P0:Uf}{w W:F}(h:∀(b:Nat) o,w.heap[b]? =I o->Cc.bn P0 o->W.heap[b]? =I o)(c:w.heap.size<=W.heap.size):Ce w W:=⟨λb d e f a=>h b _ a trivial,c⟩
def AN{w W:F}(h:Cc.Un w W):Ce w W:=⟨λb c d f a=>h.row.1 a,Nat.le_of_eq h.size.symm⟩
def Ce.cell{w W:F}(h:Ce w W){p:UJ}{v:U}(a:w.cell? p=I v):W.cell? p=I v:=by
 unfold Us at a ⊢;cases b:w.heap[p.block]? with
 |none=>rw[b] at a;cases a
 |some c=>
  rw[b] at a;cases c<;>first|(cases a;done)|skip
  rw[h.1 _ _ _ _ b];exact a
def Ce.own{w W:F}(m:Ce w W){base:Nat}{e:Uh}{f n:Nat}{v:U}{g:List U}(h:w.ownsRow base e f v n g):W.ownsRow base e f v n g:=by
 obtain⟨d,⟨a,b⟩|⟨c,i,j,a,b,k,l⟩⟩:=h
 ·exact⟨d,.inl ⟨a,b⟩⟩
 ·exact⟨d,.inr ⟨c,i,j,a,b,m.1 c _ _ _ k,l⟩⟩
def Ce.Sv{w W:F}(d:Ce w W){e:Option UJ}{b off:Nat}{l:List cF}(h:dB w e b off l):dB W e b off l:=
 ⟨h.addr,λf=>Ud (h.lt f) d.2,λc a=>d.cell (h.c0 c a),λc a=>d.cell (h.c1 c a),λc a=>d.cell (h.c2 c a),λc a=>d.cell (h.c3 c a),λc a=>d.cell (h.c4 c a),λc a=>d.cell (h.c5 c a),λc a=>d.cell (h.c6 c a)⟩
def Ce.R8{w W:F}(a:Ce w W){base:Nat}{b:U}{cs:List bL}{d:U}{L:List (List aE×U)}{c:U}{es:List Int}(h:Lk w base b cs d L c es):Lk W base b cs d L c es:=
 ⟨a.own h.ah,a.own h.rows,λf e=>a.own (h.each f e),a.own h.eI⟩
def nK (v:Nat->U):V6:=⟨#[v 0,v 1,v 2,v 3,v 4,v 5,v 6,v 7,v 8,v 9,v 10,v 11,v 12,v 13,v 14,v 15,v 16,v 17,v 18,v 19,v 20,v 21,v 22,v 23,v 24,v 25,v 26,v 27,v 28,v 29,v 30,v 31,v 32,v 33,v 34,v 35,v 36,v 37,v 38,v 39,v 40,v 41,v 42,v 43,v 44,v 45,v 46,v 47,v 48,v 49,v 50,v 51,v 52,v 53,v 54,v 55,v 56,v 57,v 58,v 59,v 60,v 61,v 62,v 63,v 64,v 65,v 66,v 67,v 68,v 69,v 70,v 71,v 72,v 73,v 74,v 75,v 76,v 77,v 78,v 79,v 80,v 81,v 82,v 83,v 84,v 85,v 86,v 87,v 88,v 89,v 90,v 91,v 92,v 93,v 94,v 95,v 96,v 97,v 98,v 99,v 100,v 101,v 102,v 103,v 104,v 105,v 106,v 107,v 108,v 109,v 110,v 111,v 112,v 113,v 114,v 115,v 116,v 117,v 118,v 119,v 120,v 121,v 122,v 123,v 124,v 125,v 126,v 127,v 128,v 129,v 130,v 131,v 132,v 133,v 134,v 135,v 136,v 137,v 138,v 139,v 140,v 141,v 142,v 143,v 144,v 145,v 146,v 147,v 148,v 149,v 150,v 151,v 152,v 153,v 154,v 155,v 156,v 157,v 158,v 159,v 160,v 161,v 162,v 163,v 164,v 165,v 166,v 167,v 168,v 169,v 170,v 171,v 172,v 173,v 174,v 175,v 176,v 177,v 178,v 179,v 180,v 181,v 182,v 183,v 184,v 185,v 186,v 187,v 188,v 189,v 190,v 191,v 192,v 193,v 194,v 195,v 196,v 197,v 198,v 199,v 200,v 201,v 202,v 203,v 204,v 205,v 206,v 207,v 208,v 209,v 210,v 211,v 212,v 213,v 214,v 215,v 216,v 217,v 218,v 219,v 220,v 221,v 222,v 223,v 224,v 225,v 226],[]⟩
def qj:Nat->WV->WV
 |0,.seq a _=>a
 |n+1,.seq _ b=>qj n b
 |_,a=>a
def kp (n:Nat)(fn:WC):WV:=match fn.body with
 |some a=>qj n a
 |none=>.skip
structure KM(W:F)(gm base:Nat)(cv:U)(cs:List bL)(rv:U)(L:List (List aE×U))(ev:U)(es:List Int)(bd:Nat)(bo:Bool):Prop where
 box:W.heap[gm]? =I (.cells #[cv,rv,.int .i64 (bd:Int),ev,.bool bo] 50 (0,0))
 md:Lk W base cv cs rv L ev es
def KM.ce{w W:F}{gm base:Nat}{cv:U}{cs:List bL}{rv:U}{L:List (List aE×U)}{ev:U}{es:List Int}{bd:Nat}{bo:Bool}(h:KM w gm base cv cs rv L ev es bd bo)(a:Ce w W):KM W gm base cv cs rv L ev es bd bo:=⟨a.1 _ _ _ _ h.box,a.R8 h.md⟩
def O5(W:F)(v:Nat->U)(n:Nat)(bo:Bool)(j:bH 19 #[v 0,v 1,v 2,v 3,v 4] W (TF W n bo)):(kp 3 VX).wp (aB T4) (λe a' W'=>e= .normal/\aP W W'/\(∃gm base cv cs rv L ev es bd,KM W' gm base cv cs rv L ev es bd bo/\mZ cs (L.map Ux) es bd/\L.length*cs.length<=n/\Cc.Knows a' 227 [(1,v 1),(5,v 5),(6,v 6),(15,.pointer (I ⟨gm,0,K⟩))])/\a'.defers=[]) (nK v) W:=by
 have f:=af j;unfold kp VX nK;dsimp only;simp only[qj]
 go_wp2_with (go_at_call 19;refine f.o.mono ?_;rintro e c ⟨i,cv,cs,rv,L,ev,es,bd,rfl,a,h,k⟩;obtain⟨l,aJ,rfl⟩:=bC a.ah;obtain⟨o,aN,rfl⟩:=bC a.rows;obtain⟨m,bW,rfl⟩:=bC a.eI;have b:=af i;have d:=af a;have g:=af h)
 refine⟨b.o.trans ((Up _ _).alloc b.o.size _),c.heap.size,W.heap.size,_,cs,_,L,_,es,bd,⟨bk c _,(LJ ((Up _ _).alloc (T8 _) _)).R8 d.o⟩,g.o,k,?_⟩;exact(((Am Y Y).cons Y).cons Y).cons Y
section
variable {W:F}{gm base:Nat}{cv:U}{cs:List bL}{rv:U}{L:List (List aE×U)}{ev:U}{es:List Int}{bd:Nat}{bo:Bool}
def MM(b:Lk W base cv cs rv L ev es)(c:mZ cs (L.map Ux) es bd):bH 20 #[.agg #[cv,rv],.agg #[.int .i64 (bd:Int),ev,.bool bo]] W λe w'=>∃s n,e= .returned (.tuple #[.string s,.int .i64 n])/\(65536<(eC cs (L.map Ux) es bo bd).length/\s=⟨#[]⟩/\n=6\/(eC cs (L.map Ux) es bo bd).length<=65536/\s=strOf (eC cs (L.map Ux) es bo bd)/\n=0)/\aP W w':=by
 refine(GG (es:=es) (.inr ⟨xL,wH⟩) cs (L.map Ux) (bd:Int) bo cv rv ev W (ny b.ah) (by rw[UG];exact ny b.rows) (λl h=>?_) (ny b.eI) c.vals (vn.bO b.ah) (vT b.rows b.each) (rA.bO b.eI)).mono ?_
 ·obtain⟨i,g,rfl⟩:=U7.1 h;exact ny (b.each i g)
 ·rintro e w' ⟨s,n,rfl,a,f⟩;refine⟨s,n,rfl,?_,f⟩;have j:=c.lo;have k:=c.hi;rcases a with⟨a,_⟩|⟨_,a,_⟩|⟨_,_,a,d⟩|⟨_,_,a,d⟩
  ·exact absurd c.table a
  ·exact absurd ⟨by omega,by omega,c.eI⟩ a
  ·exact .inl ⟨a,d⟩
  ·exact .inr ⟨Nat.le_of_not_lt a,d⟩
def MF(v:Nat->U)(c:v 15= .pointer (I ⟨gm,0,K⟩))(a:KM W gm base cv cs rv L ev es bd bo)(d:mZ cs (L.map Ux) es bd):(kp 4 VX).wp (aB T4) (λe a' W'=>e= .normal/\aP W W'/\(∃s n,(65536<(eC cs (L.map Ux) es bo bd).length/\s=⟨#[]⟩/\n=6\/(eC cs (L.map Ux) es bo bd).length<=65536/\s=strOf (eC cs (L.map Ux) es bo bd)/\n=0)/\Cc.Knows a' 227 [(1,v 1),(5,v 5),(6,v 6),(15,v 15),(16,.string s),(17,.int .i64 n)])/\a'.defers=[]) (nK v) W:=by
 obtain⟨j,aJ,rfl⟩:=bC a.md.ah;obtain⟨l,aN,rfl⟩:=bC a.md.rows;obtain⟨k,bW,rfl⟩:=bC a.md.eI;have i:X _:=MM (bo:=bo) a.md d;obtain⟨⟨m,o,p,q,r⟩,-⟩:=ff a.box;unfold nK;rw[c];clear a d c;unfold kp VX;dsimp only;simp only[qj]
 go_wp2_with (go_at_call 20;refine Calls.mono i.o ?_;rintro e t ⟨s,n,rfl,b,f⟩;have h:=af b;have g:=af f;clear b f)
 refine⟨g.o,s,n,h.o,?_⟩;exact(((((Am Y Y).cons Y).cons Y).cons Y).cons Y).cons Y
def O4(W:F)(v:Nat->U)(n:Nat)(ro:Option UJ)(aN:Nat)(h1:v 1= .slice ro n aN)(a:v 16= .string ⟨#[]⟩)(b:v 17= .int .i64 6)(d:100<n)(c:n<=Uq):(kp 5 VX).wp (aB T4) (λe a' W'=>e= .ret/\aP W W'/\Cc.Knows a' 227 [(14,.bool Z)]/\a'.defers=[]) (nK v) W:=by
 unfold nK Uq at*;have f:(100:Int)<(n:Int):=by omega
 rw[h1,a,b];unfold kp VX;dsimp only;simp only[qj];go_wp2;exact⟨Up _ _,Am Y Y⟩
def MD(W:F)(v:Nat->U)(a:v 17= .int .i64 0):(kp 5 VX).wp (aB T4) (λe a' W'=>e= .normal/\aP W W'/\Cc.Knows a' 227 [(5,v 5),(6,v 6),(15,v 15),(16,v 16),(17,.int .i64 0)]/\a'.defers=[]) (nK v) W:=by
 unfold nK;rw[a];unfold kp VX;dsimp only;simp only[qj];go_wp2;exact⟨Up _ _,((((Am Y Y).cons Y).cons Y).cons Y).cons Y⟩
def O6(v:Nat->U)(d:v 15= .pointer (I ⟨gm,0,K⟩))(a:KM W gm base cv cs rv L ev es bd bo){b2:Nat}(f:W.ownsRow b2 63 2 (v 18) cs.length (eH cs)):(kp 7 VX).wp (aB T4) (λe a' W'=>e= .normal/\aP W W'/\Cc.Knows a' 227 [(5,v 5),(6,v 6),(15,v 15),(16,v 16),(17,v 17),(19,v 19),(20,v 20),(21,.bool Z)]/\a'.defers=[]) (nK v) W:=by
 obtain⟨⟨u,-⟩,-⟩:=ff a.box;obtain⟨n,m,bE,aJ,g,-,h⟩:=vn.bO a.md.ah;obtain⟨q,o,r,p,i,-,j⟩:=vn.bO f;have l:X (bH 22 #[v 18,cv] W λe c=>aP W c/\e= .returned (.bool Z)):=by
  show bH 22 #[v 18,cv] W λe c=>aP W c/\e= .returned (.bool Z);rw[i,g];refine(wS cs cs q n o r p m bE aJ W (ny a.md.ah) (ny a.md.ah) j h).mono ?_;rintro e c ⟨t,rfl,b,s,rfl⟩;exact⟨Pk.below_drewN (Up _ _) s,by rw[b.2 Y]⟩
 unfold nK;rw[d];clear a d g i h j f;unfold kp VX;dsimp only;simp only[qj]
 go_wp2_with (go_at_call 22;refine l.o.mono ?_;rintro e w ⟨b,rfl⟩;have k:=af b;clear b)
 refine⟨k.o,?_⟩;exact(((((((Am Y Y).cons Y).cons Y).cons Y).cons Y).cons Y).cons Y).cons Y
def O8(v:Nat->U)(b:v 15= .pointer (I ⟨gm,0,K⟩))(a:KM W gm base cv cs rv L ev es bd bo)(c:v 17= .int .i64 0)(d:v 19= .int .i64 (L.length:Int))(f:v 20= .int .i64 0)(g:v 21= .bool Z):(kp 8 VX).wp (aB T4) (λe a' W'=>e= .normal/\aP W W'/\Cc.Knows a' 227 [(5,v 5),(6,v 6),(15,v 15),(16,v 16)]/\a'.defers=[]) (nK v) W:=by
 obtain⟨⟨-,i,-⟩,-⟩:=ff a.box;obtain⟨h,aN,rfl⟩:=bC a.md.rows;unfold nK;rw[b,c,d,f,g];unfold kp VX;dsimp only;simp only[qj];go_wp2;exact⟨Up _ _,(((Am Y Y).cons Y).cons Y).cons Y⟩
end
section
variable {W:F}{gm base:Nat}{cv:U}{cs:List bL}{rv:U}{L:List (List aE×U)}{ev:U}{es:List Int}{bd:Nat}{bo:Bool}
def MC(v:Nat->U)(ah:List Int)(co:Option UJ)(cb bE aJ:Nat)(R:v 5= .slice co ah.length aJ)(P:v 15= .pointer (I ⟨gm,0,K⟩))(Q:v 22=aO)(m:KM W gm base cv cs rv L ev es bd bo)(be:1<=cs.length/\cs.length<=8)(bi:ah.length<=16)(V:(0<ah.length->co=I ⟨cb,bE,K⟩)/\(0<ah.length->cb<W.heap.size)/\∀j,j<ah.length->aM W cb (bE+j) (.int .i64 (ah.getD j 0)))(ad:∀x∈ah,lP x):
 (kp 10 VX).wp (aB T4) (λe a' W'=>e= .normal/\aP W W'/\(∃J a,W'.ownsRow W.heap.size 3 1 J a.length (bz a)/\a.length=ah.length/\(∀k∈a,0<=k/\k<(cs.length:Int))/\Cc.Knows a' 227 [(6,v 6),(15,v 15),(16,v 16),(22,J)])/\a'.defers=[]) (nK v) W:=by
 obtain⟨bb,a5,a8,a9,ba⟩:=Ve ay.vD;have r:=af V;have ao:=af ad;obtain⟨⟨am,-⟩,-⟩:=ff m.box;obtain⟨N,M,rfl⟩:=bC m.md.ah;have a3:=Ue m.box;have av:=af am;unfold nK;rw[R,P,Q];clear R P Q m V ad am;unfold kp VX;dsimp only;simp only[qj]
 go_wp2_with fail
 go_loopw [22,23] (λaw y wr=>∃a:List Int,y= .int .i64 (a.length:Int)/\a.length<=ah.length/\wr.ownsRow W.heap.size 3 1 aw a.length (bz a)/\(∀k∈a,0<=k/\k<(cs.length:Int))/\aP W wr) (λ_ y _=>ah.length-(US y).toNat)
 case atStart=>exact⟨[],rfl,UE _,Vp _ _ _ _,λk h=>absurd h (by simp),Up _ _⟩
 case round=>
  obtain⟨a,rfl,bj,u,f,n⟩:=hrel;have D:=af f;obtain⟨H,G,rfl⟩:=bC u;have i:=af u;have d:=af n;clear f u;by_cases o:a.length<ah.length
  ·obtain rfl:=r.o.1 (by omega);have a1:=r.o.2.1 (by omega);have s:X (lP (ah.getD a.length 0)):=ao.o _ (by rw[Ui,Um o];exact Uj o);have Z:=r.o.2.2 _ o;generalize ah.getD a.length 0=q at*;have l:X (∀W',aP W W'->(λW':F=>aM W' cb (bE+a.length) (.int .i64 q)/\aM W' gm 0 (.slice N cs.length M)) W'):=λW' S=>⟨(S.cell (p:=⟨cb,_,K⟩) a1).trans Z,(S.cell (p:=⟨gm,0,K⟩) a3).trans av.o⟩;have E:X (∀W:F,bH 23 #[.int .i64 q,.int .i64 (cs.length:Int)] W λe bc=>bc=W/\∃b,e= .returned (.int .i64 b)/\0<=b/\b<(cs.length:Int)):=λW=>qc q cs.length W (by omega) (by omega) s.o.1 s.o.2;have p:=n.size;clear Z s n
   go_upto_region 15 with fail
   refine Un.open_ (λW':F=>aM W' cb (bE+a.length) (.int .i64 q)/\aM W' gm 0 (.slice N cs.length M)) 12 (λ_ _ _ _ _ h=>absurd (And.left h) (λh=>by cases h)) λbl=>?_;replace d:X (aP W wr.drew):=d.o.trans (((Up _ _).drew).mono p);replace i:X (wr.drew.ownsRow W.heap.size 3 1 (.slice H a.length G) a.length (bz a)):=aK i.o ((Up _ _).drew);have a0:=l.o _ d.o;replace p:=d.o.size;generalize wr.drew=br at*;refine Un.pk 0 ?_;refine Un.pk 1 ?_;refine Un.pk 2 ?_;refine Un.pk 3 ?_;refine Un.ld [12] 4 ?_;refine Un.pk 5 ?_;refine Un.pk 6 ?_;refine Un.ld [12] 7 ?_;refine Un.pk 8 ?_;refine Un.on 9 λg c=>?_;go_simp;go_at_call 23;refine(E.o _).mono ?_;rintro e z ⟨rfl,b,rfl,a6,a7⟩;refine c.o _ _ (λ_=>l.o _ d.o) ?_;clear c g a0 E
   try simp only[UW,Uc,Ul,Uk]
   refine Un.on 10 λg c=>?_;go_simp;have B:X (aP W (z.alloc (.cells #[.int .i64 b] 3))):=d.o.trans ((Up _ _).alloc p _);refine c.o _ _ (λ_=>l.o _ B.o) ?_;clear c g
   try simp only[UW,Uc,Ul,Uk]
   refine Un.one (i:=11) (by kernel_rfl) Y (λg c=>?_);have w:=i.o;refine WK _ (by rfl) _ _ 22 (by rfl) W.heap.size 3 bb _ 1 8 ay.underlying22 a5 a8 a9 ba Y (by decide) (.slice H a.length G) a.length _ (by rfl) (w.alloc _) ⟨z.heap.size,0,K⟩ 1 1 [.int .i64 b] (by rfl) Y (VJ (bk z _)) (by intro bm al;simp at al;subst al;rfl) (by decide) (by unfold Uq;omega) (by omega) (by simp;omega) _ Y ?_;intro O t A ae ab T a4;have aa:=aR.jj (n:=a.length+1) (cap:=t) ab T;have ar:X (A.ownsRow W.heap.size 3 1 (.slice (I ⟨O,0,K⟩) (a.length+1) t) (a++[b]).length (bz (a++[b]))):=by
    show A.ownsRow W.heap.size 3 1 (.slice (I ⟨O,0,K⟩) (a.length+1) t) (a++[b]).length (bz (a++[b]));rw[<-eS,Ua];exact ae
   have C:X (aP W A):=d.o.trans (aa.below (λaz a2=>(w.lt az a2).1) p);refine c.o _ _ (λ_=>l.o _ C.o) ?_;clear c g w ae ab T a4 aa
   try simp only[UW,Uc,Ul,Uk]
   refine Un.on 12 λg c=>?_;go_simp;refine c.o _ _ (λh=>absurd h (by decide)) ?_;clear c g;refine Un.done (by kernel_rfl) ?_ _
   try simp only[UW,Uc,Ul,Uk]
   clear d B i l;have ap:X (∀k∈a++[b],0<=k/\k<(cs.length:Int)):=λk f=>by
    rcases U1.1 f with f|f
    ·exact D.o k f
    ·simp only[WI] at f;subst f;exact⟨a6,a7⟩
   go_wp2_with fail
   go_roundw
   case rel=>exact⟨a++[b],by rw[Ua];go_num,by rw[Ua];exact o,ar.o,ap.o,C.o⟩
   case measure=>simp[US];omega
  ·have aq:X (a.length=ah.length):=by
    show a.length=ah.length;omega
   clear n
   go_wp2_with fail
   exact⟨d.o,_,a,i.o,aq.o,D.o,(((Am Y Y).cons Y).cons Y).cons Y⟩
def Lm (cs:List bL)(r:cF):Prop:=∃(a:Nat) (b:a<cs.length),r.col=(a:Int)/\VC cs[a].kind r.low/\VC cs[a].kind r.high
def KA(a:Int)(b:Bool)(c:Int)(d:ByteArray)(e:Bool)(f:Int)(g:ByteArray):∀u∈[VY .i64 a,.bool b,.int .i64 c,.string d,.bool e,.int .i64 f,.string g],u.oneCell'=Z:=by
 intro u h;simp at h;rcases h with rfl|rfl|rfl|rfl|rfl|rfl|rfl<;>rfl
def Ao(a b:List cF):dL (a++b)=dL a++dL b:=by simp[dL]
def JI(v:Nat->U)(rs:List cF)(ro:Option UJ)(rb bh aN:Nat)(bj:v 6= .slice ro rs.length aN)(be:v 15= .pointer (I ⟨gm,0,K⟩))(bi:v 24=aO)(D:KM W gm base cv cs rv L ev es bd bo)(c4:1<=cs.length/\cs.length<=8)(y:∀c∈cs,c.kind=1\/c.kind=2\/c.kind=3)(c5:rs.length<=16)(l:dB W ro rb bh rs)(bt:∀x∈rs,lP x.col/\(rC x.low/\x.low.s.size<=Uq)/\rC x.high/\x.high.s.size<=Uq):
 (kp 12 VX).wp (aB T4) (λe a' W'=>e= .normal/\aP W W'/\(∃a4 q,W'.ownsRow W.heap.size 61 7 a4 q.length (dL q)/\q.length=rs.length/\(∀r∈q,Lm cs r)/\Cc.Knows a' 227 [(15,v 15),(16,v 16),(22,v 22),(24,a4)])/\a'.defers=[]) (nK v) W:=by
 obtain⟨co,cf,ci,ck,cl⟩:=Ve ay.Mr;have b2:=af l;have bB:=af bt;have b0:=af y;obtain⟨⟨J,-⟩,-⟩:=ff D.box;obtain⟨cR,C,cn,Q,rfl,-,E⟩:=vn.bO D.md.ah;have cd:cn=0:=by
  rcases D.md.ah.2 with⟨e,c1⟩|⟨c0,cu,cx,e,_⟩
  ·omega
  ·have R:=E.addr (by omega);simp only[VA] at e;rw[e.1] at R;simp only[U8,Wh] at R;exact R.2.1.symm
 subst cd;obtain rfl:=E.addr (by omega);have bA:X (∀(a:Nat) (f:a<cs.length) W',aP W W'->aM W' C (a*2+1) (.int .i64 cs[a].kind)):=λa f W' k=>by
  have:=E.c1 a f;rw[UT] at this;exact(k.cell (p:=⟨C,_,K⟩) (E.lt (by omega))).trans this
 have cb:=Ue D.box;have a3:X (∀W',aP W W'->aM W' gm 0 (.slice (I ⟨C,0,K⟩) cs.length Q)):=λW' k=>(k.cell (p:=⟨gm,0,K⟩) cb).trans J;unfold nK;rw[bj,be,bi];clear bj be bi D E l bt y J;unfold kp VX;dsimp only;simp only[qj]
 go_wp2_with fail
 go_loopw [24,25,26,27] (λb5 ae _ _ wr=>∃q:List cF,ae= .int .i64 (q.length:Int)/\q.length<=rs.length/\wr.ownsRow W.heap.size 61 7 b5 q.length (dL q)/\(∀r∈q,Lm cs r)/\aP W wr) (λ_ ae _ _ _=>rs.length-(US ae).toNat)
 case atStart=>exact⟨[],rfl,UE _,Vp _ _ _ _,λa f=>absurd f (by simp),Up _ _⟩
 case round=>
  obtain⟨q,rfl,c7,ab,bu,H⟩:=hrel;have aw:=af bu;obtain⟨O,N,rfl⟩:=bC ab;have s:=af ab;have i:=af H;clear bu ab;by_cases n:q.length<rs.length
  ·have l:=b2.o;obtain rfl:=l.addr (by omega);have u:=l.lt (by omega);have p:=af (bB.o rs[q.length] (Uj n));have a5:=l.c0 _ n;have a6:=l.c1 _ n;have a7:=l.c2 _ n;have a8:=l.c3 _ n;have a9:=l.c4 _ n;have ba:=l.c5 _ n;have bb:=l.c6 _ n;generalize rs[q.length]=d at*;have M:X (∀W',aP W W'->(λW':F=>aM W' rb (bh+q.length*7) (.int .i64 d.col)/\aM W' gm 0 (.slice (I ⟨C,0,K⟩) cs.length Q)) W'):=λW' k=>⟨(k.cell (p:=⟨rb,_,K⟩) u).trans a5,a3.o W' k⟩;have o:X (∀W',aP W W'->(λW':F=>(aM W' rb (bh+q.length*7+1) (.bool d.low.null)/\aM W' rb (bh+q.length*7+1+1) (.int .i64 d.low.n)/\aM W' rb (bh+q.length*7+1+2) (.string d.low.s))/\aM W' rb (bh+q.length*7+4) (.bool d.high.null)/\aM W' rb (bh+q.length*7+4+1) (.int .i64 d.high.n)/\aM W' rb (bh+q.length*7+4+2) (.string d.high.s)) W'):=λW' k=>⟨⟨(k.cell (p:=⟨rb,_,K⟩) u).trans a6,(k.cell (p:=⟨rb,_,K⟩) u).trans a7,(k.cell (p:=⟨rb,_,K⟩) u).trans a8⟩,(k.cell (p:=⟨rb,_,K⟩) u).trans a9,(k.cell (p:=⟨rb,_,K⟩) u).trans ba,(k.cell (p:=⟨rb,_,K⟩) u).trans bb⟩;have a1:X (∀W:F,bH 23 #[.int .i64 d.col,.int .i64 (cs.length:Int)] W λe A=>A=W/\∃r:Nat,e= .returned (.int .i64 (r:Int))/\r<cs.length):=λW=>(qc d.col cs.length W (by omega) (by omega) p.o.1.1 p.o.1.2).mono λe A ⟨S,r,T,c2,c3⟩=>⟨S,r.toNat,by rw[T,show((r.toNat:Nat):Int)=r by omega],by omega⟩;have m:=H.size;clear H l a5 a6 a7 a8 a9 ba bb
   go_upto_region 20 with fail
   refine Un.open_ (λW':F=>aM W' rb (bh+q.length*7) (.int .i64 d.col)/\aM W' gm 0 (.slice (I ⟨C,0,K⟩) cs.length Q)) 10 (λ_ _ _ _ _ f=>absurd (And.left f) (λf=>by cases f)) λch=>?_;replace i:X (aP W wr.drew):=i.o.trans (((Up _ _).drew).mono m);replace s:X (wr.drew.ownsRow W.heap.size 61 7 (.slice O q.length N) q.length (dL q)):=aK s.o ((Up _ _).drew);have t:=M.o _ i.o;replace m:=i.o.size;generalize wr.drew=c9 at*;refine Un.pk 0 ?_;refine Un.pk 1 ?_;refine Un.pk 2 ?_;refine Un.pk 3 ?_;refine Un.ld [10] 4 ?_;refine Un.pk 5 ?_;refine Un.pk 6 ?_;refine Un.ld [10] 7 ?_;refine Un.pk 8 ?_;refine Un.on 9 λj b=>?_;go_simp;go_at_call 23;refine(a1.o _).mono ?_;rintro e al ⟨rfl,a,rfl,aa⟩;refine b.o _ _ (λ_=>M.o _ i.o) ?_;clear b j t a1
   try simp only[UW,Uc,Ul,Uk]
   refine Un.on 10 λj b=>?_;go_simp;refine b.o _ _ (λf=>absurd f (by decide)) ?_;clear b j;refine Un.done (by kernel_rfl) ?_ _
   try simp only[UW,Uc,Ul,Uk]
   have J:=a3.o _ i.o;have cp:=bA.o a aa _ i.o;have y:=b0.o cs[a] (Uj aa);have a2:X (∀h g,VC cs[a].kind h->VC cs[a].kind g->∀r∈q++[⟨(a:Int),h,g⟩],Lm cs r):=λh g S T r z=>by
    rcases U1.1 z with z|z
    ·exact aw.o r z
    ·simp only[WI] at z;subst z;exact⟨a,aa,rfl,S,T⟩
   generalize cs[a].kind=kd at*;have ar:X (∀W:F,bH 24 #[.agg (gZ d.low),.int .i64 kd] W λe A=>aP W A/\∃G:aE,e= .returned (.agg (gZ G))/\VC kd G):=λW=>um d.low kd W y p.o.2.1.1 p.o.2.1.2;have av:X (∀W:F,bH 24 #[.agg (gZ d.high),.int .i64 kd] W λe A=>aP W A/\∃G:aE,e= .returned (.agg (gZ G))/\VC kd G):=λW=>um d.high kd W y p.o.2.2.1 p.o.2.2.2;have c6:(a:Int)<(cs.length:Int):=by omega
   clear M p y
   go_upto_region 22 with fail
   refine Un.open_ (λW':F=>(aM W' rb (bh+q.length*7+1) (.bool d.low.null)/\aM W' rb (bh+q.length*7+1+1) (.int .i64 d.low.n)/\aM W' rb (bh+q.length*7+1+2) (.string d.low.s))/\aM W' rb (bh+q.length*7+4) (.bool d.high.null)/\aM W' rb (bh+q.length*7+4+1) (.int .i64 d.high.n)/\aM W' rb (bh+q.length*7+4+2) (.string d.high.s)) 19 (λ_ _ _ _ _ f=>absurd (And.left f) (λf=>by cases f)) λch=>?_;replace i:X (aP W al.drew):=i.o.trans (((Up _ _).drew).mono m);replace s:X (al.drew.ownsRow W.heap.size 61 7 (.slice O q.length N) q.length (dL q)):=aK s.o ((Up _ _).drew);have t:=o.o _ i.o;replace m:=i.o.size;clear J cp;generalize al.drew=da at*;refine Un.pk 0 ?_;refine Un.pk 1 ?_;refine Un.pk 2 ?_;refine Un.pk 3 ?_;refine Un.pk 4 ?_;refine Un.pk 5 ?_;refine Un.ld [19] 6 ?_;refine Un.pk 7 ?_;refine Un.pk 9 ?_;refine Un.pk 10 ?_;refine Un.pk 11 ?_;refine Un.pk 12 ?_;refine Un.ld [19] 13 ?_;refine Un.pk 14 ?_;refine Un.on 8 λj b=>?_;go_simp;go_at_call 24;refine(ar.o _).mono ?_;rintro e c8 ⟨V,h,rfl,bv⟩;have az:=af (aK s.o V);have B:=af (i.o.trans (V.mono m));refine b.o _ _ (λ_=>o.o _ B.o) ?_;clear b j t ar s i;replace m:=B.o.size
   try simp only[UW,Uc,Ul,Uk]
   have t:=o.o _ B.o;refine Un.on 15 λj b=>?_;go_simp;go_at_call 24;refine(av.o _).mono ?_;rintro e am ⟨Z,g,rfl,bs⟩;have a0:=af (aK az.o Z);have w:=af (B.o.trans (Z.mono m));refine b.o _ _ (λ_=>o.o _ w.o) ?_;clear b j t av az B V Z;replace m:=w.o.size
   try simp only[UW,Uc,Ul,Uk]
   have t:=o.o _ w.o;refine Un.pk 16 ?_;refine Un.on 17 λj b=>?_;go_simp;have ap:X (aP W (am.alloc (.cells #[.int .i64 (a:Int),.bool h.null,.int .i64 h.n,.string h.s,.bool g.null,.int .i64 g.n,.string g.s] 61))):=w.o.trans ((Up _ _).alloc m _);refine b.o _ _ (λ_=>o.o _ ap.o) ?_;clear b j t
   try simp only[UW,Uc,Ul,Uk]
   refine Un.one (i:=18) (by kernel_rfl) Y (λj b=>?_);have ad:=a0.o;refine WK _ (by rfl) _ _ 23 (by rfl) W.heap.size 61 co _ 7 72 ay.underlying23 cf ci ck cl Y (by decide) (.slice O q.length N) q.length _ (by rfl) (ad.alloc _) ⟨am.heap.size,0,K⟩ 1 1 [.int .i64 (a:Int),.bool h.null,.int .i64 h.n,.string h.s,.bool g.null,.int .i64 g.n,.string g.s] (by rfl) Y (VJ (bk am _)) (KA _ _ _ _ _ _ _) (by decide) (by unfold Uq;omega) (by omega) (by simp;omega) _ Y ?_;intro bc P ao bx br bl cc;have bm:=aR.jj (n:=q.length+1) (cap:=P) br bl;have b3:X (ao.ownsRow W.heap.size 61 7 (.slice (I ⟨bc,0,K⟩) (q.length+1) P) (q++[(⟨(a:Int),h,g⟩:cF)]).length (dL (q++[(⟨(a:Int),h,g⟩:cF)]))):=by
    show ao.ownsRow W.heap.size 61 7 (.slice (I ⟨bc,0,K⟩) (q.length+1) P) (q++[(⟨(a:Int),h,g⟩:cF)]).length (dL (q++[(⟨(a:Int),h,g⟩:cF)]));rw[Ao,Ua];exact bx
   have aq:X (aP W ao):=w.o.trans (bm.below (λb6 ca=>(ad.lt b6 ca).1) m);refine b.o _ _ (λ_=>o.o _ aq.o) ?_;clear b j ad bx br bl cc bm
   try simp only[UW,Uc,Ul,Uk]
   refine Un.on 19 λj b=>?_;go_simp;refine b.o _ _ (λf=>absurd f (by decide)) ?_;clear b j;refine Un.done (by kernel_rfl) ?_ _
   try simp only[UW,Uc,Ul,Uk]
   have b4:=af (a2.o h g bv bs);clear w ap a0 o a2 bv bs
   go_wp2_with fail
   go_roundw
   case rel=>exact⟨q++[(⟨(a:Int),h,g⟩:cF)],by rw[Ua];go_num,by rw[Ua];exact n,b3.o,b4.o,aq.o⟩
   case measure=>simp[US];omega
  ·have b1:X (q.length=rs.length):=by
    show q.length=rs.length;omega
   clear H
   go_wp2_with fail
   exact⟨i.o,_,q,s.o,b1.o,aw.o,(((Am Y Y).cons Y).cons Y).cons Y⟩
end
end Ec
namespace Cc
open Go Go.Conc
open Ec
def Dk (x:List aE)(k:Int):aE:=x.getD k.toNat ⟨T7,0,⟨#[]⟩⟩
def fG (rs:List cF)(x:List aE):Bool:=rs.all λa=>sg (Dk x a.col) a
def eT (ah:List Int)(x:List aE):List aE:=ah.map (Dk x)
theorem AT{jj:Nat->Bool}{b:Nat->List aE}{first:Nat}{f:List aE->Bool}{g:List aE->List aE}(L:List (List aE))(h1:∀q (h:q<L.length),jj q=f L[q])(c:∀q (h:q<L.length),b q=g L[q]):∀(n p:Nat),p+n=L.length->(eB jj b first p n).map VU=((L.drop p).filter f).map g
 |0,p,h=>by
  rw[List.drop_eq_nil_of_le (by omega)];rfl
 |n+1,p,h=>by
  have a:p<L.length:=by omega
  have d:=AT (first:=first) L h1 c n (p+1) (by omega);rw[List.drop_eq_getElem_cons a,List.filter_cons];simp only[eB];rw[h1 p a];cases f L[p]
  ·exact d
  ·show(b p)::_=_;rw[c p a,d];rfl
section
variable {cs:List bL}{rows:List (List aE)}{es:List Int}{bd:Nat}{bo:Bool}{V:Nat->Nat->List aE}{ah:List Int}{rs:List cF}
def Jo(j p:Nat)(a:j<b7 rows.length bd)(b:p<cs.length):(((bP rows cs es bo bd (b7 rows.length bd)).getD j ⟨0,[]⟩).chunks.getD p vJ).eY=if bo then cw (bI (bY rows bd j) p) else cE:=by
 simp[bP,a,Ui,gL,eu,b,BQ]
def DH(j:Nat)(a:j<b7 rows.length bd):rowsOf (bP rows cs es bo bd (b7 rows.length bd)) j=(bY rows bd j).length:=by
 simp[rowsOf,bP,a,Ui,gL]
def BU(j:Nat)(b:∀p,p<cs.length->V j p=bI (bY rows bd j) p){k:Int}(c:0<=k/\k<(cs.length:Int))(q:Nat)(a:q<(bY rows bd j).length):Ay V j k q=Dk (bY rows bd j)[q] k:=by
 unfold Ay Dk;rw[b _ (by omega)];simp[bI,Ui,a]
def LY(j:Nat)(g:j<b7 rows.length bd)(d:∀p,p<cs.length->V j p=bI (bY rows bd j) p)(hc:∀k∈ah,0<=k/\k<(cs.length:Int))(f:∀r∈rs,0<=r.col/\r.col<(cs.length:Int)):(ix (bP rows cs es bo bd (b7 rows.length bd)) ah rs V j).map VU=((bY rows bd j).filter (fG rs)).map (eT ah):=by
 unfold ix;rw[DH j g];refine AT (bY rows bd j) (λc a=>?_) (λc a=>?_) _ 0 (by omega)
 ·unfold nj fG;rw[XF,Uz,Uz];constructor<;>intro e r b
  ·rw[<-BU j d (f r b) c a];exact e r b
  ·rw[BU j d (f r b) c a];exact e r b
 ·unfold eT;exact List.map_congr_left λk h=>BU j d (hc k h) c a
def Q6(j:Nat)(b:j<b7 rows.length bd)(c:∀p,p<cs.length->V j p=bI (bY rows bd j) p){l:List Int}:Le (bP rows cs es bo bd (b7 rows.length bd)) (aY cs.length l) V j=Z:=by
 unfold Le;rw[Uz];intro d a;rw[jl] at a;rw[c d (by simpa using a),ga,DH j b];simp
def OK(j:Nat)(o:j<b7 rows.length bd)(t:∀r∈rs,0<=r.col/\r.col<(cs.length:Int))(h:tc (bP rows cs es bo bd (b7 rows.length bd)) rs j=Z):(bY rows bd j).filter (fG rs)=[]:=by
 unfold tc at h;obtain⟨r,i,b⟩:=List.any_eq_true.1 h;have v:=t r i;rw[Jo j r.col.toNat o (by omega)] at b;cases bo with
 |false=>simp[wM,cE] at b
 |true=>
  simp only[if_true] at b;unfold wM at b;rw[Uw,Bool.or_eq_true] at b;obtain⟨g,a⟩:=b;rcases Qw (bI (bY rows bd j) r.col.toNat) with⟨k,_⟩|⟨_,_,_,_,_,n⟩
  ·rw[k] at g;cases g
  ·rw[List.filter_eq_nil_iff];intro c u p;have f:=Uz.1 p r i;unfold sg at f;simp only[WO,Bool.or_eq_false_iff] at f;obtain⟨⟨s,e⟩,d⟩:=f;have q:Dk c r.col∈bI (bY rows bd j) r.col.toNat:=U7.2 ⟨c,u,rfl⟩;obtain⟨l,m⟩:=n _ q s;rcases a with a|a
   ·unfold ig at a e;simp only[Uw,WO,decide_eq_true_eq] at a;rw[a.1] at e;simp only[Bool.not_false,Bool.true_and,decide_eq_false_iff_not] at e;have:=oU (x:=r.low) (y:=Dk c r.col) (by rw[mg];omega) m;rw[mg] at this;omega
   ·unfold ic at a d;simp only[Uw,WO,decide_eq_true_eq] at a;rw[a.1] at d;simp only[Bool.not_false,Bool.true_and,decide_eq_false_iff_not] at d;have:=oU l (show fp (Dk c r.col) r.high<=0 by omega);omega
theorem Cz(sk:Bool)(d:0<bd)(c:∀j,j<b7 rows.length bd->∀p,p<cs.length->V j p=bI (bY rows bd j) p)(hc:∀k∈ah,0<=k/\k<(cs.length:Int))(b:∀r∈rs,0<=r.col/\r.col<(cs.length:Int))(ws:List Int):
 ∀(r i:Nat) (pre:List dy) (n:Nat),i+r=b7 rows.length bd->(iW sk (bP rows cs es bo bd (b7 rows.length bd)) ah rs (aY cs.length ws) V (λ_=>Z) i r pre n).2.2=0/\(iW sk (bP rows cs es bo bd (b7 rows.length bd)) ah rs (aY cs.length ws) V (λ_=>Z) i r pre n).1.map VU=pre.map VU++((rows.drop (i*bd)).filter (fG rs)).map (eT ah)
 |0,i,pre,n,f=>by
  have:¬i*bd<rows.length:=λg=>by have:=(mw d i).1 g;omega
  rw[List.drop_eq_nil_of_le (by omega)];exact⟨rfl,(Wr _).symm⟩
 |r+1,i,pre,n,f=>by
  have a:i<b7 rows.length bd:=by omega
  have hcut:rows.drop (i*bd)=bY rows bd i++rows.drop ((i+1)*bd):=by
   unfold bY;rw[show(i+1)*bd=i*bd+bd from Nat.succ_mul i bd,<-List.drop_drop,Ww]
  rw[Nr,hcut,List.filter_append,U0];by_cases e:(sk&&tc (bP rows cs es bo bd (b7 rows.length bd)) rs i)=Z
  ·rw[if_pos e,OK i a b (Bool.and_eq_true_iff.1 e).2];exact Cz sk d c hc b ws r (i+1) pre n (by omega)
  ·rw[if_neg e,if_pos (Q6 i a (c i a))];have:=Cz sk d c hc b ws r (i+1) (pre++ix (bP rows cs es bo bd (b7 rows.length bd)) ah rs V i) (n+1) (by omega);rw[U0,LY i a (c i a) hc b,UC] at this;exact this
def Mx(h:mZ cs rows es bd)(e:xF (I (cs.zip es,bP rows cs es bo bd (b7 rows.length bd))) V)(hc:∀k∈ah,0<=k/\k<(cs.length:Int))(b:∀r∈rs,(0<=r.col/\r.col<(cs.length:Int))/\iV (kD (cs.zip es) r.col) r=Z)(sk:Bool):
 oM (I (cs.zip es,bP rows cs es bo bd (b7 rows.length bd))) V ah rs sk=((rows.filter (fG rs)).map (eT ah),0):=by
 have d:(cs.zip es).length=cs.length:=by rw[List.length_zip,h.FW,Nat.min_self]
 have f:jz (I (cs.zip es,bP rows cs es bo bd (b7 rows.length bd))) ah rs=0:=by
  simp only[jz];rw[if_pos (by rw[sK,d];exact⟨hc,λr a=>(b r a).1⟩),if_pos (by unfold Cv;rw[Uz];exact λr a=>(b r a).2)]
 have i:=Cz (bo:=bo) (es:=es) sk (show 0<bd from h.lo) (Ak h e) hc (λr a=>(b r a).1) (ah++rs.map cF.col) (b7 rows.length bd) 0 [] 0 (by omega);have g:(bP rows cs es bo bd (b7 rows.length bd)).length=b7 rows.length bd:=jb _ _ _ _ _ _;have c:(sw (I (cs.zip es,bP rows cs es bo bd (b7 rows.length bd))) V ah rs sk λ_=>Z).2.2=0/\(sw (I (cs.zip es,bP rows cs es bo bd (b7 rows.length bd))) V ah rs sk λ_=>Z).1.map VU=(rows.filter (fG rs)).map (eT ah):=by
  simp only[sw];rw[d,g];simpa using i
 unfold oM;rw[f,if_pos Y,if_pos c.1,c.2]
end
end Cc
namespace Ec
open Go.RowKit Pk
theorem D2:∀(a b:List UInt8),Op.bytesLess a b=decide (Vd a b<0)
 | [],[]=>by simp[Op.bytesLess,Vd]
 |_::_,[]=>by simp[Op.bytesLess,Vd]
 | [],_::_=>by simp[Op.bytesLess,Vd]
 |x::a,d::b=>by
  unfold Op.bytesLess Vd;by_cases c:x<d
  ·simp[c]
  ·by_cases e:d<x
   ·have:x≠d:=λf=>by subst f;exact c e
    simp[c,e,this]
   ·have:x=d:=by
     apply UInt8.le_antisymm<;>simp_all
    simp[c,e,this,D2 a b]
def vG(x y:aE)(w:F):
 bH 28 #[.agg (gZ x),.agg (gZ y)] w λe w'=>e= .returned (.bool (decide (fp x y<0)))/\aP w w':=by
 have f:aP w ((w.alloc (.cells (gZ x) 59)).alloc (.cells (gZ y) 59)):=gA _ _;have c:=af f;clear f;by_cases b:x.n<y.n
 ·have a:X (fp x y<0):=by show fp x y<0;unfold fp;rw[if_pos b];decide
  go_enter ay.func28,Tryz.ntmps28;go_wp2;go_ret;exact⟨j5 (by simp[a.o]),c.o⟩
 ·by_cases d:x.n=y.n
  ·have a:X (fp x y=Vd x.s.data.toList y.s.data.toList):=by show fp x y=_;unfold fp;rw[if_neg b,if_neg (by omega)]
   have g:(x.n==y.n)=Z:=by simp[d]
   go_enter ay.func28,Tryz.ntmps28;go_wp2;go_ret;exact⟨j5 (by rw[a.o,D2,XJ,XJ]),gA _ _⟩
  ·have a:X (¬fp x y<0):=by show ¬fp x y<0;unfold fp;rw[if_neg b,if_pos (by omega)];decide
   have g:(x.n==y.n)=T7:=by simp[d]
   go_enter ay.func28,Tryz.ntmps28;go_wp2;go_ret;exact⟨j5 (by simp[a.o]),c.o⟩
end Ec
namespace Ec
open Go.RowKit Pk Pm
def Hq(rs:List cF)(x:List aE)(a9:Option UJ)(vb ki gP:Nat)(ro:Option UJ)(rb bh aN:Nat)(w:F)(bs:rs.length<=Uq)(bt:x.length<=Uq)(s:sJ w a9 vb ki x)(k:dB w ro rb bh rs)(aq:∀r∈rs,0<=r.col/\r.col<(x.length:Int)):
 bH 25 #[.slice a9 x.length gP,.slice ro rs.length aN] w λe w'=>∃bb,e= .returned (.bool bb)/\(bb=Z↔∀i (h:i<rs.length),sg (Cc.Dk x rs[i].col) rs[i]=Z)/\aP w w':=by
 unfold Uq at bs bt;have U:=af k;have ad:=af s;have T:=af aq;clear k s aq;go_enter ay.func25,Tryz.ntmps25
 go_wp2_with fail
 go_loopw [5] (λi wr=>∃b:Nat,b<=rs.length/\i= .int .i64 b/\(∀i (h:i<rs.length),i<b->sg (Cc.Dk x rs[i].col) rs[i]=Z)/\aP w wr) (λi _=>rs.length-(US i).toNat)
 case atStart=>exact⟨0,UE _,rfl,λb6 _ h=>by omega,Up _ _⟩
 case round=>
  obtain⟨b,b3,rfl,ao,C⟩:=hrel;have J:=af ao;have ab:=af C;have bu:=C.size;clear ao;by_cases q:b<rs.length
  ·have k:=U.o.below C;obtain rfl:=k.addr (by omega);have ar:=k.c0 b q;have av:=k.c1 b q;have aw:=k.c2 b q;have az:=k.c3 b q;have a0:=k.c4 b q;have a1:=k.c5 b q;have a2:=k.c6 b q;obtain⟨bl,bm⟩:=T.o rs[b] (Uj q);obtain⟨f,Y⟩:∃f:Nat,rs[b].col=(f:Int):=⟨rs[b].col.toNat,by omega⟩;have H:f<x.length:=by omega
   have s:=ad.o.below C;obtain rfl:=s.addr (by omega);have L:vb<wr.heap.size:=s.lt (by omega);have ae:=s.c0 f H;have al:=s.c1 f H;have am:=s.c2 f H;have A:X (sg (Cc.Dk x rs[b].col) rs[b]=T7->¬∀i (h:i<rs.length),sg (Cc.Dk x rs[i].col) rs[i]=Z):=λh bj=>by
    have:=bj b q;rw[h] at this;cases this
   have G:X (sg (Cc.Dk x rs[b].col) rs[b]=Z->∀i (h:i<rs.length),i<b+1->sg (Cc.Dk x rs[i].col) rs[i]=Z):=λh i br b2=>by
    by_cases e:i=b
    ·subst e;exact h
    ·exact J.o i br (by omega)
   have ap:Cc.Dk x rs[b].col=x[f]:=by
    rw[Y];unfold Cc.Dk;simp[Ui,H]
   rw[ap] at A G;clear k s C J U T ad bl bm ap;generalize rs[b]=r at*;generalize x[f]=v at*;obtain⟨ca,c,a⟩:=r;dsimp only at Y ar av aw az a0 a1 a2;subst Y
   go_upto_region 5 with fail
   have bv:=jM (iU wr (.cells #[.int .i64 (f:Int),.bool c.null,.int .i64 c.n,.string c.s,.bool a.null,.int .i64 a.n,.string a.s] 61));obtain⟨bx,a3,a4,a5,a6,a7,a8⟩:=bv;have g:aP wr (wr.alloc (.cells #[.int .i64 (f:Int),.bool c.null,.int .i64 c.n,.string c.s,.bool a.null,.int .i64 a.n,.string a.s] 61)):=(Up _ _).alloc (T8 _) _;have bd:=(g.cell (p:=⟨vb,ki+f*3,K⟩) L).trans ae;have be:=(g.cell (p:=⟨vb,ki+f*3+1,K⟩) L).trans al;have bi:=(g.cell (p:=⟨vb,ki+f*3+2,K⟩) L).trans am;have S:=af (ab.o.trans (g.mono bu));have z:wr.heap.size<(wr.alloc (.cells #[.int .i64 (f:Int),.bool c.null,.int .i64 c.n,.string c.s,.bool a.null,.int .i64 a.n,.string a.s] 61)).heap.size:=by simp
   clear g ar av aw az a0 a1 a2 ae al am L;generalize wr.alloc (.cells #[.int .i64 (f:Int),.bool c.null,.int .i64 c.n,.string c.s,.bool a.null,.int .i64 a.n,.string a.s] 61)=o at*;generalize wr.heap.size=j at*;have bo:(f:Int)<(x.length:Int):=by omega
   go_upto_region 6 with fail
   obtain⟨D,O,P⟩:=qz o (.bool v.null) (.int .i64 v.n) (.string v.s) 59;have g:aP o (o.alloc (.cells (gZ v) 59)):=(Up _ _).alloc (T8 _) _;have bA:=(g.cell (p:=⟨j,1,K⟩) z).trans a3;have b4:=(g.cell (p:=⟨j,2,K⟩) z).trans a4;have b5:=(g.cell (p:=⟨j,3,K⟩) z).trans a5;have I:=(g.cell (p:=⟨j,4,K⟩) z).trans a6;have Q:=(g.cell (p:=⟨j,5,K⟩) z).trans a7;have R:=(g.cell (p:=⟨j,6,K⟩) z).trans a8;have n:X (aP w (o.alloc (.cells (gZ v) 59))):=S.o.trans (g.mono (by have:=S.o.size;omega));have l:j<(o.alloc (.cells (gZ v) 59)).heap.size:=by simp;omega
   have m:o.heap.size<(o.alloc (.cells (gZ v) 59)).heap.size:=by simp
   clear g bx a3 a4 a5 a6 a7 a8 bd be bi S z bo H;generalize o.alloc (.cells (gZ v) 59)=bB at*;generalize o.heap.size=B at*;have t:=λW=>vG v c W;have E:=λW=>vG a v W;have p:sg v ⟨(f:Int),c,a⟩= !(v.null||ig v c||ic v a):=rfl;have y:c.null=Z/\ig v c=T7\/c.null=T7/\decide (fp v c<0)=T7/\ig v c=T7\/c.null=T7/\decide (fp v c<0)=Z/\ig v c=Z:=by
    unfold ig;cases c.null<;>simp;omega
   have u:a.null=Z/\ic v a=T7\/a.null=T7/\decide (fp a v<0)=T7/\ic v a=T7\/a.null=T7/\decide (fp a v<0)=Z/\ic v a=Z:=by
    unfold ic;rw[mg a v];cases a.null<;>simp;omega
   generalize decide (fp v c<0)=b1 at*;generalize decide (fp a v<0)=b0 at*;cases N:v.null
   ·rw[N] at D t E p;rcases y with⟨M,y⟩|⟨M,rfl,y⟩|⟨M,rfl,y⟩;clear t
    all_goals rcases u with⟨aa,u⟩|⟨aa,rfl,u⟩|⟨aa,rfl,u⟩
    all_goals
     rw[M] at bA;rw[aa] at I E
     try rw[M] at t
     rw[y,u] at p;clear y u N
     first
     |(have bc:=af (G.o p);clear A G p
       go_wp2_with (go_at_call 28;(first|(refine(t _).mono ?_;clear t)|refine(E _).mono ?_);rintro e w' ⟨rfl,d⟩;replace n:X (aP w w'):=n.o.trans (d.mono (by have:=n.o.size;omega));replace D:=(d.cell (p:=⟨B,0,K⟩) m).trans D;replace O:=(d.cell (p:=⟨B,1,K⟩) m).trans O;replace P:=(d.cell (p:=⟨B,2,K⟩) m).trans P;replace I:=(d.cell (p:=⟨j,4,K⟩) l).trans I;replace Q:=(d.cell (p:=⟨j,5,K⟩) l).trans Q;replace R:=(d.cell (p:=⟨j,6,K⟩) l).trans R;replace l:=Ud l d.size;replace m:=Ud m d.size;clear d)
       go_roundw
       (case rel=>exact⟨b+1,by omega,by go_num,bc.o,n.o⟩)
       case measure=>simp[US];omega)
     |(have V:=af (A.o p);clear A G p
       go_wp2_with (go_at_call 28;(first|(refine(t _).mono ?_;clear t)|refine(E _).mono ?_);rintro e w' ⟨rfl,d⟩;replace n:X (aP w w'):=n.o.trans (d.mono (by have:=n.o.size;omega));replace D:=(d.cell (p:=⟨B,0,K⟩) m).trans D;replace O:=(d.cell (p:=⟨B,1,K⟩) m).trans O;replace P:=(d.cell (p:=⟨B,2,K⟩) m).trans P;replace I:=(d.cell (p:=⟨j,4,K⟩) l).trans I;replace Q:=(d.cell (p:=⟨j,5,K⟩) l).trans Q;replace R:=(d.cell (p:=⟨j,6,K⟩) l).trans R;replace l:=Ud l d.size;replace m:=Ud m d.size;clear d)
       go_ret;exact⟨T7,rfl,by simp only[UB,false_iff];exact V.o,n.o⟩)
   ·rw[N] at D p;have V:=af (A.o p);clear A G p N t E y u;go_wp2;go_ret;exact⟨T7,rfl,by simp only[UB,false_iff];exact V.o,n.o⟩
  ·have ba:X (∀i (h:i<rs.length),sg (Cc.Dk x rs[i].col) rs[i]=Z):=λi h=>J.o i h (by omega);clear J C U T;go_wp2;go_ret;exact⟨Z,rfl,by simp only[true_iff];exact ba.o,ab.o⟩
def Ho(rs:List cF)(x:List aE)(d:Option UJ)(vb ki gP:Nat)(ro:Option UJ)(rb bh aN:Nat)(w:F)(i:rs.length<=Uq)(j:x.length<=Uq)(k:sJ w d vb ki x)(c:dB w ro rb bh rs)(h:∀r∈rs,0<=r.col/\r.col<(x.length:Int)):
 bH 25 #[.slice d x.length gP,.slice ro rs.length aN] w λe w'=>e= .returned (.bool (Cc.fG rs x))/\aP w w':=by
 refine(Hq rs x d vb ki gP ro rb bh aN w i j k c h).mono ?_;rintro e w' ⟨l,rfl,a,g⟩;refine⟨j5 ?_,g⟩;rw[XF,a];unfold Cc.fG;rw[Uz];constructor
 ·intro a r c;obtain⟨f,b,rfl⟩:=Vv c;exact a f b
 ·exact λa f b=>a _ (Uj b)
structure Dj(w W:F)(wv:U)(M:List (List aE×U)):Prop where
 rows:W.ownsRow w.heap.size 43 1 wv M.length (M.map VU)
 each:∀p∈M,W.ownsRow w.heap.size 59 3 p.2 p.1.length (aH p.1)
 dg:aP w W
structure zX(w W:F)(wv:U)(M:List (List aE×U))(x:List aE)(u:U):Prop where
 md:Dj w W wv M
 own:W.ownsRow w.heap.size 59 3 u x.length (aH x)
 ap:∀p∈M,Apart p.2 u
section
variable {w W W1:F}{wv:U}{M:List (List aE×U)}{x:List aE}{u u' v':U}
def Dj.below(h:Dj w W wv M)(a:aP W W1):Dj w W1 wv M:=
 ⟨aK h.rows a,λc b=>aK (h.each c b) a,h.dg.trans (a.mono h.dg.size)⟩
def zX.below(h:zX w W wv M x u)(a:aP W W1):zX w W1 wv M x u:=⟨h.md.below a,aK h.own a,h.ap⟩
def zX.grow(h:zX w W wv M x u)(a:aR W W1 u u'){y:aE}(e:W1.ownsRow w.heap.size 59 3 u' (x++[y]).length (aH (x++[y]))):zX w W1 wv M (x++[y]) u':=
 ⟨⟨bF h.md.rows a (dQ h.md.rows h.own (by decide)),λc b=>bF (h.md.each c b) a (h.ap c b),h.md.dg.trans (a.below (λd a=>(h.own.lt d a).1) h.md.dg.size)⟩,e,λc b=>(h.ap c b).jP (h.md.each c b) a⟩
def zX.put(h:zX w W wv M x u)(b:aR W W1 wv v')(f:W1.ownsRow w.heap.size 43 1 v' (M++[(x,u)]).length ((M++[(x,u)]).map VU)):Dj w W1 v' (M++[(x,u)]):=
 ⟨f,λc a=>by
  have d:W.ownsRow w.heap.size 59 3 c.2 c.1.length (aH c.1):=by
   rcases U1.1 a with a|a
   ·exact h.md.each c a
   ·simp at a;subst a;exact h.own
  exact bF d b (dQ d h.md.rows (by decide)),h.md.dg.trans (b.below (λe b=>(h.md.rows.lt e b).1) h.md.dg.size)⟩
end
def KN{a:List (List aE)}{rs:List cF}{b:List Int}{j:Nat}(h:j<a.length):(((a.take (j+1)).filter (Cc.fG rs)).map (Cc.eT b))=(((a.take j).filter (Cc.fG rs)).map (Cc.eT b))++(if Cc.fG rs a[j] then[Cc.eT b a[j]] else[]):=by
 rw[Uo h,List.filter_append,U0];congr 1;cases c:Cc.fG rs a[j]<;>simp[c]
section
variable {W:F}{gm base:Nat}{cv:U}{cs:List bL}{rv:U}{L:List (List aE×U)}{ev:U}{es:List Int}{bd:Nat}{bo:Bool}
def O9(v:Nat->U)(a:List Int)(rs:List cF)(ro:Option UJ)(rb bh aN:Nat)(bm:v 15= .pointer (I ⟨gm,0,K⟩))(Z:rA W (v 22) a)(bs:v 24= .slice ro rs.length aN)(bt:v 28=aO)(y:KM W gm base cv cs rv L ev es bd bo)(dC:a.length<=16)(d4:rs.length<=16)(du:L.length<=2000)(b0:∀p∈L,p.1.length=cs.length)(dE:1<=cs.length/\cs.length<=8)(bA:∀k∈a,0<=k/\k<(cs.length:Int))(b3:∀r∈rs,0<=r.col/\r.col<(cs.length:Int))(b1:dB W ro rb bh rs):
 (kp 14 VX).wp (aB T4) (λe a' W'=>e= .normal/\aP W W'/\(∃wv M,Dj W W' wv M/\M.map Ux=((L.map Ux).filter (Cc.fG rs)).map (Cc.eT a)/\Cc.Knows a' 227 [(16,v 16),(22,v 22),(24,v 24),(28,wv)])/\a'.defers=[]) (nK v) W:=by
 obtain⟨dk,c3,c8,c9,da⟩:=Ve ay.mJ;obtain⟨df,c2,db,dc,dd⟩:=Ve ay.Mq;obtain⟨cp,t,V,dq,Z,bu,bv,bx⟩:=Z;have ci:=af b1;have ck:=af b3;have a7:=af bA;have al:X ((0<a.length->cp=I ⟨t,V,K⟩)/\(0<a.length->t<W.heap.size)/\∀b,b<a.length->aM W t (V+b) (.int .i64 (a.getD b 0))):=⟨bu,bv,bx⟩;obtain⟨⟨-,ca,-⟩,-⟩:=ff y.box;have c1:=Ue y.box;obtain⟨b6,a4,rfl⟩:=bC y.md.rows;have bc:X (∀W',aP W W'->aM W' gm 1 (.slice b6 L.length a4)):=λW' i=>(i.cell (p:=⟨gm,1,K⟩) c1).trans ca;have cl:=af y.md.rows;have cc:=af y.md.each;have ch:=af b0;unfold nK;rw[bm,Z,bs,bt];clear bm Z bs bt y b1 b3 bA bu bv bx b0 ca;unfold kp VX;dsimp only;simp only[qj]
 go_wp2_with fail
 go_loopw [28,29,30,31,32] (λwv q _ _ _ wr=>∃(M:List (List aE×U)) (b:Nat),q= .int .i64 (b:Int)/\b<=L.length/\M.map Ux=(((L.map Ux).take b).filter (Cc.fG rs)).map (Cc.eT a)/\Dj W wr wv M) (λ_ q _ _ _ _=>L.length-(US q).toNat)
 case atStart=>exact⟨[],0,rfl,UE _,by simp,Vp _ _ _ _,λp n=>absurd n (by simp),Up _ _⟩
 case round=>
  obtain⟨M,b,rfl,dO,aq,l⟩:=hrel;obtain⟨cb,gU,rfl⟩:=bC l.rows;have B:=af l;have a8:=af aq;have dv:M.length<=b:=by
   have:=congrArg List.length aq;simp only[UG] at this;have cu:=List.length_filter_le (Cc.fG rs) ((L.map Ux).take b);rw[Vs] at cu;omega
  have u1:=bc.o _ l.dg;have a0:=l.dg.size;by_cases A:b<L.length
  ·have az:=cl.o;have c5:∃j,b6=I ⟨j,0,K⟩/\j<W.heap.size/\aM W j b L[b].2:=by
    rcases az.2 with⟨e,dt⟩|⟨bl,dr,ds,e,_,c0,_⟩
    ·omega
    ·simp only[VA] at e;have bB:=az.cells (g:=bl) (by rw[e.1];rfl) b L[b].2 (by simp[A]);rw[Xc,UT] at bB;exact⟨bl,e.1,Ue c0,bB⟩
   obtain⟨j,rfl,c7,aw⟩:=c5;have a3:=ch.o L[b] (Uj A);obtain⟨d5,f,ki,gP,b5,O⟩:=rY.bO (cc.o L[b] (Uj A));obtain rfl:=O.addr (by omega);rw[b5] at aw;have s:X ((((L.map Ux).take (b+1)).filter (Cc.fG rs)).map (Cc.eT a)=(M.map Ux)++(if Cc.fG rs L[b].1 then[Cc.eT a L[b].1] else[])):=by
    show(((L.map Ux).take (b+1)).filter (Cc.fG rs)).map (Cc.eT a)=_;rw[KN (by simpa using A),a8.o,Xr]
   generalize L[b].1=c at*;have a1:=O.lt (by omega);have ao:=af O;have bb:X (∀W',aP W W'->aM W' j b (.slice (I ⟨f,ki,K⟩) c.length gP)):=λW' i=>(i.cell (p:=⟨j,b,K⟩) c7).trans aw;have u2:=bb.o _ l.dg;have S:X (bH 25 #[.slice (I ⟨f,ki,K⟩) c.length gP,.slice ro rs.length aN] wr λe dl=>e= .returned (.bool (Cc.fG rs c))/\aP wr dl):=Ho rs c _ f ki gP ro rb bh aN wr (by unfold Uq;omega) (by unfold Uq;omega) (O.below l.dg) (ci.o.below l.dg) (λr c6=>by rw[a3];exact ck.o r c6);have co:=af a3;clear az O aw b5 l aq a3;cases ab:Cc.fG rs c with
   |false=>
    rw[ab] at S s;have am:X (M.map Ux=(((L.map Ux).take (b+1)).filter (Cc.fG rs)).map (Cc.eT a)):=by
     show M.map Ux=_;rw[s.o];simp
    clear s ab
    go_wp2_with (go_at_call 25;refine S.o.mono ?_;rintro e dp ⟨rfl,G⟩;have R:=af (B.o.below G);clear G)
    go_roundw
    case rel=>exact⟨M,b+1,by go_num,A,am.o,R.o⟩
    case measure=>simp[US];omega
   |true=>
    rw[ab] at S s;have am:X (∀u,(M++[(Cc.eT a c,u)]).map Ux=(((L.map Ux).take (b+1)).filter (Cc.fG rs)).map (Cc.eT a)):=λu=>by
     rw[s.o];simp
    clear s ab
    go_wp2_with (go_at_call 25;refine S.o.mono ?_;rintro e dp ⟨rfl,G⟩;have R:=af (B.o.below G);clear G)
    go_loopw [31,32] (λu q wr=>∃k:Nat,q= .int .i64 (k:Int)/\k<=a.length/\zX W wr (.slice cb M.length gU) M (Cc.eT (a.take k) c) u) (λ_ q _=>a.length-(US q).toNat)
    case atStart=>exact⟨0,rfl,UE _,R.o,Vp _ _ _ _,λp d1=>(show Apart aO p.2 from .inl Y).symm⟩
    case round=>
     clear R B u1 u2;obtain⟨k,rfl,dT,o⟩:=hrel;obtain⟨Q,P,rfl⟩:=bC o.own;have h:=af o;have a2:(Cc.eT (a.take k) c).length=k:=by unfold Cc.eT;rw[UG,Vs];omega
     have a0:=o.md.dg.size;by_cases z:k<a.length
     ·obtain rfl:=al.o.1 (by omega);have cR:=al.o.2.1 (by omega);have aa:=al.o.2.2 k z;rw[Ui,Um z,V2] at aa;obtain⟨d,av⟩:∃d:Nat,a[k]=(d:Int):=⟨a[k].toNat,by have:=(a7.o a[k] (Uj z)).1;omega⟩;have ae:d<c.length:=by have:=(a7.o a[k] (Uj z)).2;have:=co.o;omega
      rw[av] at aa;have cf:X (Cc.eT (a.take (k+1)) c=Cc.eT (a.take k) c++[c[d]]):=by
       show Cc.eT (a.take (k+1)) c=_;unfold Cc.eT;rw[Uo z,U0,av];simp[Cc.Dk,Ui,ae]
      have be:=ao.o.c0 d ae;have bi:=ao.o.c1 d ae;have bj:=ao.o.c2 d ae;generalize c[d]=g at*;have T:X (∀W',aP W W'->(λW':F=>(aM W' gm 1 (.slice (I ⟨j,0,K⟩) L.length a4)/\aM W' j b (.slice (I ⟨f,ki,K⟩) c.length gP)/\aM W' t (V+k) (.int .i64 (d:Int)))/\aM W' f (ki+d*3) (.bool g.null)/\aM W' f (ki+d*3+1) (.int .i64 g.n)/\aM W' f (ki+d*3+2) (.string g.s)) W'):=λW' i=>⟨⟨bc.o W' i,bb.o W' i,(i.cell (p:=⟨t,_,K⟩) cR).trans aa⟩,(i.cell (p:=⟨f,_,K⟩) a1).trans be,(i.cell (p:=⟨f,_,K⟩) a1).trans bi,(i.cell (p:=⟨f,_,K⟩) a1).trans bj⟩;generalize Cc.eT (a.take k) c=x at*;subst a2;have d2:(d:Int)<(c.length:Int):=by omega
      clear o aa be bi bj av
      go_upto_region 33 with fail
      refine Un.open_ (λW':F=>(aM W' gm 1 (.slice (I ⟨j,0,K⟩) L.length a4)/\aM W' j b (.slice (I ⟨f,ki,K⟩) c.length gP)/\aM W' t (V+x.length) (.int .i64 (d:Int)))/\aM W' f (ki+d*3) (.bool g.null)/\aM W' f (ki+d*3+1) (.int .i64 g.n)/\aM W' f (ki+d*3+2) (.string g.s)) 15 (λ_ _ _ _ _ n=>absurd (And.left n) (λn=>by cases n)) λd3=>?_;replace h:X (zX W wr.drew (.slice cb M.length gU) M x (.slice Q x.length P)):=h.o.below ((Up _ _).drew);have cx:=T.o _ h.o.md.dg;replace a0:=h.o.md.dg.size;generalize wr.drew=a6 at*;refine Un.pk 0 ?_;refine Un.pk 1 ?_;refine Un.pk 2 ?_;refine Un.ld [15] 3 ?_;refine Un.pk 4 ?_;refine Un.pk 5 ?_;refine Un.ld [15] 6 ?_;refine Un.pk 7 ?_;refine Un.pk 8 ?_;refine Un.pk 9 ?_;refine Un.ld [15] 10 ?_;refine Un.pk 11 ?_;refine Un.ld [15] 12 ?_;refine Un.on 13 λC m=>?_;go_simp;have a9:X (aP W (a6.alloc (.cells (gZ g) 59))):=h.o.md.dg.trans ((Up _ _).alloc a0 _);refine m.o _ _ (λ_=>T.o _ a9.o) ?_;clear m C cx
      try simp only[UW,Uc,Ul,Uk]
      refine Un.one (i:=14) (by kernel_rfl) Y (λC m=>?_);have ad:=h.o.own;have br:=fC g;refine WK _ (by rfl) _ _ 43 (by rfl) W.heap.size 59 dk _ 3 32 ay.underlying43 c3 c8 c9 da Y (by decide) (.slice Q x.length P) x.length _ (by rfl) (ad.alloc _) ⟨a6.heap.size,0,K⟩ 1 1 [.bool g.null,.int .i64 g.n,.string g.s] (by rfl) Y (VJ (bk a6 _)) br (by decide) (by unfold Uq;omega) (by omega) (by simp;omega) _ Y ?_;intro ap D a5 N J E ar;have H:=aR.jj (n:=x.length+1) (cap:=D) J E;have b2:a5.ownsRow W.heap.size 59 3 (.slice (I ⟨ap,0,K⟩) (x.length+1) D) (x++[g]).length (aH (x++[g])):=by
       rw[js,mW,Ua];exact N
      have ba:=af (h.o.grow H b2);refine m.o _ _ (λ_=>T.o _ ba.o.md.dg) ?_;clear m C ad N J E ar H b2 br
      try simp only[UW,Uc,Ul,Uk]
      refine Un.on 15 λC m=>?_;go_simp;refine m.o _ _ (λn=>absurd n (by decide)) ?_;clear m C;refine Un.done (by kernel_rfl) ?_ _
      try simp only[UW,Uc,Ul,Uk]
      clear h a9 T
      go_wp2_with fail
      go_roundw
      case rel=>exact⟨x.length+1,by go_num,z,by rw[cf.o];exact ba.o⟩
      case measure=>simp[US];omega
     ·have c4:k=a.length:=by omega
      subst c4;rw[Vf] at h o a2 ⊢;generalize Cc.eT a c=x at*;have ad:=o.md.rows;clear o a2
      go_wp2_with (at_builtin;refine wpList_append_lies _ Y _ _ 26 Y W.heap.size 43 df _ 1 24 ay.underlying26 c2 db dc dd Y (by decide) _ M.length _ Y (ad.alloc _) ⟨wr.heap.size,0,K⟩ 1 1 [.slice Q x.length P] Y Y (VJ (bk wr _)) (by intro u b4;simp at b4;subst b4;rfl) (by decide) (by unfold Uq;omega) (by omega) (by simp;omega) _ Y ?_;intro ap D a5 N J E ar;have H:=aR.jj (n:=M.length+1) (cap:=D) J E;have cn:X (Dj W a5 (.slice (I ⟨ap,0,K⟩) (M.length+1) D) (M++[(x,.slice Q x.length P)])):=h.o.put H (by rw[Ua,U0];exact N);clear N J E ar H)
      go_roundw
      case rel=>
       exact⟨M++[(x,.slice Q x.length P)],b+1,by go_num,A,am.o _,cn.o⟩
      case measure=>simp[US];omega
  ·have d0:b=L.length:=by omega
   have cd:X (M.map Ux=((L.map Ux).filter (Cc.fG rs)).map (Cc.eT a)):=by
    show M.map Ux=_;rw[a8.o,UO (by rw[UG];omega)]
   clear l
   go_wp2_with fail
   exact⟨B.o.dg,_,M,B.o,cd.o,(((Am Y Y).cons Y).cons Y).cons Y⟩
end
end Ec
end Go.Proofs.YtjidbonhhpkljaaGreat
namespace Go.Proofs.YtjidbonhhpkljaaGreat.Ec
open Go.RowKit Go.Proofs.YtjidbonhhpkljaaGreat.Pk Go.Proofs.YtjidbonhhpkljaaGreat.Pm
def CG:Nat->WV->WV
 |0,a=>a
 |n+1,.seq _ b=>CG n b
 |_,a=>a
def kd (n:Nat)(fn:WC):WV:=match fn.body with
 |some a=>CG n a
 |none=>.skip
def Bi{W:F}{R:List (List aE)}{a b:U}(h:AB W a R)(c:AB W b R)(f:R.length<=Uq)(g:∀r∈R,r.length<=Uq)(W':F)(d:aP W W'):bH 14 #[a,b] W' λe w'=>e= .returned (.bool Z)/\aP W' w':=by
 obtain⟨n,l,o,m,rfl,_,i⟩:=h.below d;obtain⟨s,p,t,q,rfl,_,j⟩:=c.below d;refine(CD R R n s l o m p t q W' f f g g i j).mono ?_;rintro e w' ⟨b,rfl,c,k,rfl⟩;exact⟨by rw[c.2 Y],Pk.below_drewN (Up _ _) k⟩
def O7(W:F)(v:Nat->U)(R:List (List aE))(i:v 17= .int .i64 0)(j:v 20= .int .i64 0)(m:AB W (v 33) R)(n:AB W (v 34) R)(f:AB W (v 28) R)(c:R.length<=Uq)(d:∀r∈R,r.length<=Uq):(kd 17 VX).wp (aB T4) (λe a' W'=>e= .ret/\aP W W'/\Cc.Knows a' 227 [(14,.bool Z)]/\a'.defers=[]) (nK v) W:=by
 have h:X (∀W',aP W W'->bH 14 #[v 33,v 28] W' λe g=>e= .returned (.bool Z)/\aP W' g):=λW' b=>Bi m f c d W' b;have o:X (∀W',aP W W'->bH 14 #[v 34,v 28] W' λe g=>e= .returned (.bool Z)/\aP W' g):=λW' b=>Bi n f c d W' b;unfold nK;rw[i,j];clear m n f i j c d;unfold kd VX;dsimp only;simp only[CG]
 go_wp2_with (go_at_call 14;first|(refine(h.o _ (Up _ _)).mono ?_;rintro e q ⟨rfl,k⟩;have a:=af k;clear k h)|(refine(o.o _ a.o).mono ?_;rintro e s ⟨rfl,l⟩;have p:=af (a.o.trans (l.mono a.o.size));clear l))
 exact⟨p.o,Am Y Y⟩
def Ei{w:F}{base:Nat}{d:Option UJ}{n cap:Nat}{a:List Int}(h:w.ownsRow base 3 1 (.slice d n cap) a.length (bz a)):∃b c,(0<a.length->d=I ⟨b,c,K⟩)/\(0<a.length->b<w.heap.size)/\∀j,j<a.length->aM w b (c+j) (.int .i64 (a.getD j 0)):=by
 obtain⟨k,b,c,l,e,f,g,i⟩:=rA.bO h;obtain⟨rfl,-,-⟩:=X3 e;exact⟨b,c,f,g,i⟩
def Ej{w:F}{base:Nat}{ro:Option UJ}{cap:Nat}{q:List cF}(h:w.ownsRow base 61 7 (.slice ro q.length cap) q.length (dL q)):∃rb bh,dB w ro rb bh q:=by
 rcases h.2 with⟨b,d⟩|⟨c,e,f,b,_⟩
 ·obtain rfl:=Vh d;exact⟨0,0,λh=>by simp at h,λh=>by simp at h,λa h=>by simp at h,λa h=>by simp at h,λa h=>by simp at h,λa h=>by simp at h,λa h=>by simp at h,λa h=>by simp at h,λa h=>by simp at h⟩
 ·obtain⟨rfl,-,-⟩:=X3 b;exact⟨c,0,dB.Ge h⟩
def Nl{cs:List bL}{es:List Int}{r:cF}(a:∀c∈cs,c.kind=1\/c.kind=2\/c.kind=3)(k:es.length=cs.length)(h:Lm cs r):(0<=r.col/\r.col<(cs.length:Int))/\iV (Cc.kD (cs.zip es) r.col) r=Z:=by
 obtain⟨d,b,e,f,g⟩:=h;refine⟨by omega,?_⟩;have j:d<(cs.zip es).length:=by rw[List.length_zip];omega
 have i:Cc.kD (cs.zip es) r.col=cs[d].kind:=by
  unfold Cc.kD;rw[e,Int.toNat_natCast,Ui,Um j,V2,List.getElem_zip]
 unfold iV;rw[i,(uB (a _ (Uj b)) f).1,(uB (a _ (Uj b)) g).1];rfl
end Go.Proofs.YtjidbonhhpkljaaGreat.Ec
namespace Go.Proofs.YtjidbonhhpkljaaGreat.Cc
open Go Go.Conc
open Go.RowKit (Below)
open Go.Proofs.YtjidbonhhpkljaaGreat.Ec
def TV(v0 v1 v2 b c d e:U)(m:Nat)(i:7<=m):Knows ⟨#[v0,v1,v2,b,c,d,e]++U3 (m-7) Vk,[]⟩ m [(0,v0),(1,v1),(2,v2),(3,b),(4,c),(5,d),(6,e)]:=by
 have a:∀f v,(#[v0,v1,v2,b,c,d,e]:Array U)[f]? =I v->aW ⟨#[v0,v1,v2,b,c,d,e]++U3 (m-7) Vk,[]⟩ f=v:=λf v g=>by
  unfold aW;rw[UD,Array.getElem?_append_left (Ub.1 g).1,g];rfl
 refine Knows.cons (Knows.cons (Knows.cons (Knows.cons (Knows.cons (Knows.cons (Knows.cons (l:=[]) ⟨?_,λs v h=>by simp at h⟩ (a 6 e Y)) (a 5 d Y)) (a 4 c Y)) (a 3 b Y)) (a 2 v2 Y)) (a 1 v1 Y)) (a 0 v0 Y);simp;omega
def Hu:(Tryz.f21.name == "runtime.NumGoroutine")=T7:=by kernel_rfl
section
variable {Post:U->F->Prop}{cs:List bL}{rows:List (List aE)}{es:List Int}{bd:Nat}{bo:Bool}{w0:F}
def JH(b:mZ cs rows es bd)(q:(eC cs rows es bo bd).length<=65536){a:List Int}{rs:List cF}(l:∀k∈a,0<=k/\k<(cs.length:Int))(t:∀r∈rs,Lm cs r)(y:a.length<=16)(z:rs.length<=16){co:Option UJ}{cb bE aJ:Nat}{ro:Option UJ}{rb bh aN:Nat}(sk:Bool)
 (m:0<a.length->co=I ⟨cb,bE,K⟩) (o:0<a.length->cb<w0.heap.size) (n:∀j,j<a.length->aM w0 cb (bE+j) (.int .i64 (a.getD j 0))) (s:dB w0 ro rb bh rs):
 mi (aB T4) T4 Post 13 #[.string (Pk.strOf (eC cs rows es bo bd)),.slice co a.length aJ,.slice ro rs.length aN,.bool sk] w0 (Dg ((rows.filter (fG rs)).map (eT a),0) w0):=by
 have f:(Pk.strOf (eC cs rows es bo bd)).size<=Uq:=by rw[Pk.kK];unfold Uq;omega
 obtain⟨c,hF⟩:=OR (Pk.strOf (eC cs rows es bo bd)) w0 f;have d:=pV b bo q;have i:c=I (cs.zip es,bP rows cs es bo bd (b7 rows.length bd)):=by
  cases c with
  |none=>exact absurd d (hF _ _)
  |some w=>
   obtain⟨A,x⟩:=w;obtain⟨g,h⟩:=hF.2 _ _ d;rw[<-g,<-h]
 subst i;obtain⟨V,e⟩:=Mp w0 hF;have p:=gw b.table.1;have v:=Mx (bo:=bo) b e l (λr u=>Nl p b.eI.1.symm (t r u)) sk;have:=GH (Post:=Post) (ah:=a) (rs:=rs) (co:=co) (cb:=cb) (bE:=bE) (aJ:=aJ) (ro:=ro) (rb:=rb) (bh:=bh) (aN:=aN) (sk:=sk) (w0:=w0) f hF e (by omega) (by omega) m o n s;rw[v] at this;exact this
def xd(b:mZ cs rows es bd)(k:(eC cs rows es bo bd).length<=65536)(W:F):bH 21 #[.string (Pk.strOf (eC cs rows es bo bd))] W λe W'=>aP W W'/\∃v,e= .returned v/\∃a,v= .tuple #[a,.int .i64 (rows.length:Int),.int .i64 0]/\W'.ownsRow W.heap.size 63 2 a cs.length (eH cs):=by
 refine(CB (Pk.strOf (eC cs rows es bo bd)) W (by rw[Pk.kK];unfold Uq;omega)).mono ?_;rintro e W' ⟨i,o,q,m,a,rfl,j,f,-⟩;have d:=pV b bo k;obtain⟨p,n,c,rfl,rfl,rfl,l⟩|⟨c,-⟩:=j
 ·obtain⟨g,h⟩:=l _ _ d;subst g;rw[tP b] at f;refine⟨i,_,rfl,a,?_,f⟩;rw[<-h,xP b bo];rfl
 ·exact absurd d (c _ _)
end
end Go.Proofs.YtjidbonhhpkljaaGreat.Cc
namespace Go.Proofs.YtjidbonhhpkljaaGreat
namespace Cc
open Go Go.Conc
open Go.RowKit (Below)
open Ec
section
variable {Post:U->F->Prop}{kinds:List Int}{raw:List aE}{dU:List Int}{Fv:Int}{bo:Bool}{ah:List Int}{rs:List cF}{ko:Option UJ}{kb gM fF:Nat}{vo:Option UJ}{vb ki gP:Nat}{eo:Option UJ}{eb jg bW:Nat}{co:Option UJ}{cb bE aJ:Nat}{ro:Option UJ}{rb bh aN:Nat}{w0:F}
def O3(dE:kinds.length<=Uq)(bA:raw.length<=Uq)(dC:dU.length<=Uq)(dq:∀x∈kinds,lP x)(dp:∀x∈dU,lP x)(dt:∀x∈raw,rC x/\x.s.size<=Uq)(c9:lP Fv)(ds:∀x∈ah,lP x)(dr:∀x∈rs,lP x.col/\(rC x.low/\x.low.s.size<=Uq)/\rC x.high/\x.high.s.size<=Uq)
 (dl:ah.length<=Uq) (dd:ah.length<=aJ) (eh:rs.length<=Uq) (ef:rs.length<=aN)
 (a0:(0<kinds.length->ko=I ⟨kb,gM,K⟩)/\(0<kinds.length->kb<w0.heap.size)/\∀j,j<kinds.length->aM w0 kb (gM+j) (.int .i64 (kinds.getD j 0))) (Q:sJ w0 vo vb ki raw) (aw:(0<dU.length->eo=I ⟨eb,jg,K⟩)/\(0<dU.length->eb<w0.heap.size)/\∀j,j<dU.length->aM w0 eb (jg+j) (.int .i64 (dU.getD j 0)))
 (bu:0<ah.length->co=I ⟨cb,bE,K⟩) (dk:0<ah.length->cb<w0.heap.size) (dc:∀j,j<ah.length->aM w0 cb (bE+j) (.int .i64 (ah.getD j 0))) (b1:dB w0 ro rb bh rs) (A:xG (aB T4) w0)
 (bB:∀H,RelB (gh w0) w0 H->Post (.bool Z) H):
 tR (aB T4) T4 Post (Ug (UY T4 4 #[.slice ko kinds.length fF,.slice vo raw.length gP,.slice eo dU.length bW,.int .i64 Fv,.bool bo,.slice co ah.length aJ,.slice ro rs.length aN] .normal) []) w0:=by
 have c:=ir (aB T4) T4 Post;refine Xe.go (own:=gh w0) ?_ (λbi d=>d) A;rw[enter_at _ Tryz.func4 Y];have a:=TV (.slice ko kinds.length fF) (.slice vo raw.length gP) (.slice eo dU.length bW) (.int .i64 Fv) (.bool bo) (.slice co ah.length aJ) (.slice ro rs.length aN) 227 (by decide);have eq:(ah.take 16).length=min ah.length 16:=by rw[Vs];omega
 have er:(rs.take 16).length=min rs.length 16:=by rw[Vs];omega
 refine aS c ?_;refine bq c [0] Y ?_;refine m0 c a (.bool T7) λa=>?_;refine ak c ?_;refine aS c ?_;refine bq c [0,1,2] Y ?_;refine cH c a λa=>?_;refine oX (vs:= #[.slice co ah.length aJ]) (R:=λe v y=>∃C,v= .slice co (ah.take 16).length C) cV Y Y Y Y (mr (a.of Y)) Tryz.func8 SK Y (jX Y Y Y).symm (dJ Y (by simp only[put_defers]) (by kernel_rfl)) (λe i l=>(OQ co ah.length aJ e dl dd λd=>⟨_,_,bu d⟩).mono λm y ⟨⟨C,_,T⟩,P⟩=>⟨by rw[P];exact Below.refl _ _,_,T,C,by rw[eq]⟩) λv e y H i l c2 b bs D=>?_;obtain⟨bj,rfl⟩:=b;replace a:=a.put (d:=38) (by decide) (.slice co (ah.take 16).length bj);refine gX c a λa=>?_;refine ak c ?_;refine aS c ?_;refine bq c [0,1,2] Y ?_;refine cH c a λa=>?_;refine oX (vs:= #[.slice ro rs.length aN]) (R:=λe v y=>∃C,v= .slice ro (rs.take 16).length C) cV Y Y Y Y (mr (a.of Y)) Tryz.func9 Fe Y (jX Y Y Y).symm (dJ Y (by simp only[put_defers]) (by kernel_rfl)) (λe i l=>(Ae ro rs.length aN e eh ef λd=>⟨_,_,b1.addr d⟩).mono λm y ⟨⟨C,_,T⟩,P⟩=>⟨by rw[P];exact Below.refl _ _,_,T,C,by rw[er]⟩) λv e6 e7 hm gy hd gf b g5 X=>?_;obtain⟨ch,rfl⟩:=b;replace a:=a.put (d:=40) (by decide) (.slice ro (rs.take 16).length ch);refine gX c a λa=>?_;refine ak c ?_;have k:=eg D X;refine aS c ?_;refine nC cV a (by simp only[put_defers]) (kp 3 VX) _ (Pt λs d=>by cases d) (dJ Y (by simp only[put_defers]) (by kernel_rfl)) (λv e b i l=>by
  have g:=(iq k).trans (ng i l);have:=O5 e v raw.length bo (by
   rw[b 0 _ Y,b 1 _ Y,b 2 _ Y,b 3 _ Y,b 4 _ Y];exact MJ kinds raw dU Fv bo ko kb gM fF vo vb ki gP eo eb jg bW e dE bA dC ⟨a0.1,λd=>Ud (a0.2.1 d) g.2,λj n=>g.cell (a0.2.2 j n)⟩ ⟨Q.addr,λd=>Ud (Q.lt d) g.2,λj n=>g.cell (Q.c0 j n),λj n=>g.cell (Q.c1 j n),λj n=>g.cell (Q.c2 j n)⟩ ⟨aw.1,λd=>Ud (aw.2.1 d) g.2,λj n=>g.cell (aw.2.2 j n)⟩ dq dp dt c9)
  rw[b 1 _ Y,b 5 _ Y,b 6 _ Y] at this;exact this) λfv e8 e9 hn g0 he gg d5 c6 ee=>?_
 obtain⟨⟨f8,base,f6,q,hk,o,f7,O,N,h,t,g8,a⟩,f⟩:=d5;replace h:=h.ce (AN c6);replace k:=eg k ee;have az:1<=q.length/\q.length<=8:=⟨t.table.1.1,t.table.1.2.1⟩;have bv:=gw t.table.1;refine aS c ?_;refine nC cV a f (kp 4 VX) _ (Pt λs d=>by cases d) (dJ Y f (by kernel_rfl)) (λv e b i l=>by
  have:=MF v (b 15 _ Y) (h.ce (ng i l)) t;rw[b 1 _ Y,b 5 _ Y,b 6 _ Y,b 15 _ Y] at this;exact this) λfx fa fb al g1 hf gi d6 gn b3=>?_
 obtain⟨⟨s,hj,en,a⟩,f⟩:=d6;replace h:=h.ce (iq b3);replace k:=eg k b3;refine aS c ?_;rcases en with⟨g7,rfl,rfl⟩|⟨hi,rfl,rfl⟩
 ·have c1:100<raw.length:=by
   rcases Vy 100 raw.length with d|d
   ·exact d
   ·have:=GL t bo (by rw[UG];omega);omega
  refine IR cV a f (kp 5 VX) (λe M y=>Knows M 227 [(14,.bool Z)]/\M.defers=[]) (Pt λs d=>by cases d) (dJ Y f (by kernel_rfl)) (λv e b i l=>O4 e v raw.length vo gP (b 1 _ Y) (b 16 _ Y) (b 17 _ Y) c1 bA) λcx cu cv e0 eQ c8 em c3 a1 c7 a4=>?_;obtain⟨a,f⟩:=a1;exact QI (by kernel_rfl) Y f Tryz.func4 (j6 Tryz.results4 (a.slot 14 _ Y)) λae J=>bB ae (eg (eg k a4) J)
 have bx:(eC q (o.map Ux) O bo N).length<=65536:=by omega
 refine nC cV a f (kp 5 VX) _ (Pt λs d=>by cases d) (dJ Y f (by kernel_rfl)) (λv e b i l=>by
  have:=MD e v (b 17 _ Y);rw[b 5 _ Y,b 6 _ Y,b 15 _ Y,b 16 _ Y] at this;exact this) λfz fd fe L g2 hg gj d7 gq u=>?_
 obtain⟨a,f⟩:=d7;replace h:=h.ce (iq u);replace k:=eg k u;refine aS c ?_;refine bq c [0,1,2,3,4,5,6,7,8] Y ?_;refine cH c a λa=>?_;refine oX (vs:= #[.string (Pk.strOf (eC q (o.map Ux) O bo N))]) (R:=λe v y=>∃bl,v= .tuple #[bl,.int .i64 (o.length:Int),.int .i64 0]/\y.ownsRow e.heap.size 63 2 bl q.length (eH q)) cV Y Y Y Y (mr (a.of Y)) Tryz.func21 Hu Y (jX Y Y Y).symm (dJ Y (by simp only[put_defers];exact f) (by kernel_rfl)) (λe i l=>by have:=xd t bx e;rw[UG] at this;exact this) λv e y ck i l c2 b bs b4=>?_;obtain⟨et,rfl,V⟩:=b;replace V:=(AN bs).own V;generalize e.heap.size=cR at V;replace a:=a.put (d:=66) (by decide) (.tuple #[et,.int .i64 (o.length:Int),.int .i64 0]);refine cH c a λa=>?_;refine ri c a λa=>?_;refine ri c a λa=>?_;refine ri c a λa=>?_;refine gX c a λa=>?_;refine gX c a λa=>?_;refine gX c a λa=>?_;refine ak c ?_;replace h:=h.ce (iq b4);replace k:=eg k b4;refine aS c ?_;refine nC cV a (by simp only[put_defers];exact f) (kp 7 VX) _ (Pt λs d=>by cases d) (dJ Y (by simp only[put_defers];exact f) (by kernel_rfl)) (λv e b i l=>by
  have g:=ng i l;have:=O6 v (b 15 _ Y) (h.ce g) (b2:=cR) (by rw[b 18 _ Y];exact g.own V);rw[b 5 _ Y,b 6 _ Y,b 15 _ Y,b 16 _ Y,b 17 _ Y,b 19 _ Y,b 20 _ Y] at this;exact this) λf0 fg fi ho g3 hh gl d8 gr b5=>?_
 obtain⟨a,f⟩:=d8;replace h:=h.ce (iq b5);replace k:=eg k b5;refine aS c ?_;refine nC cV a f (kp 8 VX) _ (Pt λs d=>by cases d) (dJ Y f (by kernel_rfl)) (λv e b i l=>by
  have g:=ng i l;have:=O8 v (b 15 _ Y) (h.ce g) (b 17 _ Y) (b 19 _ Y) (b 20 _ Y) (b 21 _ Y);rw[b 5 _ Y,b 6 _ Y,b 15 _ Y,b 16 _ Y] at this;exact this) λf1 fk fl cl g4 ca gm d9 gs b6=>?_
 obtain⟨a,f⟩:=d9;replace h:=h.ce (iq b6);replace k:=eg k b6;refine aS c ?_;refine bq c [0] Y ?_;refine m0 c a aO λa=>?_;refine ak c ?_;have U:∀j,j<(ah.take 16).length->j<ah.length:=λj n=>by simp at n;omega
 have df:=iq k;have db:∀e,Ce w0 e->(0<(ah.take 16).length->co=I ⟨cb,bE,K⟩)/\(0<(ah.take 16).length->cb<e.heap.size)/\∀j,j<(ah.take 16).length->aM e cb (bE+j) (.int .i64 ((ah.take 16).getD j 0)):=λe g=>⟨λd=>bu (U 0 d),λd=>Ud (dk (U 0 d)) g.2,λj n=>by
  rw[g.cell (dc j (U j n))];have T:=U j n;have P:j<16:=by simp at n;omega
  simp[Ui,V8,P]⟩
 have da:(ah.take 16).length<=16:=by omega
 have ec:(rs.take 16).length<=16:=by omega
 refine aS c ?_;refine nC cV a (by simp only[put_defers];exact f) (kp 10 VX) _ (Pt λs d=>by cases d) (dJ Y (by simp only[put_defers];exact f) (by kernel_rfl)) (λv e b i l=>by
  have g:=ng i l;have:=MC v (ah.take 16) co cb bE bj (b 5 _ Y) (b 15 _ Y) (b 22 _ Y) (h.ce g) az da (db e (df.trans g)) (λx a9=>ds x (V5 a9));rw[b 6 _ Y,b 15 _ Y,b 16 _ Y] at this;exact this) λfm cp e3 ae gt ha f9 d2 c4 J=>?_
 obtain⟨⟨f2,z,r,g6,bt,a⟩,f⟩:=d2;replace h:=h.ce (iq J);replace r:=(AN c4).own r;generalize cp.heap.size=f3 at r;replace k:=eg k J;obtain⟨S,R,rfl⟩:=bC r;refine aS c ?_;refine bq c [0] Y ?_;refine m0 c a aO λa=>?_;refine ak c ?_;refine aS c ?_;refine nC cV a (by simp only[put_defers];exact f) (kp 12 VX) _ (Pt λs d=>by cases d) (dJ Y (by simp only[put_defers];exact f) (by kernel_rfl)) (λv e b i l=>by
  have g:=ng i l;have:=JI v (rs.take 16) ro rb bh ch (b 6 _ Y) (b 15 _ Y) (b 24 _ Y) (h.ce g) az bv ec (((iq k).trans g).Sv (dB.take b1 16)) (λx a9=>dr x (V5 a9));rw[b 15 _ Y,b 16 _ Y,b 22 _ Y] at this;exact this) λft cs e4 hl gv hb gc d3 c5 a3=>?_
 obtain⟨⟨qv,w,B,g9,b0,a⟩,f⟩:=d3;replace h:=h.ce (iq a3);replace B:=(AN c5).own B;generalize cs.heap.size=f4 at B;replace r:=(iq a3).own r;replace k:=eg k a3;obtain⟨ab,aa,rfl⟩:=bC B;refine aS c ?_;refine bq c [0] Y ?_;refine m0 c a aO λa=>?_;refine ak c ?_;have ea:∀E∈w,0<=E.col/\E.col<(q.length:Int):=λE d=>(Nl bv t.eI.1.symm (b0 E d)).1;refine aS c ?_;refine nC cV a (by simp only[put_defers];exact f) (kp 14 VX) _ (Pt λs d=>by cases d) (dJ Y (by simp only[put_defers];exact f) (by kernel_rfl)) (λv e b i l=>by
  have g:=ng i l;have:=(by
   obtain⟨cd,cf,a2⟩:=Ej (g.own B);obtain⟨bd,be,aq,ar,av⟩:=Ei (g.own r);exact O9 v z w ab cd cf aa (b 15 _ Y) (by rw[b 22 _ Y];exact⟨S,bd,be,R,rfl,aq,ar,av⟩) (b 24 _ Y) (b 28 _ Y) (h.ce g) (by omega) (by omega) (by have:=t.table.2.1;rw[UG] at this;exact this) (λp A=>t.len p.1 (U7.2 ⟨p,A,rfl⟩)) az bt ea a2:(kp 14 VX).wp (aB T4) _ (nK v) e)
  rw[b 16 _ Y,b 22 _ Y,b 24 _ Y] at this;exact this) λfu bc e5 bb gx hc ge d4 bm W=>?_
 obtain⟨⟨hp,cn,br,ao,a⟩,f⟩:=d4;replace h:=h.ce (iq W);have a8:=(AN bm).own br.rows;have a7:∀p∈cn,bb.ownsRow bc.heap.size 59 3 p.2 p.1.length (aH p.1):=λp A=>(AN bm).own (br.each p A);generalize bc.heap.size=f5 at a8 a7;replace B:=(iq W).own B;replace r:=(iq W).own r;replace k:=eg k W;have dO:(((o.map Ux).filter (fG w)).map (eT z)).length<=Uq:=by rw[<-ao,UG];exact ny a8
 have dT:∀E∈((o.map Ux).filter (fG w)).map (eT z),E.length<=Uq:=λE b2=>by
  rw[<-ao] at b2;obtain⟨p,A,rfl⟩:=U7.1 b2;exact ny (a7 p A)
 obtain⟨cd,cf,a2⟩:=Ej B;obtain⟨bd,be,aq,ar,av⟩:=Ei r;have ci:∀(sk:Bool) (ad:F),RelB (gh bb) bb ad->mi (aB T4) T4 Post 13 #[.string (Pk.strOf (eC q (o.map Ux) O bo N)),.slice S z.length R,.slice ab w.length aa,.bool sk] ad (Dg (((o.map Ux).filter (fG w)).map (eT z),0) ad):=λsk ad a6=>JH t bx bt b0 (by omega) (by omega) sk aq (λd=>Ud (ar d) a6.size) (λj n=>(iq a6).cell (av j n)) ((iq a6).Sv a2);refine aS c ?_;refine bq c [0,1,2,3,4,5,6,7,8] Y ?_;refine cH c a λa=>?_;refine cH c a λa=>?_;refine cH c a λa=>?_;refine sD (vs:= #[.string (Pk.strOf (eC q (o.map Ux) O bo N)),.slice S z.length R,.slice ab w.length aa,.bool T7]) (R:=λH m G=>Dg (((o.map Ux).filter (fG w)).map (eT z),0) H m G) Y Y Y Y (xK (a.of Y) (a.of Y) (a.of Y) Y) Tryz.func13 Oi Y (dJ Y (by simp only[put_defers];exact f) (by kernel_rfl)) (λL u=>ci T7 L u) (λL v ck u ap a5 d0=>?_) (λal c0 G ⟨_,m,_⟩=>by cases m) (λal G ⟨_,m,_⟩=>by cases m);obtain⟨e1,m,ba,-,du,el⟩:=ap;have am:=YA m;subst am;have D:=Et u du el a5;refine Xe.go (own:=gh ck) ?_ (λbi d=>d) d0;replace a:=a.put (d:=199) (by decide) (.tuple #[e1,.int .i64 0]);refine cH c a λa=>?_;refine ri c a λa=>?_;refine ri c a λa=>?_;refine gX c a λa=>?_;refine gX c a λa=>?_;refine ak c ?_;refine aS c ?_;refine bq c [0,1,2,3,4,5,6,7,8] Y ?_;refine cH c a λa=>?_;refine cH c a λa=>?_;refine cH c a λa=>?_;refine sD (vs:= #[.string (Pk.strOf (eC q (o.map Ux) O bo N)),.slice S z.length R,.slice ab w.length aa,.bool Z]) (R:=λH m G=>Dg (((o.map Ux).filter (fG w)).map (eT z),0) H m G) Y Y Y Y (xK (a.of Y) (a.of Y) (a.of Y) Y) Tryz.func13 Oi Y (dJ Y (by simp only[put_defers];exact f) (by kernel_rfl)) (λL u=>ci Z L (eg D u)) (λL v cl u ap a5 d1=>?_) (λal c0 G ⟨_,m,_⟩=>by cases m) (λal G ⟨_,m,_⟩=>by cases m);obtain⟨e2,m,es,-,dv,ca⟩:=ap;have am:=YA m;subst am;have X:=Et u dv ca a5;replace ba:=sI.like ba (Ni X);replace D:=eg D X;refine Xe.go (own:=gh cl) ?_ (λbi d=>d) d1;replace a:=a.put (d:=206) (by decide) (.tuple #[e2,.int .i64 0]);refine cH c a λa=>?_;refine ri c a λa=>?_;refine ri c a λa=>?_;refine gX c a λa=>?_;refine gX c a λa=>?_;refine ak c ?_;refine IR cV a (by simp only[put_defers];exact f) (kd 17 VX) (λe M y=>Knows M 227 [(14,.bool Z)]/\M.defers=[]) (λs d=>by simp at d) (dJ Y (by simp only[put_defers];exact f) (by kernel_rfl)) (λv e b i l=>?_) λcx cu cv e0 eQ c8 em c3 a1 c7 a4=>?_
 ·have g:=(iq D).trans (ng i l);have cc:=vT (g.own a8) (λp A=>g.own (a7 p A));rw[ao] at cc;exact O7 e v _ (b 17 _ Y) (b 20 _ Y) (by rw[b 33 _ Y];exact(sI.like ba i).TO.1) (by rw[b 34 _ Y];exact(sI.like es i).TO.1) (by rw[b 28 _ Y];exact cc) dO dT
 ·obtain⟨a,f⟩:=a1;exact QI (by kernel_rfl) Y f Tryz.func4 (j6 Tryz.results4 (a.slot 14 _ Y)) λae J=>bB ae (eg (eg (eg k D) a4) J)
end
end Cc
end Go.Proofs.YtjidbonhhpkljaaGreat
