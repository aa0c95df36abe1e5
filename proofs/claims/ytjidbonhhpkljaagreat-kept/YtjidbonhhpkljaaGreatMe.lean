/- What the proof stands on, in short names. -/
import Derived.Test.YtjidbonhhpkljaaGreatMd

set_option linter.all false
open Array renaming getD_eq_getD_getElem?->UE,getElem?_eq_none->Vm,getElem?_eq_some_iff->Uc,getElem?_push->VD,getElem?_setIfInBounds->UQ,range->Yq,replicate->U4
open Bool renaming and_eq_true->Ux,eq_iff_iff->XH,false->T8,false_eq_true->UC,not_eq_true'->WR,true->Z
open Classical renaming byContradiction->V0,choose->Vr,choose_spec->Uw
open False renaming elim->Yr
open Go renaming Act->V7,Addr->UK,Code->WX,Ending->WU,Frame->Uu,Func->WD,Item->WO,Oper->Vv,Operand->U7,Program->Ug,TypeId->Ui,Value->U,World->F,bodyPost->VS,execOp->UI,heap_setCell_other->Uv,heap_setCell_same->Us,info_parts->Vg,lt_of_block->Uf,maxLen->Ur,results->UY,step_append_lies->WL,undef->Vl,wpList_append_fits->VI,yielded->Vk
open Go.Act renaming put->UX
open Go.Addr renaming add->Ys,add_mid->Xf
open Go.Addr.mk renaming injEq->Wi
open Go.ByteArray renaming toList_eq->XL
open Go.Code renaming wp_mono->Yg
open Go.Conc renaming G->Uh
open Go.Ending.returned renaming inj->YB
open Go.Frame renaming enter->UZ,finish->VX,round->WZ
open Go.Instr renaming fill->X8
open Go.Lib renaming compareBytes->Vf
open Go.Proofs.Tryz renaming f13->VU,f19->Wd,f4->VY,f53->Wn,f54->Xh,f78->U3,f79->Wz,isAgg3->Yw,prog->T5,sizeOf3->X6,underlying115->WG,underlying139->V8,underlying160->WH
open Go.Region renaming binds->Vo,wanted->UG
open Go.Region.linearise renaming go->Va
open Go.RowKit renaming intOf->UT
open Go.RowKit.Below renaming heap_alloc->UO,refl->Uq
open Go.Value renaming cells->WI,int->VZ,ownBlock->VA
open Go.Value.slice renaming inj->X4,injEq->VB
open Go.World renaming cell?->Ut,drewN_drewN->Xj,frozen?->UR,news_of_block->VL,ownsRow_nil->Vq
open Int renaming eq_ofNat_of_zero_le->WC
open List renaming all_eq_true->UA,append_assoc->UD,append_nil->Ws,eq_nil_of_length_eq_zero->Vi,getD_eq_getElem?_getD->Uj,getElem?_append_left->Vx,getElem?_append_right->Vp,getElem?_eq_getElem->Uo,getElem?_eq_some_iff->UB,getElem?_take->V9,getElem_map->Xt,getElem_mem->Uk,getElem_of_mem->Vw,getElem_take->VG,length_append->Ub,length_cons->VJ,length_map->UH,length_nil->XJ,length_take->Vt,map_append->U1,map_cons->Xy,mem_append->U2,mem_cons->VN,mem_map->U8,mem_of_getElem?->VE,mem_of_mem_take->V6,mem_range->Vu,mem_singleton->WJ,not_mem_nil->XS,range->UL,range_succ->XK,setIfInBounds_toArray->Ud,set_cons_succ->Ul,set_cons_zero->Um,take_append_drop->Wx,take_length->Vh,take_of_length_le->UP,take_succ_eq_append_getElem->Up
open Nat renaming le_refl->T9,le_trans->Uz,lt_of_lt_of_le->Ue,lt_or_ge->Vz,mul_add->Yf,mul_comm->Xz,mul_le_mul->Wt,zero_add->UU,zero_le->UF
open Option renaming getD_some->V3,map_some->V4,none->K,some->I
open Option.some renaming inj->Yl,injEq->U9
open Prod renaming fst->Uy,snd->VV
set_option maxRecDepth 100000
set_option maxHeartbeats 8000000
namespace Go.Proofs.YtjidbonhhpkljaaGreat
namespace Cc
open Go Go.Conc
open Ec (aE aH)
open Go.RowKit (Below)
def BP(ws:List Bool)(ch:Nat->Nat):(eF ws ch 0).toArray=madeCells #[.chan K] (ws.length*1):=by
 apply Array.toList_inj.1;rw[toList_madeCells_one,Nat.mul_one];refine List.ext_getElem (by simp[dS]) λf b d=>?_;simp[eF]
def Ca(ws:List Bool)(g:Nat->Nat)(V:Nat->List aE)(N:Nat):(fw ws g V N 0).toArray=madeCells #[aR] (ws.length*1):=by
 apply Array.toList_inj.1;rw[toList_madeCells_one,Nat.mul_one];refine List.ext_getElem (by simp[dX]) λf b d=>?_;simp[fw]
def n9{P0:Ug}{c:Uu}(h:eO P0 c [])(v:U):eO P0 (c.finish v) []:=⟨(fC h.top v).1,λf b=>by simp at b,(fC h.top v).2.trans h.bot⟩
def jg{P0 P:Ug}{S:Nat->Prop}{m:Bool}{d:(Nat->Prop)->Uu->List Uu->F->Prop}{own:Nat->Prop}{cs:List Uu}{w:F}{b:Uu}{a:V7}(f:nR P0 P S m d){fn:WD}{todo:List WO}{c:Uu}{v:U}(p:b.kind= .normal)(h:a.defers=[])(l:P.funcs[b.fn]? =I fn)(q:∀w,(UY fn a.tmps).run P w= .ok v w)(j:∀w,(UY fn a.tmps).events P w #[]=#[])
 (o:d own (c.finish v) cs w):d own {b.at a todo with mode:=.returning} (c::cs) w:=kV f (λw=>stepG_leave p h l (q w) (j w)) o
def TV(v0 v1 v2:U)(m:Nat)(j:3<=m):Knows ⟨#[v0,v1,v2]++U4 (m-3) Vl,[]⟩ m [(0,v0),(1,v1),(2,v2)]:=by
 have b:∀d v,(#[v0,v1,v2]:Array U)[d]? =I v->aV ⟨#[v0,v1,v2]++U4 (m-3) Vl,[]⟩ d=v:=λd v f=>by
  unfold aV;rw[UE,Array.getElem?_append_left (Uc.1 f).1,f];rfl
 refine Knows.cons (Knows.cons (Knows.cons (l:=[]) ⟨?_,λs v h=>by simp at h⟩ (b 2 v2 Y)) (b 1 v1 Y)) (b 0 v0 Y);simp;omega
def RU:∃i,T5.info? 193=I i/\i.zero=I (.chan K)/\i.size=1/\i.bytes=8:=⟨Tryz.t193,by kernel_rfl,rfl,rfl,rfl⟩
def Ok:∃i,T5.info? 43=I i/\i.zero=I aR/\i.size=1/\i.bytes=24:=⟨Tryz.t43,by kernel_rfl,rfl,rfl,rfl⟩
section
variable {S O:Nat->Prop}{w0 w w':F}{s:Nat->ByteArray}{k e:Nat->Int}{N cb n cap kb nk ck eb ne ce wb gV:Nat}{x:U}{ws:List Bool}{V:Nat->List aE}{ch g:Nat->Nat}{bb fb cT lb i:Nat}{μ:Nat->Option (List U)}{a:V7}{Post:U->F->Prop}{cs:List Uu}{lB:Bool}{c:Uu}
def NW(h:zT S O w0 w N cb n cap kb nk ck eb ne ce x wb gV ws V ch g bb fb cT lb ws.length lB μ a)
 (j:kw (aB T5) T5 Post S O μ (Uh (c.finish (.tuple #[.slice (I ⟨lb,0,K⟩) ws.length ws.length,.bool lB])) cs) w):
 kw (aB T5) T5 Post S O μ (Uh ((base 78).at a [.code (nt U3),.inLoop (nt U3),.inBlock 2,.code (FY U3)]) (c::cs)) w:=by
 have d:=h.kn;have b:=dU (aB T5) T5 Post S μ;refine aQ b ?_;refine bp b [0] Y ?_;refine dF b d Y (.bool T8) (jy Y (d.of Y) (d.of Y) (by simp)) λd=>?_;refine ak b ?_;refine aQ b ?_;refine dw b T8 (d.of Y) ?_;refine ue b (k':=[.code (FY U3)]) Y ?_;refine aQ b ?_;refine bp b [0,1,2,3] Y ?_;refine cI b d λd=>?_;refine cI b d λd=>?_;refine gY b d λd=>?_;refine gY b d λd=>?_;refine ak b ?_;refine pM b ?_;have f:=gJ (P:=T5) Tryz.results78 (d.slot 6 _ Y) (d.slot 7 _ Y);exact jg b Y (by simp only[put_defers];exact h.df) Tryz.func78 f.1 f.2 j
def KP(j:Fl S w0 s k e N cb n kb nk eb ne wb ws V)(t:∀O w a g lB μ,zT S O w0 w N cb n cap kb nk ck eb ne ce x wb gV ws V ch g bb fb cT lb ws.length lB μ a->kw (aB T5) T5 Post S O μ (Uh (c.finish (.tuple #[.slice (I ⟨lb,0,K⟩) ws.length ws.length,.bool lB])) cs) w):
 ∀(d i:Nat),i+d=ws.length->∀O w a g lB μ,zT S O w0 w N cb n cap kb nk ck eb ne ce x wb gV ws V ch g bb fb cT lb i lB μ a->
 kw (aB T5) T5 Post S O μ (Uh ((base 78).at a [.code (nt U3),.inLoop (nt U3),.inBlock 2,.code (FY U3)]) (c::cs)) w:=by
 intro d
 induction d with
 |zero=>
  intro i r O w a g lB μ b;have:i=ws.length:=by omega
  subst this;exact NW b (t O w a g lB μ b)
 |succ d o=>
  intro i r O w a g lB μ b;have u:i<ws.length:=by omega
  have m:ws[i]? =I ws[i]:=Uo u;cases l:ws[i] with
  |true=>exact G7 j b (by rw[m,l]) λp w' f q v y h=>o (i+1) (by omega) p w' f q v y h
  |false=>exact KQ j b (by rw[m,l]) λf h=>o (i+1) (by omega) O w f g lB μ h
def Rb(q:Fl S w0 s k e N cb n kb nk eb ne wb ws V)(h:IW S O w0 w N cb n cap kb nk ck eb ne ce x wb gV ws V ch bb fb cT ws.length μ a)
 (A:∀lb O w a g lB μ,zT S O w0 w N cb n cap kb nk ck eb ne ce x wb gV ws V ch g bb fb cT lb ws.length lB μ a->kw (aB T5) T5 Post S O μ (Uh (c.finish (.tuple #[.slice (I ⟨lb,0,K⟩) ws.length ws.length,.bool lB])) cs) w):
 kw (aB T5) T5 Post S O μ (Uh ((base 78).at a [.code (dx U3),.inLoop (dx U3),.inBlock 0,.code (gW U3)]) (c::cs)) w:=by
 obtain⟨b,v,f,o,M,J,L,y,m⟩:=h;have d:=dU (aB T5) T5 Post S μ;obtain⟨G,z,F,D,u⟩:=Ok;have P:=q.mm;refine aQ d ?_;refine bp d [0] Y ?_;refine dF d b Y (.bool T8) (jy Y (b.of Y) (b.of Y) (by simp)) λb=>?_;refine ak d ?_;refine aQ d ?_;refine dw d T8 (b.of Y) ?_;refine ue d (k':=[.code (gW U3)]) Y ?_;refine aQ d ?_;refine bp d [0,1,2,3] Y ?_;refine cI d b λb=>?_;refine dF d b Y (.int .i64 (ws.length:Int)) (so Y (b.of Y) WH) λb=>?_;refine mC d f.inr (by decide) Y Y (.cells (madeCells (Value.slice K 0 0).cells (ws.length*G.size)) 43) trivial (λn=>.slice (I ⟨n,0,K⟩) ws.length ws.length) (Cd Y (b.of Y) (b.of Y) Tryz.underlying26 z F (T9 _) (by rw[u];omega) (by omega)) λlb H B E hrel t=>?_;replace b:=b.put (d:=39) (by decide) (.slice (I ⟨lb,0,K⟩) ws.length ws.length);refine gY d b λb=>?_;refine ak d ?_;refine aQ d ?_;refine bp d [0] Y ?_;refine m6 d b (.bool Z) λb=>?_;refine ak d ?_;refine aQ d ?_;refine aQ d ?_;refine bp d [0,1,2] Y ?_;refine cI d b λb=>?_;refine dF d b Y (.int .i64 (ws.length:Int)) (so Y (b.of Y) WH) λb=>?_;refine dF d b Y (.int .i64 ((0:Nat):Int)) (cm Y Y) λb=>?_;refine ak d ?_;refine gC d ?_;refine uf d ?_;have C:=f.new B E hrel;have Q:=f.inr bb (.inr f.ob);have R:=f.inr fb (.inr f.of);have T:=f.inr cT (.inr o);have U:=f.HJ.size;refine KP (lb:=lb) (ch:=ch) q (λO w a g lB μ h=>A lb O w a g lB μ h) ws.length 0 (by omega) _ H _ (λ_=>0) Z μ ⟨((((((b.nil.cons (b.slot 2 _ Y)).cons (b.slot 3 _ Y)).cons (b.slot 6 _ Y)).cons (b.slot 7 _ Y)).cons (b.slot 8 _ Y)).cons (b.slot 41 _ Y)).cons (b.slot 42 _ Y),by simp only[put_defers];exact v,C,.inl o,(hrel.at_ cT (.inr o)).trans y,.inr Y,by omega,by omega,by omega,by omega,?_,λl j=>absurd j (by omega),⟨λl r j p=>m.mu l r j p,m.no,m.inj,λl j p=>Ue (m.lt l j p) hrel.size⟩,⟨λ_ l j=>absurd j (by omega),λ_=>rfl⟩⟩;rw[Ca,<-D];exact t
def go_loop(j:Fl S w0 s k e N cb n kb nk eb ne wb ws V)(t:∀ch lb O w a g lB μ,zT S O w0 w N cb n cap kb nk ck eb ne ce x wb gV ws V ch g bb fb cT lb ws.length lB μ a->kw (aB T5) T5 Post S O μ (Uh (c.finish (.tuple #[.slice (I ⟨lb,0,K⟩) ws.length ws.length,.bool lB])) cs) w):
 ∀(d i:Nat),i+d=ws.length->∀O w a ch μ,IW S O w0 w N cb n cap kb nk ck eb ne ce x wb gV ws V ch bb fb cT i μ a->
 kw (aB T5) T5 Post S O μ (Uh ((base 78).at a [.code (dx U3),.inLoop (dx U3),.inBlock 0,.code (gW U3)]) (c::cs)) w:=by
 intro d
 induction d with
 |zero=>
  intro i r O w a ch μ b;have:i=ws.length:=by omega
  subst this;exact Rb j b (λlb O w a g lB μ b=>t ch lb O w a g lB μ b)
 |succ d o=>
  intro i r O w a ch μ b;have u:i<ws.length:=by omega
  have m:ws[i]? =I ws[i]:=Uo u;cases l:ws[i] with
  |true=>exact go_round j b (by rw[m,l]) λp w' f q v h=>o (i+1) (by omega) p w' f q v h
  |false=>exact go_skip j b (by rw[m,l]) λf h=>o (i+1) (by omega) O w f ch μ h
def Ly(p:Fl S w0 s k e N cb n kb nk eb ne wb ws V)
 (M:∀bb fb cT ch lb O w a g lB μ,zT S O w0 w N cb n cap kb nk ck eb ne ce x wb gV ws V ch g bb fb cT lb ws.length lB μ a->kw (aB T5) T5 Post S O μ (Uh (c.finish (.tuple #[.slice (I ⟨lb,0,K⟩) ws.length ws.length,.bool lB])) cs) w):
 kw (aB T5) T5 Post S (λb=>b<w0.heap.size/\¬S b) (λ_=>K) (Uh (UZ T5 78 #[o5 (N:Int) cb n cap,o7 kb nk ck eb ne ce x,.slice (I ⟨wb,0,K⟩) ws.length gV] .normal) (c::cs)) w0:=by
 have f:=dU (aB T5) T5 Post S (λ_=>K);obtain⟨W,L,U,P,G⟩:=RU;have Z:=p.mm;rw[enter_at _ Tryz.func78 Y];have d:=TV (o5 (N:Int) cb n cap) (o7 kb nk ck eb ne ce x) (.slice (I ⟨wb,0,K⟩) ws.length gV) 73 (by decide);have v:tR S (λb=>b<w0.heap.size/\¬S b) w0:=λb j=>j.elim (p.sz b) (λh=>h.1);refine aQ f ?_;refine bp f [0,1,2,3] Y ?_;refine mC f v (by decide) Y Y (.cells #[.int .i64 (N:Int),.slice (I ⟨cb,0,K⟩) n cap] 139) trivial (λn=>(bS n)) (uF (v:=o5 (N:Int) cb n cap) Y (d.of Y)) λbb aa u Q r B=>?_;replace d:=d.put (d:=3) (by decide) (bS bb);have y:=v.new u Q;refine mC f y (by decide) Y Y (.cells #[.slice (I ⟨kb,0,K⟩) nk ck,.slice (I ⟨eb,0,K⟩) ne ce,x] 105) trivial (λn=>(bS n)) (uF (v:=o7 kb nk ck eb ne ce x) Y (d.of Y)) λfb ab E R o C=>?_;replace d:=d.put (d:=4) (by decide) (bS fb);have z:=y.new E R;refine m6 f d aR λd=>?_;refine m6 f d (.bool T8) λd=>?_;refine ak f ?_;refine aQ f ?_;refine bp f [0,1,2,3] Y ?_;refine cI f d λd=>?_;refine dF f d Y (.int .i64 (ws.length:Int)) (so Y (d.of Y) WH) λd=>?_;refine mC f z (by decide) Y Y (.cells (madeCells (Value.chan K).cells (ws.length*W.size)) 193) trivial (λn=>.slice (I ⟨n,0,K⟩) ws.length ws.length) (Cd Y (d.of Y) (d.of Y) Tryz.underlying192 L U (T9 _) (by rw[G];omega) (by omega)) λcT X F T l D=>?_;replace d:=d.put (d:=13) (by decide) (.slice (I ⟨cT,0,K⟩) ws.length ws.length);have J:=z.new F T;refine gY f d λd=>?_;refine ak f ?_;refine aQ f ?_;refine aQ f ?_;refine bp f [0,1,2] Y ?_;refine cI f d λd=>?_;refine dF f d Y (.int .i64 (ws.length:Int)) (so Y (d.of Y) WH) λd=>?_;refine dF f d Y (.int .i64 ((0:Nat):Int)) (cm Y Y) λd=>?_;refine ak f ?_;refine gC f ?_;refine uf f ?_;have q:∀b,b<w0.heap.size->S b\/(b<w0.heap.size/\¬S b):=λb j=>by
  rcases Classical.em (S b) with h|h
  ·exact .inl h
  ·exact .inr ⟨j,h⟩
 refine go_loop (bb:=bb) (fb:=fb) (cT:=cT) p (λch lb O w a g lB μ h=>M bb fb cT ch lb O w a g lB μ h) ws.length 0 (by omega) _ X _ (λ_=>0) _ ⟨(((((d.nil.cons (d.slot 2 _ Y)).cons (d.slot 3 _ Y)).cons (d.slot 4 _ Y)).cons (d.slot 8 _ Y)).cons (d.slot 15 _ Y)).cons (d.slot 16 _ Y),by simp only[put_defers],⟨⟨?_,?_,?_,?_,λb j=>?_⟩,λb j=>?_,J,λb j t=>?_,.inl (.inl (.inr Y)),.inl (.inr Y),u,by omega,?_,?_⟩,.inr Y,by omega,by omega,by omega,?_,⟨λA _ m=>absurd m (by omega),λc H=>absurd Y H,λA _ m=>absurd m (by omega),λA m=>absurd m (by omega)⟩⟩
 ·rw[l.os,o.os,r.os]
 ·rw[l.tape,o.tape,r.tape]
 ·rw[l.output,o.output,r.output]
 ·omega
 ·rw[l.at_ b ((q b j).imp (λh=>h) (λh=>.inl (.inl h))),o.at_ b ((q b j).imp (λh=>h) (λh=>.inl h)),r.at_ b (q b j)]
 ·exact(q b j).imp (λh=>h) (λh=>.inl (.inl (.inl h)))
 ·have:=p.sz b j;rcases t with((t|rfl)|rfl)|rfl
  ·exact t.2 j
  ·omega
  ·omega
  ·omega
 ·rw[l.at_ bb (.inr (.inl (.inr Y))),o.at_ bb (.inr (.inr Y))];exact B
 ·rw[l.at_ fb (.inr (.inr Y))];exact C
 ·rw[BP,<-P];exact D
def Qo (w:F)(N:Nat)(ws:List Bool)(V:Nat->List aE)(f:WU)(w':F):Prop:=
 ∃lb lB g,f= .returned (.tuple #[.slice (I ⟨lb,0,K⟩) ws.length ws.length,.bool lB])/\aP w w'/\w.heap.size<=lb/\w'.heap[lb]? =I (.cells (fw ws g V N ws.length).toArray 43 (0,0))/\(∀b,ws[b]? =I Z->Row w' (g b) N (V b)/\w.heap.size<=g b)/\(lB=Z↔∀b,ws[b]? =I Z->(V b).length=N)
def Fl.at(b:Fl S w s k e N cb n kb nk eb ne wb ws V)(d:Nat):Fl S (w.at d) s k e N cb n kb nk eb ne wb ws V:=
 ⟨b.sz,λh f=>⟨(b.sin h f).1.rel λ_ _=>rfl,(b.sin h f).2⟩,b.wl,λh j f=>b.wc h j f,b.nn,b.mm,b.pos⟩
def Fy(p:Fl S w s k e N cb n kb nk eb ne wb ws V):mj (aB T5) T5 Post 78 #[o5 (N:Int) cb n cap,o7 kb nk ck eb ne ce x,.slice (I ⟨wb,0,K⟩) ws.length gV] w (Qo w N ws V):=by
 intro c cs u G F t;refine JW S (λd=>d<w.heap.size/\¬S d) (λd b=>⟨p.sz d b,λh=>h.2 b⟩) (λd b=>b.1) λJ A=>?_;obtain⟨o,rfl⟩:=A;refine Ly (w0:=w.at o) (p.at o) λbb fb cT ch lb O w' a g lB μ h=>?_;refine MO (λc=>?_) λr f z=>?_
 ·cases y:μ c with
  |none=>rfl
  |some H=>
   obtain⟨l,m,E,_⟩:=h.TL.no c (by rw[y];simp);omega
 ·have b:=h.own.HJ;have v:∀d,d<w.heap.size->r.heap[d]? =w.heap[d]? :=λd q=>(f.at_ d (h.own.low d q)).trans (b.block d q);refine t (.returned (.tuple #[.slice (I ⟨lb,0,K⟩) ws.length ws.length,.bool lB])) r ⟨lb,lB,g,rfl,⟨f.os.trans b.os,f.tape.trans b.tape,f.output.trans b.output,Uz b.size f.size,v⟩,h.ll,(f.at_ lb (.inr h.ol)).trans h.hl,λl j=>?_,?_⟩ z ⟨f.tape.trans b.tape,f.os.trans b.os,f.output.trans b.output,Uz b.size f.size⟩ (n9 u _)
  ·obtain⟨B,C,_,D⟩:=h.rows l (UB.1 j).1 j;exact⟨B.same (f.at_ _ (.inr C)),D⟩
  ·rw[h.ok];exact⟨λm l j=>m l (UB.1 j).1 j,λm l _ j=>m l j⟩
end
end Cc
namespace Cc
open Go Go.Conc
open Go.RowKit (Below)
open Ec (aE aH cG dD sI si qv)
def nl (rs:List cG)(val:Int->Nat->aE)(p:Nat):Bool:=rs.all λb=>si (val b.col p) b
def AZ{rs:List cG}{val:Int->Nat->aE}{p:Nat}:nl rs val p=Z↔∀i (h:i<rs.length),si (val rs[i].col p) rs[i]=Z:=by
 unfold nl;rw[UA];constructor
 ·intro h i b;exact h _ (Uk b)
 ·intro h e d;obtain⟨i,b,rfl⟩:=List.mem_iff_getElem.1 d;exact h i b
def uw(Go:List dz->Bool)(pre:List dz)(x:dz)(b:List dz):feed Go pre (x::b)=if Go (pre++[x]) then feed Go (pre++[x]) b else(pre++[x],T8):=rfl
section
variable {Post:U->F->Prop}{J:List dz->(Nat->Prop)->F->Prop}{Go:List dz->Bool}{w0 w:F}{M0 M own:Nat->Prop}{l first N p qb:Nat}{pre:List dz}{a:V7}{cs:List Uu}{ah:List Int}{rs:List cG}{co:Option UK}{cb bD aJ:Nat}{ro:Option UK}{rb bg aM lb m mc:Nat}{val:Int->Nat->aE}{a0 b0 c0:U}{sk:Bool}{c:Uu}
def Ml(h:Fs J w0 w M0 M own #[a0,b0,c0,.slice co ah.length aJ,.slice ro rs.length aM,.bool sk] (.slice (I ⟨lb,0,K⟩) m mc) l first N N qb pre a)(f:Xe (aB T5) T5 Post own (c.finish (.bool Z)) cs w):
 Xe (aB T5) T5 Post own ((base 79).at a [.code (iy Wz),.inLoop (iy Wz),.inBlock 0,.code (qG Wz)]) (c::cs) w:=by
 have b:=ir (aB T5) T5 Post;have d:=h.kn;refine aQ b ?_;refine bp b [0] Y ?_;refine dF b d Y (.bool T8) (jy Y (d.of Y) (d.of Y) (by simp)) λd=>?_;refine ak b ?_;refine aQ b ?_;refine dw b T8 (d.of Y) ?_;refine ue b (k':=[.code (qG Wz)]) Y ?_;refine aQ b ?_;refine bp b [0] Y ?_;refine m6 b d (.bool Z) λd=>?_;refine ak b ?_;refine pM b ?_;have e:=j7 (P:=T5) Tryz.results79 (d.slot 10 _ Y);exact jg b Y (by simp only[put_defers];exact h.df) Tryz.func79 e.1 e.2 f
def pS{y:Bool}(b:Knows a 33 [(31,.bool y),(13,.int .i64 (p:Int)),(12,.int .i64 (N:Int)),(5,(bS qb)),(4,.func (.yield l) #[] #[]),(2,.int .i64 (first:Int)),(1,.slice (I ⟨lb,0,K⟩) m mc)])(e:a.defers=[])(i:p<N)(h:first+N<=1000000)
 (f:(y=Z->Xe (aB T5) T5 Post own (c.finish (.bool T8)) cs w)/\(y=T8->∀a',Knows a' 33 [(13,.int .i64 ((p+1:Nat):Int)),(12,.int .i64 (N:Int)),(5,(bS qb)),(4,.func (.yield l) #[] #[]),(2,.int .i64 (first:Int)),(1,.slice (I ⟨lb,0,K⟩) m mc)]->a'.defers=[]->Xe (aB T5) T5 Post own ((base 79).at a' [.code (iy Wz),.inLoop (iy Wz),.inBlock 0,.code (qG Wz)]) (c::cs) w)):
 Xe (aB T5) T5 Post own ((base 79).at a (mJ Wz)) (c::cs) w:=by
 have d:=ir (aB T5) T5 Post;cases y with
 |true=>
  refine dw d Z (b.of Y) ?_;refine aQ d ?_;refine bp d [0] Y ?_;refine m6 d b (.bool T8) λb=>?_;refine ak d ?_;refine pM d ?_;have g:=j7 (P:=T5) Tryz.results79 (b.slot 10 _ Y);exact jg d Y (by simp only[put_defers];exact e) Tryz.func79 g.1 g.2 (f.1 Y)
 |false=>
  refine dw d T8 (b.of Y) ?_;refine ij d ?_;refine iK d ?_;refine bp d [0,1] Y ?_;refine dF d b Y (.int .i64 ((p+1:Nat):Int)) (nP (j:=1) Y (b.of Y) Y (by omega)) λb=>?_;refine cI d b λb=>?_;refine ak d ?_;refine kW d ?_;exact f.2 Y _ ((((((b.nil.cons (b.slot 1 _ Y)).cons (b.slot 2 _ Y)).cons (b.slot 4 _ Y)).cons (b.slot 5 _ Y)).cons (b.slot 12 _ Y)).cons (b.slot 13 _ Y)) (by simp only[put_defers];exact e)
def Jy(h:Fs J w0 w M0 M own #[a0,b0,c0,.slice co ah.length aJ,.slice ro rs.length aM,.bool sk] (.slice (I ⟨lb,0,K⟩) m mc) l first N p qb pre a)(f:p<N)
 (e:∀a',Knows a' 33 [(11,.int .i64 (p:Int)),(13,.int .i64 (p:Int)),(12,.int .i64 (N:Int)),(5,(bS qb)),(4,.func (.yield l) #[] #[]),(2,.int .i64 (first:Int)),(1,.slice (I ⟨lb,0,K⟩) m mc)]->a'.defers=[]->Xe (aB T5) T5 Post own ((base 79).at a' (.code (.region 4 (xp Wz) T8)::mJ Wz)) cs w):
 Xe (aB T5) T5 Post own ((base 79).at a [.code (iy Wz),.inLoop (iy Wz),.inBlock 0,.code (qG Wz)]) cs w:=by
 have d:=ir (aB T5) T5 Post;have b:=h.kn;refine aQ d ?_;refine bp d [0] Y ?_;refine dF d b Y (.bool Z) (jy Y (b.of Y) (b.of Y) (by simp;omega)) λb=>?_;refine ak d ?_;refine aQ d ?_;refine dw d Z (b.of Y) ?_;refine ij d ?_;refine aQ d ?_;refine gC d ?_;refine aQ d ?_;refine bp d [0,1] Y ?_;refine cI d b λb=>?_;refine gY d b λb=>?_;refine ak d ?_;refine aQ d ?_;exact e _ ((((((b.nil.cons (b.slot 1 _ Y)).cons (b.slot 2 _ Y)).cons (b.slot 4 _ Y)).cons (b.slot 5 _ Y)).cons (b.slot 12 _ Y)).cons (b.slot 13 _ Y) |>.cons (b.slot 11 _ Y)) (by simp only[put_defers];exact h.df)
def Jz(C:Cons (aB T5) T5 Post l J Go)(hF:∀W,(∀b,b<w0.heap.size->¬M0 b->m8 W w0 b)->w0.heap.size<=W.heap.size->SQ W ah rs co cb bD ro rb bg lb m N val)(i:first+N<=1000000)(hc:ah.length<=1000)(O:rs.length<=Ur):∀(n p:Nat),p+n=N->∀pre own M w a,pre.length+n<=2000->
 Fs J w0 w M0 M own #[a0,b0,c0,.slice co ah.length aJ,.slice ro rs.length aM,.bool sk] (.slice (I ⟨lb,0,K⟩) m mc) l first N p qb pre a->
 (∀own' g w',J (feed Go pre (eC (nl rs val) (λp=>ah.map λk=>val k p) first p n)).1 g w'->Kept w0 w' M0 g own'->(∀b,own' b->b<w'.heap.size)->Xe (aB T5) T5 Post own' (c.finish (.bool (feed Go pre (eC (nl rs val) (λp=>ah.map λk=>val k p) first p n)).2)) cs w')->
 Xe (aB T5) T5 Post own ((base 79).at a [.code (iy Wz),.inLoop (iy Wz),.inBlock 0,.code (qG Wz)]) (c::cs) w:=by
 intro n
 induction n with
 |zero=>
  intro p L pre own M w a F d e;have:p=N:=by omega
  subst this;exact Ml d (e own M w d.j d.kept d.bd)
 |succ n z=>
  intro p L pre own M w a F d e;refine Jy d (by omega) λR A D=>?_;refine DV (val:=val) C hF (by omega) (by omega) i hc O A D d.j d.kept d.bd d.oq d.nq d.lq d.hq (λown' w' B G f o q r j v x=>?_) (λown' g w' B Q f o q r j v H x=>?_)
  ·have E:nl rs val p=T8:=by
    cases h:nl rs val p with
    |false=>rfl
    |true=>exact absurd (AZ.1 h) G
   have h:eC (nl rs val) (λp=>ah.map λk=>val k p) first p (n+1)=eC (nl rs val) (λp=>ah.map λk=>val k p) first (p+1) n:=by
    simp[eC,E]
   rw[h] at e;refine pS f o (by omega) i ⟨λd=>(by cases d),λ_ t s u=>?_⟩;exact z (p+1) (by omega) pre own' M w' t (by omega) ⟨s,u,q,r,j,v,d.nq,d.lq,x⟩ e
  ·have P:=AZ.2 Q;have h:eC (nl rs val) (λp=>ah.map λk=>val k p) first p (n+1)=(first+p,ah.map λk=>val k p)::eC (nl rs val) (λp=>ah.map λk=>val k p) first (p+1) n:=by
    simp[eC,P]
   rw[h] at e;rw[uw] at e;cases y:Go (pre++[(first+p,ah.map λk=>val k p)]) with
   |true=>
    rw[y] at f e;simp only[if_true] at e;refine pS f o (by omega) i ⟨λd=>(by cases d),λ_ t s u=>?_⟩;exact z (p+1) (by omega) _ own' g w' t (by simp;omega) ⟨s,u,q,r,j,v,H,d.lq,x⟩ e
   |false=>
    rw[y] at f e;simp only[UC,if_false] at e;exact pS f o (by omega) i ⟨λ_=>e own' g w' q r j,λd=>(by cases d)⟩
def TN(v0 v1 v2 d e:U)(m:Nat)(i:5<=m):Knows ⟨#[v0,v1,v2,d,e]++U4 (m-5) Vl,[]⟩ m [(0,v0),(1,v1),(2,v2),(3,d),(4,e)]:=by
 have b:∀f v,(#[v0,v1,v2,d,e]:Array U)[f]? =I v->aV ⟨#[v0,v1,v2,d,e]++U4 (m-5) Vl,[]⟩ f=v:=λf v g=>by
  unfold aV;rw[UE,Array.getElem?_append_left (Uc.1 g).1,g];rfl
 refine Knows.cons (Knows.cons (Knows.cons (Knows.cons (Knows.cons (l:=[]) ⟨?_,λs v h=>by simp at h⟩ (b 4 e Y)) (b 3 d Y)) (b 2 v2 Y)) (b 1 v1 Y)) (b 0 v0 Y);simp;omega
def Qq (J:List dz->(Nat->Prop)->F->Prop)(M0:Nat->Prop)(w0:F)(e:List dz×Bool)(f:WU)(w':F):Prop:=
 f= .returned (.bool e.2)/\∃d,J e.1 d w'/\(∀b,b<w0.heap.size->¬M0 b->w'.heap[b]? =w0.heap[b]?)/\w0.heap.size<=w'.heap.size/\∀b,d b->M0 b\/w0.heap.size<=b
def F5(C:Cons (aB T5) T5 Post l J Go)(q:J pre M0 w0)(hF:∀W,(∀b,b<w0.heap.size->¬M0 b->m8 W w0 b)->w0.heap.size<=W.heap.size->SQ W ah rs co cb bD ro rb bg lb m N val)(t:first+N<=1000000)(hc:ah.length<=1000)(D:rs.length<=Ur)(z:pre.length+N<=2000):
 mj (aB T5) T5 Post 79 #[qv a0 b0 c0 (.slice co ah.length aJ) (.slice ro rs.length aM) sk,.slice (I ⟨lb,0,K⟩) m mc,.int .i64 (first:Int),.int .i64 (N:Int),.func (.yield l) #[] #[]] w0 (Qq J M0 w0 (feed Go pre (eC (nl rs val) (λp=>ah.map λk=>val k p) first 0 N))):=by
 intro c cs F P A s;have f:=ir (aB T5) T5 Post;refine Xe.go (own:=λb=>b<w0.heap.size) ?_ (λb i=>i) A;rw[enter_at _ Tryz.func79 Y];have e:=TN (qv a0 b0 c0 (.slice co ah.length aJ) (.slice ro rs.length aM) sk) (.slice (I ⟨lb,0,K⟩) m mc) (.int .i64 (first:Int)) (.int .i64 (N:Int)) (.func (.yield l) #[] #[]) 33 (by decide);have x:tR JU (λb=>b<w0.heap.size) w0:=λb d=>d.elim Yr (λi=>i);refine aQ f ?_;refine bp f [0,1] Y ?_;refine mC f x (by decide) Y Y (.cells #[a0,b0,c0,.slice co ah.length aJ,.slice ro rs.length aM,.bool sk] 115) trivial (λG=>(bS G)) (uF (v:=qv a0 b0 c0 (.slice co ah.length aJ) (.slice ro rs.length aM) sk) Y (e.of Y)) λqb H v Q E u=>?_;replace e:=e.put (d:=5) (by decide) (bS qb);refine m6 f e (.bool T8) λe=>?_;refine ak f ?_;refine aQ f ?_;refine aQ f ?_;refine bp f [0,1] Y ?_;refine cI f e λe=>?_;refine dF f e Y (.int .i64 ((0:Nat):Int)) (cm Y Y) λe=>?_;refine ak f ?_;refine gC f ?_;refine uf f ?_;have j:=Ge E;have n:=C.bound _ _ _ q;refine Jz (w0:=w0) (M0:=M0) (val:=val) C hF t hc D N 0 (by omega) pre _ M0 H _ z ⟨((((((e.nil.cons (e.slot 1 _ Y)).cons (e.slot 2 _ Y)).cons (e.slot 4 _ Y)).cons (e.slot 5 _ Y)).cons (e.slot 12 _ Y)).cons (e.slot 13 _ Y)),by simp only[put_defers],C.j9 _ _ _ _ q (λb d=>j.at_ b (n b d)) j.size,⟨λb d o=>⟨.inl d,j.at_ b d⟩,λb d=>.inl d,λb d=>.inl (n b d),j.size,j.tape,j.os,j.output⟩,λb d=>d.elim (λi=>by omega) (λi=>by omega),.inr Y,λi=>by have:=n qb i;omega,v,u⟩ λR r S y g O=>?_;intro _ L h B;refine s _ L ⟨rfl,r,C.j9 _ _ _ _ y (λb d=>h.at_ b (g.rq b d)) h.size,λb d o=>(h.at_ b (g.keep b d o).1).trans (g.keep b d o).2,Uz g.size h.size,g.ext⟩ B ⟨h.tape.trans g.tape,h.os.trans g.os,h.output.trans g.output,Uz g.size h.size⟩ (n9 F _)
end
end Cc
namespace Cc
open Go Go.Conc
open Go.RowKit (Below)
open Ec (aE aH cG dD sI zV si qv bK Bd kr lC dJ aX xR oW nK)
structure FM(W:F)(l:List (bK×Int))(bs:List Bd)(ah:List Int)(rs:List cG)(kb eb:Nat)(dO:Option UK)(db:Nat)(cT nj:Nat->Nat)(co:Option UK)(cb bD:Nat)(ro:Option UK)(rb bg:Nat):Prop where
 k:∀j x,l[j]? =I x->W.cell? ⟨kb,0+j*2+1,K⟩=I (.int .i64 x.1.kind)
 e:∀j x,l[j]? =I x->W.cell? ⟨eb,0+j*1,K⟩=I (.int .i64 x.2)
 d:∀i b,bs[i]? =I b->W.rangeAt db (0+i*2) [.int .i64 (b.rows:Int),.slice (I ⟨cT i,0,K⟩) l.length (nj i)]
 c:∀i b,bs[i]? =I b->∀j x,b.chunks[j]? =I x->∀t u,(dJ x)[t]? =I u->W.cell? ⟨cT i,j*8+t,K⟩=I u
 lk:kb<W.heap.size
 le:eb<W.heap.size
 da:0<bs.length->dO=I ⟨db,0,K⟩
 ld:0<bs.length->db<W.heap.size
 lc:∀i,i<bs.length->cT i<W.heap.size
 ca:0<ah.length->co=I ⟨cb,bD,K⟩
 cl:0<ah.length->cb<W.heap.size
 cc:∀j,j<ah.length->W.cell? ⟨cb,bD+j,K⟩=I (.int .i64 (ah.getD j 0))
 nr:dD W ro rb bg rs
structure FQ(l:List (bK×Int))(bs:List Bd)(ah:List Int)(rs:List cG)(V:Nat->Nat->List aE):Prop where
 len:∀b∈bs,b.chunks.length=l.length
 m:l.length<=1000
 pos:0<l.length
 rows:∀b∈bs,b.rows<=100
 tot:(bs.map (·.rows)).sum<=2000
 nb:bs.length<=100000
 cn:ah.length<=1000
 rn:rs.length<=Ur
 ck:∀k∈ah,0<=k/\k<(l.length:Int)
 rk:∀r∈rs,0<=r.col/\r.col<(l.length:Int)
 dec:∀(i:Nat) b,bs[i]? =I b->∀(j:Nat) x y,b.chunks[j]? =I x->l[j]? =I y->x.text.size<=Ur/\pq x.text y.1.kind y.2 (b.rows:Int) (V i j)
def vK:kr:=⟨⟨#[]⟩,Ec.cF⟩
def rowsOf(bs:List Bd)(i:Nat):Nat:=(bs.map (·.rows)).getD i 0
def jw (bs:List Bd)(i:Nat):Nat:=((bs.take i).map (·.rows)).sum
def td (bs:List Bd)(rs:List cG)(i:Nat):Bool:=rs.any λa=>Ec.wN (((bs.getD i ⟨0,[]⟩).chunks.getD a.col.toNat vK).eZ) a
def Az (V:Nat->Nat->List aE)(i:Nat)(k:Int)(p:Nat):aE:=(V i k.toNat).getD p ⟨T8,0,⟨#[]⟩⟩
def Lf (bs:List Bd)(ws:List Bool)(V:Nat->Nat->List aE)(i:Nat):Bool:=(UL ws.length).all λa=> !ws.getD a T8||(V i a).length==rowsOf bs i
def ix (bs:List Bd)(ah:List Int)(rs:List cG)(V:Nat->Nat->List aE)(i:Nat):List dz:=eC (nl rs (Az V i)) (λb=>ah.map λa=>Az V i a b) (jw bs i) 0 (rowsOf bs i)
def iY (sk:Bool)(bs:List Bd)(ah:List Int)(rs:List cG)(ws:List Bool)(V:Nat->Nat->List aE)(Go:List dz->Bool):Nat->Nat->List dz->Nat->List dz×Nat×Nat
 |i,0,pre,a=>(pre,a,0)
 |i,b+1,pre,a=>if sk&&td bs rs i then iY sk bs ah rs ws V Go (i+1) b pre a else if Lf bs ws V i then(if (feed Go pre (ix bs ah rs V i)).2 then iY sk bs ah rs ws V Go (i+1) b (feed Go pre (ix bs ah rs V i)).1 (a+1) else((feed Go pre (ix bs ah rs V i)).1,a+1,0)) else(pre,a+1,3)
theorem pi(jm:Nat->Bool)(a:Nat->List aE)(first:Nat):∀(n p:Nat),(eC jm a first p n).length<=n
 |0,p=>T9 _
 |n+1,p=>by
  have:=pi jm a first n (p+1)
  simp only[eC]
  split
  ·simp;omega
  ·omega
theorem vB(Go:List dz->Bool):∀(a pre:List dz),(feed Go pre a).1.length<=pre.length+a.length
 | [],pre=>T9 _
 |x::a,pre=>by
  rw[uw]
  split
  ·have:=vB Go a (pre++[x]);simp at this ⊢;omega
  ·simp
def sR{bs:List Bd}{i:Nat}{b:Bd}(h:bs[i]? =I b):jw bs (i+1)=jw bs i+b.rows:=by
 obtain⟨a,rfl⟩:=UB.1 h;unfold jw;rw[Up a,U1,List.sum_append];simp only[Xy,List.map_nil,List.sum_cons,List.sum_nil,Nat.add_zero]
def yj(bs:List Bd):∀i,jw bs i<=(bs.map (·.rows)).sum:=by
 intro i;have a:(bs.map (·.rows)).sum=((bs.take i).map (·.rows)).sum+((bs.drop i).map (·.rows)).sum:=by
  rw[<-List.sum_append,<-U1,Wx]
 unfold jw;omega
def uP{bs:List Bd}{i:Nat}{b:Bd}(h:bs[i]? =I b):rowsOf bs i=b.rows:=by
 unfold rowsOf;simp[Uj,h]
def R6:(Tryz.f76.name == "runtime.NumGoroutine")=T8:=by kernel_rfl
def SM:(Tryz.f77.name == "runtime.NumGoroutine")=T8:=by kernel_rfl
def RS:(U3.name == "runtime.NumGoroutine")=T8:=by kernel_rfl
def RY:(Wz.name == "runtime.NumGoroutine")=T8:=by kernel_rfl
section
variable {W:F}{l:List (bK×Int)}{bs:List Bd}{ah:List Int}{rs:List cG}{kb eb db:Nat}{dO:Option UK}{cT nj:Nat->Nat}{co:Option UK}{cb bD:Nat}{ro:Option UK}{rb bg:Nat}{V:Nat->Nat->List aE}
def FM.Tb(h:FM W l bs ah rs kb eb dO db cT nj co cb bD ro rb bg)(q:FQ l bs ah rs V){i:Nat}{b:Bd}(d:bs[i]? =I b):∀r∈rs,zV W (cT i) l.length r.col ((b.chunks.getD r.col.toNat vK).eZ):=by
 intro r m;obtain⟨g,s⟩:=q.rk r m;obtain⟨c,e⟩:=WC g;have t:=q.len b (VE d);have k:c<b.chunks.length:=by omega
 have f:b.chunks[c]? =I b.chunks[c]:=Uo k;have j:b.chunks.getD r.col.toNat vK=b.chunks[c]:=by rw[e,Uj];simp[f]
 rw[j];have a:=λo p n=>h.c i b d c _ f o p n;refine⟨c,e,by omega,h.lc i (UB.1 d).1,a 1 _ Y,a 2 _ Y,a 3 _ Y,a 4 _ Y,a 5 _ Y,a 6 _ Y,a 7 _ Y⟩
def D9{n:Nat}{b:List Int}{j:Nat}:(aX n b)[j]? =I Z↔j<n/\(j:Int)∈b:=by
 unfold aX;rcases Vz j n with a|a
 ·simp[a,List.any_eq_true]
 ·simp[a];omega
def FM.bin(h:FM W l bs ah rs kb eb dO db cT nj co cb bD ro rb bg)(q:FQ l bs ah rs V){i:Nat}{b:Bd}(a:bs[i]? =I b){g:Nat}(k:W.heap[g]? =I (.cells (xR (aX l.length (ah++rs.map cG.col))).toArray 4 (0,0))):
 Fl (λx=>x=cT i\/x=kb\/x=eb) W (λj=>(b.chunks.getD j vK).text) (λj=>(l.getD j (⟨⟨#[]⟩,0⟩,0)).1.kind) (λj=>(l.getD j (⟨⟨#[]⟩,0⟩,0)).2) b.rows (cT i) l.length kb l.length eb l.length g (aX l.length (ah++rs.map cG.col)) (V i):=by
 have r:=q.len b (VE a);have p:g<W.heap.size:=(Uc.1 k).1;refine⟨λx d=>?_,λj e=>?_,p,λj s e=>?_,?_,?_,by omega⟩
 ·rcases d with rfl|rfl|rfl
  ·exact h.lc i (UB.1 a).1
  ·exact h.lk
  ·exact h.le
 ·have c:=(D9.1 e).1;have d:b.chunks[j]? =I (b.chunks.getD j vK):=by
   have o:j<b.chunks.length:=by omega
   rw[Uj,Uo o];rfl
  have f:l[j]? =I (l.getD j (⟨⟨#[]⟩,0⟩,0)):=by rw[Uj,Uo c];rfl
  obtain⟨m,n⟩:=q.dec i b a j _ _ d f;refine⟨⟨.inl Y,.inr (.inl Y),.inr (.inr Y),c,c,c,?_,h.k j _ f,h.e j _ f⟩,m,n⟩;have:=h.c i b a j _ d 0 _ Y;rw[UU];exact this
 ·unfold Ut;simp only[k,UU,Nat.mul_one];simp[xR,e]
 ·have:=q.rows b (VE a);omega
 ·rw[Ec.jn];have:=q.m;omega
end
def iC (fn:WD):WX:=match fn.body with
 |some (.seq _ (.seq _ (.seq _ (.seq (.seq _ (.block _ (.loop c))) _))))=>c
 |_=>.skip
def qU (fn:WD):WX:=match fn.body with
 |some (.seq _ (.seq _ (.seq _ (.seq _ c))))=>c
 |_=>.skip
def Ez (fn:WD):WX:=match iC fn with
 | .seq _ (.seq _ (.seq (.block _ (.seq _ (.seq (.seq _ (.cond _ c _)) _))) _))=>c
 |_=>.skip
def tD (fn:WD):List WO:=match iC fn with
 | .seq _ (.seq _ (.seq (.block _ (.seq _ (.seq _ c))) d))=>[.code c,.inBlock 1,.code d,.inLoop (iC fn),.inBlock 0,.code (qU fn)]
 |_=>[]
structure pH(J:List dz->(Nat->Prop)->F->Prop)(w0 w:F)(M0 M own:Nat->Prop)(q:Array U)(l first n i nb qb wb m:Nat)(bsv:U)(ws:List Bool)(pre:List dz)(a:V7):Prop where
 kn:Knows a 59 [(18,.int .i64 (i:Int)),(17,.int .i64 (nb:Int)),(16,bsv),(7,.int .i64 (first:Int)),(6,.slice (I ⟨wb,0,K⟩) m m),(4,.int .i64 (n:Int)),(2,(bS qb)),(1,.func (.yield l) #[] #[])]
 df:a.defers=[]
 j:J pre M w
 kept:Kept w0 w M0 M own
 bd:∀b,own b->b<w.heap.size
 oq:own qb
 nq:¬M qb
 lq:w0.heap.size<=qb
 hq:w.heap[qb]? =I (.cells q 115 (0,0))
 ow:own wb
 nw:¬M wb
 lw:w0.heap.size<=wb
 hw:w.heap[wb]? =I (.cells (xR ws).toArray 4 (0,0))
section
variable {Post:U->F->Prop}{J:List dz->(Nat->Prop)->F->Prop}{Go:List dz->Bool}{w0 w:F}{M0 M own:Nat->Prop}{lp first n i qb wb:Nat}{pre:List dz}{a:V7}{cs:List Uu}{l:List (bK×Int)}{bs:List Bd}{ah:List Int}{rs:List cG}{kb eb db:Nat}{dO:Option UK}{cT nj:Nat->Nat}{co:Option UK}{cb bD aJ:Nat}{ro:Option UK}{rb bg aM:Nat}{V:Nat->Nat->List aE}{a0 b0:U}{di:Nat}{sk:Bool}{ws:List Bool}{b:Bd}
def oF{W:F}{q:Array U}{t:Ui}{g:Nat}(h:W.heap[g]? =I (.cells q t (0,0))):W.rangeAt g 0 q.toList:=λd v c=>by
 unfold Ut;simp only[h];rw[UU];simpa using c
def kJ{W:F}{q:Array U}{t:Ui}{g o:Nat}{v:U}(h:W.heap[g]? =I (.cells q t (0,0)))(c:q[o]? =I v):W.cell? ⟨g,o,K⟩=I v:=by
 unfold Ut;simp only[h];exact c
def Ki(C:Cons (aB T5) T5 Post lp J Go)(q:FQ l bs ah rs V)(hF:∀W,(∀b,b<w0.heap.size->¬M0 b->m8 W w0 b)->w0.heap.size<=W.heap.size->FM W l bs ah rs kb eb dO db cT nj co cb bD ro rb bg)(e:bs[i]? =I b)(a3:0<bs.length->¬M0 db)
 (h:pH J w0 w M0 M own #[a0,b0,.slice dO bs.length di,.slice co ah.length aJ,.slice ro rs.length aM,.bool sk] lp first n i bs.length qb wb l.length (.slice dO bs.length di) ws pre a)
 (U:∀own' w' a' vb,pH J w0 w' M0 M own' #[a0,b0,.slice dO bs.length di,.slice co ah.length aJ,.slice ro rs.length aM,.bool sk] lp first n i bs.length qb wb l.length (.slice dO bs.length di) ws pre a'->aV a' 9=(bS vb)->own' vb->¬M vb->w0.heap.size<=vb->vb≠qb->vb≠wb->w'.heap[vb]? =I (.cells #[.int .i64 (b.rows:Int),.slice (I ⟨cT i,0,K⟩) l.length (nj i)] 139 (0,0))->
   Xe (aB T5) T5 Post own' ((base 54).at a' ((if !(sk&&td bs rs i) then[.code (Ez Xh)] else[.code .skip])++tD Xh)) cs w'):
 Xe (aB T5) T5 Post own ((base 54).at a [.code (iC Xh),.inLoop (iC Xh),.inBlock 0,.code (qU Xh)]) cs w:=by
 have d:=ir (aB T5) T5 Post;obtain⟨c,E,az,o,r,g,ae,X,a6,u,al,ab,bd⟩:=h;have F:i<bs.length:=(UB.1 e).1;have R:tR JU own w:=λb e=>e.elim Yr (r b);have m:=o.same (λb bv _ h _=>h) (T9 _);have N:=hF w m.1 m.2;have a5:own db:=by
  have p:=hF w0 (λ_ _ _ _ h _=>h) (T9 _);exact(o.keep db (p.ld (by omega)) (a3 (by omega))).1
 obtain rfl:=N.da (by omega);have br:=q.nb;refine aQ d ?_;refine bp d [0] Y ?_;refine dF d c Y (.bool Z) (jy Y (c.of Y) (c.of Y) (by simp;omega)) λc=>?_;refine ak d ?_;refine aQ d ?_;refine dw d Z (c.of Y) ?_;refine ij d ?_;refine aQ d ?_;refine gC d ?_;refine aQ d ?_;refine bp d [0,1,2,3] Y ?_;refine dF d c Y (.pointer (I ⟨db,0+i*2,K⟩)) (fI Y (c.of Y) (c.of Y) Tryz.underlying103 Tryz.sizeOf139 F) λc=>?_;refine ri d c Y (.agg #[.int .i64 (b.rows:Int),.slice (I ⟨cT i,0,K⟩) l.length (nj i)]) (fo (cs:=[.int .i64 (b.rows:Int),.slice (I ⟨cT i,0,K⟩) l.length (nj i)]) Y (c.of Y) V8 Y nX (.inr a5) (N.d i b e)) λc=>?_;refine mC d R (by decide) Y Y (.cells #[.int .i64 0,aR] 139) trivial (λn=>(bS n)) (tc Y Tryz.zeroValue139) λvb bA a4 a9 hrel ar=>?_;replace c:=c.put (d:=9) (by decide) (bS vb);have S:=R.new a4 a9;refine sb d S (by decide) Y Y (.inr Y) (.cells #[.int .i64 (b.rows:Int),.slice (I ⟨cT i,0,K⟩) l.length (nj i)] 139) trivial (k7 (n:=vb) (off:=0) (v:=.agg #[.int .i64 (b.rows:Int),.slice (I ⟨cT i,0,K⟩) l.length (nj i)]) Y (c.of Y) (c.of Y) nX (λbl Q=>by simp[WI] at Q;rcases Q with rfl|rfl<;>rfl) (Or.inr (Or.inr rfl)) ar (T9 2)) λB f=>?_;replace c:=c.none Vl;have bt:=r qb g;have bu:=r wb u;have x:RelB own w B:=⟨λb G=>(f.at_ b (.inr (.inl G)) (by have:=r b G;omega)).trans (hrel.at_ b (.inr G)),Uz hrel.size f.size,f.tape.trans hrel.tape,f.os.trans hrel.os,f.output.trans hrel.output⟩;have s:=o.rel (own':=λb=>own b\/b=vb) x (λb h=>.inl h);have T:=C.j9 _ _ _ B az (λb e=>x.at_ b (o.rq b e)) x.size;have P:∀b,own b\/b=vb->b<B.heap.size:=λb e=>(S.set f) b (.inr e);have A:=(x.at_ qb g).trans a6;have ao:=(x.at_ wb u).trans bd;have an:∀b,M b->b≠vb:=λb e D=>by have:=r b (o.rq b e);omega
 have aa:w0.heap.size<=vb:=by have:=o.size;omega
 refine ak d ?_;refine aQ d ?_;refine aQ d ?_;refine bp d [0,1,2,3,4,5,6,7,8] Y ?_;refine dF d c Y (.pointer (I ⟨qb,5,K⟩)) (dm (off':=5) Y (c.of Y) WG Y Tryz.sizeOf4 Y) λc=>?_;refine ri d c Y (.bool sk) (b7 Y (c.of Y) Tryz.isAgg4 (.inr (.inl g)) (kJ A Y)) λc=>?_;refine dF d c Y (.bool (!sk)) (yL Y (c.of Y)) λc=>?_;refine cI d c λc=>?_;cases sk with
 |false=>
  refine sO d c λc=>?_;refine sO d c λc=>?_;refine sO d c λc=>?_;refine sO d c λc=>?_;refine dF d c Y (.bool Z) (yN Y (c.of Y) Y) λc=>?_;refine ak d ?_;refine dw d Z (c.of Y) ?_;exact U _ B _ vb ⟨(((((((c.nil.cons (c.slot 1 _ Y)).cons (c.slot 2 _ Y)).cons (c.slot 4 _ Y)).cons (c.slot 6 _ Y)).cons (c.slot 7 _ Y)).cons (c.slot 16 _ Y)).cons (c.slot 17 _ Y)).cons (c.slot 18 _ Y),by simp only[put_defers];exact E,T,s,P,.inl g,ae,X,A,.inl u,al,ab,ao⟩ (c.slot 9 _ Y) (.inr Y) (λh=>an vb h Y) aa (by omega) (by omega) f.set
 |true=>
  refine oy d (by decide) Y (c.want (d:=25) (want:=T8) (b:=T8) Y Y Y (by decide)) _ (fo (cs:=[a0,b0,.slice (I ⟨db,0,K⟩) bs.length di,.slice co ah.length aJ,.slice ro rs.length aM,.bool Z]) Y (c.of Y) WG Y uJ (.inr (.inl g)) (oF A)) ?_;replace c:=c.put (d:=26) (by decide) (qv a0 b0 (.slice (I ⟨db,0,K⟩) bs.length di) (.slice co ah.length aJ) (.slice ro rs.length aM) Z);refine oy d (by decide) Y (c.want (d:=25) (want:=T8) (b:=T8) Y Y Y (by decide)) _ (fo (cs:=[.int .i64 (b.rows:Int),.slice (I ⟨cT i,0,K⟩) l.length (nj i)]) Y (c.of Y) V8 Y nX (.inr (.inr Y)) (oF f.set)) ?_;replace c:=c.put (d:=27) (by decide) (.agg #[.int .i64 (b.rows:Int),.slice (I ⟨cT i,0,K⟩) l.length (nj i)]);refine C6 (R:=λW D L=>∃k,D= .returned (.bool k)/\k=td bs rs i) cW Y Y (c.want (d:=25) (want:=T8) (b:=T8) Y Y Y (by decide)) Y (xK (c.of Y) (c.of Y)) Tryz.func77 SM Y (jY Y Y Y).symm (dK Y (by simp only[put_defers];exact E) (by kernel_rfl)) (λW m H=>?_) λv y W L m H bm bb bo j=>?_
  ·have O:=hF W (s.same m H).1 (s.same m H).2;refine(nK rs (λbi=>(b.chunks.getD bi.toNat vK).eZ) (b.rows:Int) (cT i) l.length (nj i) a0 b0 (.slice (I ⟨db,0,K⟩) bs.length di) (.slice co ah.length aJ) ro rb bg aM Z W q.rn O.nr (O.Tb q e)).mono λD L h=>?_;obtain⟨k,rfl,p,ap⟩:=h;refine⟨ap,_,rfl,k,rfl,?_⟩;have aw:bs.getD i ⟨0,[]⟩=b:=by rw[Uj,e];rfl
   unfold td;rw[aw];cases z:k with
   |true=>
    symm
    rw[z] at p;apply V0;intro ad;simp only[Bool.not_eq_true,List.any_eq_false] at ad;have:∀i (h:i<rs.length),Ec.wN ((b.chunks.getD rs[i].col.toNat vK).eZ) rs[i]=T8:=λi F=>by
     have:=ad rs[i] (Uk F);simpa using this
    have:=p.2 this;cases this
   |false=>
    symm
    rw[List.any_eq_false];intro bx a8;obtain⟨bj,ba,rfl⟩:=List.mem_iff_getElem.1 a8;have:=(p.1 z) bj ba;simpa using this
  ·obtain⟨k,z,rfl⟩:=bb;cases z;have a2:=s.rel (own':=grown (λb=>own b\/b=vb) W.heap.size y.heap.size) j (λb h=>.inl h);have a1:=C.j9 _ _ _ y T (λb e=>j.at_ b (s.rq b e)) j.size;have a7:=(j.at_ qb (.inl g)).trans A;have be:=(j.at_ wb (.inl u)).trans ao;have bc:=(j.at_ vb (.inr Y)).trans f.set;have av:∀b,grown (λb=>own b\/b=vb) W.heap.size y.heap.size b->b<y.heap.size:=λb e=>e.elim (λh=>Ue (P b h) j.size) (λh=>h.2);replace c:=c.put (d:=28) (by decide) (.bool (td bs rs i));refine mD d (by decide) Y (c.want (d:=25) (want:=T8) (b:=T8) Y Y Y (by decide)) _ (yL Y (c.of Y)) ?_;replace c:=c.put (d:=29) (by decide) (.bool (!td bs rs i));refine dF d c Y (.bool (!td bs rs i)) (yM Y (c.of Y) (c.of Y)) λc=>?_;refine ak d ?_;refine dw d (!td bs rs i) (c.of Y) ?_;have t:=U _ y _ vb ⟨(((((((c.nil.cons (c.slot 1 _ Y)).cons (c.slot 2 _ Y)).cons (c.slot 4 _ Y)).cons (c.slot 6 _ Y)).cons (c.slot 7 _ Y)).cons (c.slot 16 _ Y)).cons (c.slot 17 _ Y)).cons (c.slot 18 _ Y),by simp only[put_defers];exact E,a1,a2,av,.inl (.inl g),ae,X,a7,.inl (.inl u),al,ab,be⟩ (c.slot 9 _ Y) (.inl (.inr Y)) (λh=>an vb h Y) aa (by omega) (by omega) bc;rw[Bool.true_and] at t;cases am:td bs rs i with
   |true=>rw[am] at t;exact t
   |false=>rw[am] at t;exact t
end
end Cc
namespace Cc
open Go Go.Conc
open Go.RowKit (Below)
open Ec (aE aH cG dD sI zV si qv bK Bd kr lC dJ aX xR)
def gG (kb g ck eb f ce:Nat)(dO:Option UK)(d di:Nat)(co:Option UK)(e aJ:Nat)(ro:Option UK)(h aM:Nat)(sk:Bool):Array U:= #[.slice (I ⟨kb,0,K⟩) g ck,.slice (I ⟨eb,0,K⟩) f ce,.slice dO d di,.slice co e aJ,.slice ro h aM,.bool sk]
section
variable {Post:U->F->Prop}{J:List dz->(Nat->Prop)->F->Prop}{Go:List dz->Bool}{w0 w:F}{M0 M own:Nat->Prop}{lp first n i qb wb vb:Nat}{pre:List dz}{a:V7}{cs:List Uu}{l:List (bK×Int)}{bs:List Bd}{ah:List Int}{rs:List cG}{kb ck eb ce db:Nat}{dO:Option UK}{cT nj:Nat->Nat}{co:Option UK}{cb bD aJ:Nat}{ro:Option UK}{rb bg aM:Nat}{V:Nat->Nat->List aE}{di:Nat}{sk:Bool}{b:Bd}{c:Uu}
def Iq{ws:List Bool}(g:bs[i]? =I b):Lf bs ws V i=Z↔∀j,ws[j]? =I Z->(V i j).length=b.rows:=by
 unfold Lf;rw[uP g,UA];constructor
 ·intro f j d;have e:j<ws.length:=(UB.1 d).1;have:=f j (Vu.2 e);rw[Uj,d] at this;simpa using this
 ·intro f j d;have e:=Vu.1 d;rw[Uj,Uo e];cases h:ws[j] with
  |false=>simp
  |true=>
   have:=f j (by rw[Uo e,h]);simp[this]
def Pe{W w5:F}{lb N:Nat}{g:Nat->Nat}(q:FQ l bs ah rs V)(e:FM W l bs ah rs kb eb dO db cT nj co cb bD ro rb bg)(t:W.heap[lb]? =I (.cells (fw (aX l.length (ah++rs.map cG.col)) g (V i) N (aX l.length (ah++rs.map cG.col)).length).toArray 43 (0,0)))(A:∀j,(aX l.length (ah++rs.map cG.col))[j]? =I Z->Row W (g j) N (V i j))(z:∀j,(aX l.length (ah++rs.map cG.col))[j]? =I Z->(V i j).length=N):
 SQ W ah rs co cb bD ro rb bg lb l.length N (Az V i):=by
 refine⟨e.ca,e.cl,e.cc,e.nr,λp K h f=>?_⟩;have x:(0<=h/\h<(l.length:Int))/\h∈ah++rs.map cG.col:=by
  rcases f with f|⟨u,d,rfl⟩
  ·exact⟨q.ck h f,List.mem_append_left _ f⟩
  ·exact⟨q.rk u d,List.mem_append_right _ (U8.2 ⟨u,d,rfl⟩)⟩
 obtain⟨⟨v,E⟩,y⟩:=x;obtain⟨j,rfl⟩:=WC v;have k:j<l.length:=by omega
 have o:=D9.2 ⟨k,y⟩;have H:=z j o;obtain⟨⟨D,r,G,B⟩,_⟩:=A j o;have m:p<(V i j).length:=by omega
 have d:=uO r B m;have C:Az V i (j:Int) p=(V i j)[p]:=by
  unfold Az;rw[Int.toNat_natCast,Uj,Uo m];rfl
 rw[C];refine⟨j,g j,(V i j).length,N,rfl,k,(Uc.1 t).1,?_,m,(Uc.1 r).1,?_,?_,?_⟩
 ·unfold Ut;simp only[t];have s:j<(aX l.length (ah++rs.map cG.col)).length:=by rw[Ec.jn];exact k
  have:=mL (ws:=aX l.length (ah++rs.map cG.col)) (g:=g) (V:=V i) (N:=N) (i:=(aX l.length (ah++rs.map cG.col)).length) s;rw[if_pos ⟨s,o⟩] at this;simpa using this
 ·have:=d 0 _ Y;rw[UU,Nat.add_zero] at this;exact this
 ·have:=d 1 _ Y;rw[UU] at this;exact this
 ·have:=d 2 _ Y;rw[UU] at this;exact this
end
section
variable {Post:U->F->Prop}{J:List dz->(Nat->Prop)->F->Prop}{Go:List dz->Bool}{w0 w:F}{M0 M own:Nat->Prop}{lp first n i qb wb vb:Nat}{pre:List dz}{a:V7}{cs:List Uu}{l:List (bK×Int)}{bs:List Bd}{ah:List Int}{rs:List cG}{kb ck eb ce db:Nat}{dO:Option UK}{cT nj:Nat->Nat}{co:Option UK}{cb bD aJ:Nat}{ro:Option UK}{rb bg aM:Nat}{V:Nat->Nat->List aE}{di:Nat}{sk:Bool}{b:Bd}{c:Uu}
def mv{a:V7}{x:U7}{u:U}(h1:a.eval x=u): #[x].map a.eval=#[u]:=by simp[h1]
def Lt{a:V7}{x y z u v:U7}{f g h d e:U}(h1:a.eval x=f)(j:a.eval y=g)(k:a.eval z=h)(m:a.eval u=d)(o:a.eval v=e): #[x,y,z,u,v].map a.eval=#[f,g,h,d,e]:=by simp[h1,j,k,m,o]
def Bh(q:FQ l bs ah rs V)(g:bs[i]? =I b)(C:first<=100000)(D:i<bs.length)
 (h:pH J w0 w M0 M own (gG kb l.length ck eb l.length ce dO bs.length di co ah.length aJ ro rs.length aM sk) lp first n i bs.length qb wb l.length (.slice dO bs.length di) (aX l.length (ah++rs.map cG.col)) pre a) (f:aV a 9=(bS vb)) (x:own vb) (A:w.heap[vb]? =I (.cells #[.int .i64 (b.rows:Int),.slice (I ⟨cT i,0,K⟩) l.length (nj i)] 139 (0,0)))
 (o:∀a',pH J w0 w M0 M own (gG kb l.length ck eb l.length ce dO bs.length di co ah.length aJ ro rs.length aM sk) lp (first+b.rows) n (i+1) bs.length qb wb l.length (.slice dO bs.length di) (aX l.length (ah++rs.map cG.col)) pre a'->Xe (aB T5) T5 Post own ((base 54).at a' [.code (iC Xh),.inLoop (iC Xh),.inBlock 0,.code (qU Xh)]) cs w):
 Xe (aB T5) T5 Post own ((base 54).at a (tD Xh)) cs w:=by
 have e:=ir (aB T5) T5 Post;obtain⟨d,k,m,p,j,v,t,r,z,y,u,s,B⟩:=h;have F:=q.rows b (VE g);have E:=q.nb;replace d:=d.cons f;refine bp e [0,1,2,3,4] Y ?_;refine cI e d λd=>?_;refine dF e d Y (bS vb) (dm (off':=0) Y (d.of Y) V8 Y X6 Y) λd=>?_;refine ri e d Y (.int .i64 (b.rows:Int)) (b7 Y (d.of Y) Yw (.inr x) (kJ A Y)) λd=>?_;refine dF e d Y (.int .i64 ((first+b.rows:Nat):Int)) (nP Y (d.of Y) (d.of Y) (by omega)) λd=>?_;refine gY e d λd=>?_;refine ak e ?_;refine iK e ?_;refine bp e [0,1] Y ?_;refine dF e d Y (.int .i64 ((i+1:Nat):Int)) (nP (j:=1) Y (d.of Y) Y (by omega)) λd=>?_;refine cI e d λd=>?_;refine ak e ?_;refine kW e ?_;exact o _ ⟨(((((((d.nil.cons (d.slot 1 _ Y)).cons (d.slot 2 _ Y)).cons (d.slot 4 _ Y)).cons (d.slot 6 _ Y)).cons (d.slot 7 _ Y)).cons (d.slot 16 _ Y)).cons (d.slot 17 _ Y)).cons (d.slot 18 _ Y),by simp only[put_defers];exact k,m,p,j,v,t,r,z,y,u,s,B⟩
def uQ(C:Cons (aB T5) T5 Post lp J Go)(q:FQ l bs ah rs V)(hF:∀W,(∀b,b<w0.heap.size->¬M0 b->m8 W w0 b)->w0.heap.size<=W.heap.size->FM W l bs ah rs kb eb dO db cT nj co cb bD ro rb bg)(f:bs[i]? =I b)(bt:first=jw bs i)(cx:pre.length<=first)(cv:n<=100000)
 (h:pH J w0 w M0 M own (gG kb l.length ck eb l.length ce dO bs.length di co ah.length aJ ro rs.length aM sk) lp first n i bs.length qb wb l.length (.slice dO bs.length di) (aX l.length (ah++rs.map cG.col)) pre a) (bl:aV a 9=(bS vb)) (ab:own vb) (b3:¬M vb) (cu:w0.heap.size<=vb) (bb:w.heap[vb]? =I (.cells #[.int .i64 (b.rows:Int),.slice (I ⟨cT i,0,K⟩) l.length (nj i)] 139 (0,0)))
 (br:Lf bs (aX l.length (ah++rs.map cG.col)) V i=T8->∀own' w',J pre M w'->Kept w0 w' M0 M own'->(∀b,own' b->b<w'.heap.size)->Xe (aB T5) T5 Post own' (c.finish (.tuple #[.int .i64 ((n+1:Nat):Int),.int .i64 3])) cs w')
 (cd:Lf bs (aX l.length (ah++rs.map cG.col)) V i=Z->(feed Go pre (ix bs ah rs V i)).2=T8->∀own' u w',J (feed Go pre (ix bs ah rs V i)).1 u w'->Kept w0 w' M0 u own'->(∀b,own' b->b<w'.heap.size)->Xe (aB T5) T5 Post own' (c.finish (.tuple #[.int .i64 ((n+1:Nat):Int),.int .i64 0])) cs w')
 (bx:Lf bs (aX l.length (ah++rs.map cG.col)) V i=Z->(feed Go pre (ix bs ah rs V i)).2=Z->∀own' u w' a',pH J w0 w' M0 u own' (gG kb l.length ck eb l.length ce dO bs.length di co ah.length aJ ro rs.length aM sk) lp first (n+1) i bs.length qb wb l.length (.slice dO bs.length di) (aX l.length (ah++rs.map cG.col)) (feed Go pre (ix bs ah rs V i)).1 a'->aV a' 9=(bS vb)->own' vb->w'.heap[vb]? =I (.cells #[.int .i64 (b.rows:Int),.slice (I ⟨cT i,0,K⟩) l.length (nj i)] 139 (0,0))->Xe (aB T5) T5 Post own' ((base 54).at a' (tD Xh)) (c::cs) w'):
 Xe (aB T5) T5 Post own ((base 54).at a (.code (Ez Xh)::tD Xh)) (c::cs) w:=by
 have e:=ir (aB T5) T5 Post;obtain⟨d,E,x,p,z,aa,a5,b1,a8,ad,a6,b2,bc⟩:=h;have cR:=q.rows b (VE f);have a1:(aX l.length (ah++rs.map cG.col)).length=l.length:=Ec.jn _ _;have bu:jw bs (i+1)<=2000:=Uz (yj bs (i+1)) q.tot;rw[sR f] at bu;replace d:=d.cons bl;refine aQ e ?_;refine bp e [0,1,2] Y ?_;refine cI e d λd=>?_;refine dF e d Y (.int .i64 ((n+1:Nat):Int)) (nP (j:=1) Y (d.of Y) Y (by omega)) λd=>?_;refine gY e d λd=>?_;refine ak e ?_;refine aQ e ?_;refine bp e [0,1,2,3,4,5,6,7,8,9] Y ?_;refine ri e d Y (o5 (b.rows:Int) (cT i) l.length (nj i)) (fo (cs:=[.int .i64 (b.rows:Int),.slice (I ⟨cT i,0,K⟩) l.length (nj i)]) Y (d.of Y) V8 Y nX (.inr ab) (oF bb)) λd=>?_;refine dF e d Y (bS qb) (dm (off':=0) Y (d.of Y) WG Y Tryz.sizeOf105 Y) λd=>?_;refine oy e (by decide) Y Y _ (fo (cs:=[.slice (I ⟨kb,0,K⟩) l.length ck,.slice (I ⟨eb,0,K⟩) l.length ce,.slice dO bs.length di]) Y (d.of Y) Tryz.underlying105 Y AT (.inr aa) (λD v x=>oF a8 D v (by
  rcases D with _|_|_|D
  ·exact x
  ·exact x
  ·exact x
  ·simp at x))) ?_
 replace d:=d.put (d:=36) (by decide) (o7 kb l.length ck eb l.length ce (.slice dO bs.length di));refine cI e d λd=>?_;refine sE (R:=λt=>Qo t b.rows (aX l.length (ah++rs.map cG.col)) (V i)) (vs:= #[o5 (b.rows:Int) (cT i) l.length (nj i),o7 kb l.length ck eb l.length ce (.slice dO bs.length di),.slice (I ⟨wb,0,K⟩) l.length l.length]) Y Y Y Y (BH (d.of Y) (d.of Y) (d.of Y)) Tryz.func78 RS Y (dK Y (by simp only[put_defers];exact E) (by kernel_rfl)) (λt s=>?_) (λt v g s L ae b4=>?_) (λt bi w' ⟨_,_,_,o,_⟩=>by cases o) (λt w' ⟨_,_,_,o,_⟩=>by cases o)
 ·have az:=p.rel s (λb h=>h);have Q:=hF t (az.same (λb N _ h _=>h) (T9 _)).1 az.size;have:=Fy (Post:=Post) (cap:=nj i) (ck:=ck) (ce:=ce) (x:=.slice dO bs.length di) (gV:=l.length) (Q.bin q f ((s.at_ wb ad).trans bc));rw[a1] at this;exact this
 ·obtain⟨am,lB,m,o,ao,b0,a2,b6,U⟩:=L;cases o;rw[a1];have X:Lf bs (aX l.length (ah++rs.map cG.col)) V i=lB:=by
   cases lB with
   |true=>exact(Iq f).2 (U.1 Y)
   |false=>
    cases o:Lf bs (aX l.length (ah++rs.map cG.col)) V i with
    |false=>rfl
    |true=>exact absurd (U.2 ((Iq f).1 o)) (by decide)
  have F:∀b,own b->g.heap[b]? =w.heap[b]? :=λb a7=>(ao.block b (Ue (z b a7) s.size)).trans (s.at_ b a7);have B:w.heap.size<=g.heap.size:=Uz s.size ao.size;have j:Kept w0 g M0 M (λb=>b<g.heap.size):=⟨λb f k=>⟨by have:=p.size;show b<g.heap.size;omega,(F b (p.keep b f k).1).trans (p.keep b f k).2⟩,p.ext,λb f=>Ue (z b (p.rq b f)) B,Uz p.size B,ae.tape.trans (s.tape.trans p.tape),ae.os.trans (s.os.trans p.os),ae.output.trans (s.output.trans p.output)⟩;have aw:=C.j9 _ _ _ g x (λb f=>F b (p.rq b f)) B;have a9:=(F qb aa).trans a8;have ch:=(F wb ad).trans bc;have L:=(F vb ab).trans bb;have an:qb<g.heap.size:=Ue (z qb aa) B;have be:wb<g.heap.size:=Ue (z wb ad) B;have bd:vb<g.heap.size:=Ue (z vb ab) B;refine Xe.go (own:=λb=>b<g.heap.size) ?_ (λb h=>h) b4;replace d:=d.put (d:=38) (by decide) (.tuple #[.slice (I ⟨am,0,K⟩) l.length l.length,.bool lB]);refine cI e d λd=>?_;refine rj e d λd=>?_;refine rj e d λd=>?_;refine gY e d λd=>?_;refine gY e d λd=>?_;refine ak e ?_;refine aQ e ?_;refine aQ e ?_;refine bp e [0,1] Y ?_;refine cI e d λd=>?_;refine dF e d Y (.bool (!lB)) (yL Y (d.of Y)) λd=>?_;refine ak e ?_;cases lB with
  |false=>
   refine dw e Z (d.of Y) ?_;refine aQ e ?_;refine bp e [0,1,2] Y ?_;refine cI e d λd=>?_;refine gY e d λd=>?_;refine m6 e d (.int .i64 3) λd=>?_;refine ak e ?_;refine pM e ?_;have G:=gJ (P:=T5) Tryz.results54 (d.slot 4 _ Y) (d.slot 5 _ Y);exact jg e Y (by simp only[put_defers];exact E) Tryz.func54 G.1 G.2 (br X _ g aw j (λb h=>h))
  |true=>
   have bo:=U.1 Y;refine dw e T8 (d.of Y) ?_;refine ij e ?_;refine aQ e ?_;refine bp e [0,1,2,3,4,5,6,7] Y ?_;refine ri e d Y (qv (.slice (I ⟨kb,0,K⟩) l.length ck) (.slice (I ⟨eb,0,K⟩) l.length ce) (.slice dO bs.length di) (.slice co ah.length aJ) (.slice ro rs.length aM) sk) (fo (cs:=(gG kb l.length ck eb l.length ce dO bs.length di co ah.length aJ ro rs.length aM sk).toList) Y (d.of Y) WG Y uJ (.inr an) (oF a9)) λd=>?_;refine cI e d λd=>?_;refine cI e d λd=>?_;refine dF e d Y (bS vb) (dm (off':=0) Y (d.of Y) V8 Y X6 Y) λd=>?_;refine ri e d Y (.int .i64 (b.rows:Int)) (b7 Y (d.of Y) Yw (.inr bd) (kJ L Y)) λd=>?_;refine cI e d λd=>?_;refine sE (R:=λO=>Qq J M O (feed Go pre (ix bs ah rs V i))) (vs:= #[qv (.slice (I ⟨kb,0,K⟩) l.length ck) (.slice (I ⟨eb,0,K⟩) l.length ce) (.slice dO bs.length di) (.slice co ah.length aJ) (.slice ro rs.length aM) sk,.slice (I ⟨am,0,K⟩) l.length l.length,.int .i64 (first:Int),.int .i64 (b.rows:Int),.func (.yield lp) #[] #[]]) Y Y Y Y (Lt (d.of Y) (d.of Y) (d.of Y) (d.of Y) (d.of Y)) Tryz.func79 RY Y (dK Y (by simp only[put_defers];exact E) (by kernel_rfl)) (λO r=>?_) (λO v A r cf al b5=>?_) (λt bi w' ⟨o,_⟩=>by cases o) (λt w' ⟨o,_⟩=>by cases o)
   ·have bA:=C.j9 _ _ _ O aw (λb f=>r.at_ b (j.rq b f)) r.size;have av:ix bs ah rs V i=eC (nl rs (Az V i)) (λcl=>ah.map λci=>Az V i ci cl) first 0 b.rows:=by
     unfold ix;rw[uP f,bt]
    rw[av];refine F5 (val:=Az V i) (cb:=cb) (bD:=bD) (rb:=rb) (bg:=bg) C bA (λW bm ca=>?_) (by omega) q.cn q.rn (by omega);have y:∀b,b<g.heap.size->¬M b->m8 W g b:=λb f k N T R=>bm b (Ue f r.size) k N ((r.at_ b f).trans T) R;have ap:∀b,M b->b<t.heap.size:=λb f=>Ue (z b (p.rq b f)) s.size;have Q:=hF W (λb f k N T R=>y b (j.keep b f k).1 (λh=>(j.ext b h).elim k (λh=>by omega)) N ((j.keep b f k).2.trans T) R) (Uz j.size (Uz r.size ca));have a3:∀m,t.heap.size<=m->m<g.heap.size->m8 W g m:=λm cp bj=>y m bj (λh=>by have:=ap m h;omega);refine Pe (g:=m) (w5:=g) q Q (a3 am b0 (Uc.1 a2).1 _ a2 trivial) (λD x=>?_) bo;obtain⟨ba,bv⟩:=b6 D x;obtain⟨cn,S,_⟩:=ba.ex;exact ba.same ((a3 (m D) bv (Uc.1 S).1 _ S trivial).trans S.symm)
   ·obtain⟨o,u,P,bB,c0,ar⟩:=cf;cases o;have cc:=r.size;have y:∀b,b<g.heap.size->¬M b->A.heap[b]? =g.heap[b]? :=λb f k=>(bB b (Ue f cc) k).trans (r.at_ b f);have ap:∀b,M b->b<w.heap.size:=λb f=>z b (p.rq b f);have a0:Kept w0 A M0 u (λb=>b<A.heap.size):=⟨λb f k=>⟨by have:=j.size;show b<A.heap.size;omega,(y b (j.keep b f k).1 (λh=>(j.ext b h).elim k (λh=>by omega))).trans (j.keep b f k).2⟩,λb f=>(ar b f).elim (j.ext b) (λh=>.inr (by have:=j.size;omega)),λb f=>C.bound _ _ _ P b f,by have:=j.size;omega,al.tape.trans (r.tape.trans j.tape),al.os.trans (r.os.trans j.os),al.output.trans (r.output.trans j.output)⟩;have a4:∀m,m<g.heap.size->¬M m->¬u m:=λm av k h=>(ar m h).elim k (λh=>by omega);refine Xe.go (own:=λb=>b<A.heap.size) ?_ (λb h=>h) b5;replace d:=d.put (d:=50) (by decide) (.bool (feed Go pre (ix bs ah rs V i)).2);refine dF e d Y (.bool (!(feed Go pre (ix bs ah rs V i)).2)) (yL Y (d.of Y)) λd=>?_;refine ak e ?_;cases H:(feed Go pre (ix bs ah rs V i)).2 with
    |false=>
     rw[H] at d;refine dw e Z (d.of Y) ?_;refine aQ e ?_;refine bp e [0,1,2] Y ?_;refine cI e d λd=>?_;refine gY e d λd=>?_;refine m6 e d (.int .i64 0) λd=>?_;refine ak e ?_;refine pM e ?_;have G:=gJ (P:=T5) Tryz.results54 (d.slot 4 _ Y) (d.slot 5 _ Y);exact jg e Y (by simp only[put_defers];exact E) Tryz.func54 G.1 G.2 (cd X H _ u A P a0 (λb h=>h))
    |true=>
     rw[H] at d;refine dw e T8 (d.of Y) ?_;refine ij e ?_;exact bx X H _ u A _ ⟨(((((((d.nil.cons (d.slot 1 _ Y)).cons (d.slot 2 _ Y)).cons (d.slot 4 _ Y)).cons (d.slot 6 _ Y)).cons (d.slot 7 _ Y)).cons (d.slot 16 _ Y)).cons (d.slot 17 _ Y)).cons (d.slot 18 _ Y),by simp only[put_defers];exact E,P,a0,(λb h=>h),by show qb<_;omega,a4 qb an a5,b1,(y qb an a5).trans a9,by show wb<_;omega,a4 wb be a6,b2,(y wb be a6).trans ch⟩ (d.slot 9 _ Y) (by show vb<_;omega) ((y vb bd b3).trans L)
end
end Cc
namespace Cc
open Go Go.Conc
open Go.RowKit (Below)
open Ec (aE aH cG dD sI zV si qv bK Bd kr lC dJ aX xR oW)
section
variable {Post:U->F->Prop}{J:List dz->(Nat->Prop)->F->Prop}{Go:List dz->Bool}{w0 w:F}{M0 M own:Nat->Prop}{lp first n i qb wb vb:Nat}{pre:List dz}{a:V7}{cs:List Uu}{l:List (bK×Int)}{bs:List Bd}{ah:List Int}{rs:List cG}{kb ck eb ce db:Nat}{dO:Option UK}{cT nj:Nat->Nat}{co:Option UK}{cb bD aJ:Nat}{ro:Option UK}{rb bg aM:Nat}{V:Nat->Nat->List aE}{di:Nat}{sk:Bool}{b:Bd}{c:Uu}
def Nn(h:pH J w0 w M0 M own (gG kb l.length ck eb l.length ce dO bs.length di co ah.length aJ ro rs.length aM sk) lp first n bs.length bs.length qb wb l.length (.slice dO bs.length di) (aX l.length (ah++rs.map cG.col)) pre a)(g:Xe (aB T5) T5 Post own (c.finish (.tuple #[.int .i64 (n:Int),.int .i64 0])) cs w):
 Xe (aB T5) T5 Post own ((base 54).at a [.code (iC Xh),.inLoop (iC Xh),.inBlock 0,.code (qU Xh)]) (c::cs) w:=by
 have d:=ir (aB T5) T5 Post;have e:=h.kn;refine aQ d ?_;refine bp d [0] Y ?_;refine dF d e Y (.bool T8) (jy Y (e.of Y) (e.of Y) (by simp)) λe=>?_;refine ak d ?_;refine aQ d ?_;refine dw d T8 (e.of Y) ?_;refine ue d (k':=[.code (qU Xh)]) Y ?_;refine aQ d ?_;refine bp d [0,1,2] Y ?_;refine cI d e λe=>?_;refine gY d e λe=>?_;refine m6 d e (.int .i64 0) λe=>?_;refine ak d ?_;refine pM d ?_;have f:=gJ (P:=T5) Tryz.results54 (e.slot 4 _ Y) (e.slot 5 _ Y);exact jg d Y (by simp only[put_defers];exact h.df) Tryz.func54 f.1 f.2 g
def Kj(C:Cons (aB T5) T5 Post lp J Go)(q:FQ l bs ah rs V)(hF:∀W,(∀b,b<w0.heap.size->¬M0 b->m8 W w0 b)->w0.heap.size<=W.heap.size->FM W l bs ah rs kb eb dO db cT nj co cb bD ro rb bg)(P:0<bs.length->¬M0 db):
 ∀(r i:Nat),i+r=bs.length->∀(pre:List dz) (own M:Nat->Prop) (w:F) (a:V7) (n:Nat),n<=i->pre.length<=jw bs i->
 pH J w0 w M0 M own (gG kb l.length ck eb l.length ce dO bs.length di co ah.length aJ ro rs.length aM sk) lp (jw bs i) n i bs.length qb wb l.length (.slice dO bs.length di) (aX l.length (ah++rs.map cG.col)) pre a->
 (∀own' j w',J (iY sk bs ah rs (aX l.length (ah++rs.map cG.col)) V Go i r pre n).1 j w'->Kept w0 w' M0 j own'->(∀b,own' b->b<w'.heap.size)->Xe (aB T5) T5 Post own' (c.finish (.tuple #[.int .i64 ((iY sk bs ah rs (aX l.length (ah++rs.map cG.col)) V Go i r pre n).2.1:Int),.int .i64 ((iY sk bs ah rs (aX l.length (ah++rs.map cG.col)) V Go i r pre n).2.2:Int)])) cs w')->
 Xe (aB T5) T5 Post own ((base 54).at a [.code (iC Xh),.inLoop (iC Xh),.inBlock 0,.code (qU Xh)]) (c::cs) w:=by
 intro r
 induction r with
 |zero=>
  intro i N pre own M w a n O t d e;have:i=bs.length:=by omega
  subst this;exact Nn d (e own M w d.j d.kept d.bd)
 |succ r H=>
  intro i N pre own M w a n O t d e;have B:i<bs.length:=by omega
  have f:bs[i]? =I bs[i]:=Uo B;generalize bs[i]=b at f;have ad:=q.nb;have Z:=Uz (yj bs (i+1)) q.tot;have G:=sR f;refine Ki C q hF f P d λS T X vb m o s E D ae al v=>?_;cases u:(sk&&td bs rs i) with
  |true=>
   have g:iY sk bs ah rs (aX l.length (ah++rs.map cG.col)) V Go i (r+1) pre n=iY sk bs ah rs (aX l.length (ah++rs.map cG.col)) V Go (i+1) r pre n:=by simp only[iY,u,if_true]
   rw[g] at e;refine ij (ir (aB T5) T5 Post) ?_;refine Bh q f (by omega) B m o s v λx k=>?_;rw[<-G] at k;exact H (i+1) (by omega) pre S M T x n (by omega) (by omega) k e
  |false=>
   cases h:Lf bs (aX l.length (ah++rs.map cG.col)) V i with
   |false=>
    have g:iY sk bs ah rs (aX l.length (ah++rs.map cG.col)) V Go i (r+1) pre n=(pre,n+1,3):=by simp only[iY,u,h,UC,if_false]
    rw[g] at e;exact uQ C q hF f Y t (by omega) m o s E D v (λ_ own' w' z A y=>e own' M w' z A y) (λd=>by rw[h] at d;cases d) (λd=>by rw[h] at d;cases d)
   |true=>
    cases p:(feed Go pre (ix bs ah rs V i)).2 with
    |false=>
     have g:iY sk bs ah rs (aX l.length (ah++rs.map cG.col)) V Go i (r+1) pre n=((feed Go pre (ix bs ah rs V i)).1,n+1,0):=by simp only[iY,u,h,p,UC,if_false,if_true]
     rw[g] at e;exact uQ C q hF f Y t (by omega) m o s E D v (λd=>by rw[h] at d;cases d) (λ_ _ own' j w' z A y=>e own' j w' z A y) (λ_ d=>by rw[p] at d;cases d)
    |true=>
     have g:iY sk bs ah rs (aX l.length (ah++rs.map cG.col)) V Go i (r+1) pre n=iY sk bs ah rs (aX l.length (ah++rs.map cG.col)) V Go (i+1) r (feed Go pre (ix bs ah rs V i)).1 (n+1):=by simp only[iY,u,h,p,UC,if_false,if_true]
     rw[g] at e;refine uQ C q hF f Y t (by omega) m o s E D v (λd=>by rw[h] at d;cases d) (λ_ d=>by rw[p] at d;cases d) (λ_ _ own' j w' U K L Q R=>?_);refine Bh q f (by omega) B K L Q R λx k=>?_;rw[<-G] at k;have aa:=vB Go (ix bs ah rs V i) pre;have ab:(ix bs ah rs V i).length<=b.rows:=by
      unfold ix;rw[uP f];exact pi _ _ _ _ _
     exact H (i+1) (by omega) _ own' j w' x (n+1) (by omega) (by omega) k e
def Qt (J:List dz->(Nat->Prop)->F->Prop)(M0:Nat->Prop)(w0:F)(d:List dz×Nat×Nat)(f:WU)(w':F):Prop:=
 f= .returned (.tuple #[.int .i64 (d.2.1:Int),.int .i64 (d.2.2:Int)])/\∃e,J d.1 e w'/\(∀b,b<w0.heap.size->¬M0 b->w'.heap[b]? =w0.heap[b]?)/\w0.heap.size<=w'.heap.size/\∀b,e b->M0 b\/w0.heap.size<=b
def GB(C:Cons (aB T5) T5 Post lp J Go)(q:FQ l bs ah rs V)(E:J [] M0 w0)(hF:∀W,(∀b,b<w0.heap.size->¬M0 b->m8 W w0 b)->w0.heap.size<=W.heap.size->FM W l bs ah rs kb eb dO db cT nj co cb bD ro rb bg)(am:0<bs.length->¬M0 db):
 mj (aB T5) T5 Post 54 #[qv (.slice (I ⟨kb,0,K⟩) l.length ck) (.slice (I ⟨eb,0,K⟩) l.length ce) (.slice dO bs.length di) (.slice co ah.length aJ) (.slice ro rs.length aM) sk,.func (.yield lp) #[] #[]] w0 (Qt J M0 w0 (iY sk bs ah rs (aX l.length (ah++rs.map cG.col)) V Go 0 bs.length [] 0)):=by
 intro c cs av a5 ao Q;have e:=ir (aB T5) T5 Post;refine Xe.go (own:=λb=>b<w0.heap.size) ?_ (λb f=>f) ao;rw[enter_at _ Tryz.func54 Y];have d:=Tc (qv (.slice (I ⟨kb,0,K⟩) l.length ck) (.slice (I ⟨eb,0,K⟩) l.length ce) (.slice dO bs.length di) (.slice co ah.length aJ) (.slice ro rs.length aM) sk) (.func (.yield lp) #[] #[]) 59 (by decide);have Z:tR JU (λb=>b<w0.heap.size) w0:=λb g=>g.elim Yr (λf=>f);have s:=C.bound _ _ _ E;have al:Kept w0 w0 M0 M0 (λb=>b<w0.heap.size):=⟨λb g _=>⟨g,rfl⟩,λb g=>.inl g,s,T9 _,rfl,rfl,rfl⟩;refine aQ e ?_;refine bp e [0,1,2] Y ?_;refine mC e Z (by decide) Y Y (.cells (gG kb l.length ck eb l.length ce dO bs.length di co ah.length aJ ro rs.length aM sk) 115) trivial (λn=>(bS n)) (uF (v:=qv (.slice (I ⟨kb,0,K⟩) l.length ck) (.slice (I ⟨eb,0,K⟩) l.length ce) (.slice dO bs.length di) (.slice co ah.length aJ) (.slice ro rs.length aM) sk) Y (d.of Y)) λqb H S a6 ar D=>?_;replace d:=d.put (d:=2) (by decide) (bS qb);refine m6 e d (.int .i64 ((0:Nat):Int)) λd=>?_;refine m6 e d (.int .i64 0) λd=>?_;refine ak e ?_;have A:=Ge ar;have t:=al.rel (own':=λb=>b<w0.heap.size\/b=qb) A (λb f=>.inl f);have ab:=C.j9 _ _ _ H E (λb g=>A.at_ b (s b g)) A.size;have T:∀b,(b<w0.heap.size\/b=qb)->b<H.heap.size:=λb g=>by omega
 refine aQ e ?_;refine bp e [0,1,2] Y ?_;refine ri e d Y (qv (.slice (I ⟨kb,0,K⟩) l.length ck) (.slice (I ⟨eb,0,K⟩) l.length ce) (.slice dO bs.length di) (.slice co ah.length aJ) (.slice ro rs.length aM) sk) (fo (cs:=(gG kb l.length ck eb l.length ce dO bs.length di co ah.length aJ ro rs.length aM sk).toList) Y (d.of Y) WG Y uJ (.inr (.inr Y)) (oF D)) λd=>?_;refine C6 (vs:= #[qv (.slice (I ⟨kb,0,K⟩) l.length ck) (.slice (I ⟨eb,0,K⟩) l.length ce) (.slice dO bs.length di) (.slice co ah.length aJ) (.slice ro rs.length aM) sk]) (R:=λW p x=>∃m,p= .returned (.slice (I ⟨m,0,K⟩) l.length l.length)/\W.heap.size<=m/\x.heap[m]? =I (.cells (xR (aX l.length (ah++rs.map cG.col))).toArray 4 (0,0))) cW Y Y Y Y (mv (d.of Y)) Tryz.func76 R6 Y (jY Y Y Y).symm (dK Y (by simp only[put_defers]) (by kernel_rfl)) (λW y B=>?_) λv k W x y B a2 aw R o=>?_
 ·have r:=hF W (t.same y B).1 (t.same y B).2;have z:=q.m;have a4:=q.cn;refine(oW l.length ah rs (I ⟨kb,0,K⟩) ck (.slice (I ⟨eb,0,K⟩) l.length ce) (.slice dO bs.length di) co cb bD aJ ro rb bg aM sk W q.m (by unfold Ur;omega) q.rn r.ca r.cl r.cc r.nr q.ck q.rk).mono λp x f=>?_;obtain⟨N,m,rfl,O,P⟩:=f;exact⟨N,_,rfl,m,rfl,O,P⟩
 ·obtain⟨wb,p,az,u⟩:=aw;cases p;have ae:=t.rel (own':=grown (λb=>b<w0.heap.size\/b=qb) W.heap.size k.heap.size) o (λb f=>.inl f);have ad:=C.j9 _ _ _ k ab (λb g=>o.at_ b (t.rq b g)) o.size;have G:=(o.at_ qb (.inr Y)).trans D;have U:∀b,grown (λb=>b<w0.heap.size\/b=qb) W.heap.size k.heap.size b->b<k.heap.size:=λb g=>g.elim (λf=>Ue (T b f) o.size) (λf=>f.2);replace u:=R.row.1 u;have a0:wb<k.heap.size:=(Uc.1 u).1;have F:grown (λb=>b<w0.heap.size\/b=qb) W.heap.size k.heap.size qb:=.inl (.inr Y);have an:grown (λb=>b<w0.heap.size\/b=qb) W.heap.size k.heap.size wb:=.inr ⟨az,a0⟩;replace d:=d.put (d:=13) (by decide) (.slice (I ⟨wb,0,K⟩) l.length l.length);refine gY e d λd=>?_;refine ak e ?_;refine aQ e ?_;refine bp e [0] Y ?_;refine m6 e d (.int .i64 ((0:Nat):Int)) λd=>?_;refine ak e ?_;refine aQ e ?_;refine aQ e ?_;refine bp e [0,1,2,3,4] Y ?_;refine dF e d Y (bS qb) (dm (off':=0) Y (d.of Y) WG Y Tryz.sizeOf105 Y) λd=>?_;refine dF e d Y (.pointer (I ⟨qb,2,K⟩)) (dm (off':=2) Y (d.of Y) Tryz.underlying105 Y Tryz.sizeOf103 Y) λd=>?_;refine ri e d Y (.slice dO bs.length di) (b7 Y (d.of Y) Tryz.isAgg103 (.inr F) (kJ G Y)) λd=>?_;refine dF e d Y (.int .i64 (bs.length:Int)) (so Y (d.of Y) Tryz.underlying103) λd=>?_;refine dF e d Y (.int .i64 ((0:Nat):Int)) (cm Y Y) λd=>?_;refine ak e ?_;refine gC e ?_;refine uf e ?_;have X:jw bs 0=0:=by simp[jw]
  refine Kj (w0:=w0) (M0:=M0) C q hF am bs.length 0 (by omega) [] _ M0 k _ 0 (T9 _) (UF _) (by
   rw[X];exact⟨(((((((d.nil.cons (d.slot 1 _ Y)).cons (d.slot 2 _ Y)).cons (d.slot 4 _ Y)).cons (d.slot 6 _ Y)).cons (d.slot 7 _ Y)).cons (d.slot 16 _ Y)).cons (d.slot 17 _ Y)).cons (d.slot 18 _ Y),by simp only[put_defers],ad,ae,U,F,λf=>by have:=s qb f;omega,S,G,an,λf=>by have:=s wb f;omega,by omega,u⟩) λa7 L a8 aa h a3=>?_
  intro _ a1 j ap;exact Q _ a1 ⟨rfl,L,C.j9 _ _ _ _ aa (λb g=>j.at_ b (h.rq b g)) j.size,λb g z=>(j.at_ b (h.keep b g z).1).trans (h.keep b g z).2,Uz h.size j.size,h.ext⟩ ap ⟨j.tape.trans h.tape,j.os.trans h.os,j.output.trans h.output,Uz h.size j.size⟩ (n9 av _)
end
end Cc
namespace Cc
open Go Go.Conc
open Go.RowKit (Below)
open Ec (aE aH cG dD qv bK Bd aX)
def Gi{P:Ug}{a:V7}{o:Vv}{x:U7}{d:UK}(f:o.op= .nilCheck x)(g:a.eval x= .pointer (I d)):∀b,(UI a.eval o).run P b= .ok (.value (.pointer (I d))) b/\(UI a.eval o).events P b #[]=#[]:=λb=>by
 unfold UI;simp[f,g]
def J0{P:Ug}{S own:Nat->Prop}{a:V7}{o:Vv}{w:F}{t:Ui}{x:U7}{f off:Nat}{cs:List U}{d:TypeDesc}{v:U}(k:o.op= .load t x)(p:a.eval x= .pointer (I ⟨f,off,K⟩))(l:P.underlying t=I d)(i:d.isRow=Z)(j:(P.info? t).map (·.size)=I cs.length)(h:S f\/own f)(hc:w.rangeAt f off cs)(m:.agg cs.toArray=v):∀g,RelB (λb=>S b\/own b) w g->(UI a.eval o).run P g= .ok (.value v) g/\∀e∈(UI a.eval o).events P g #[],EvW S own e:=by
 subst m;exact fo k p l i j h hc
def ey (fn:WD):Array Vv:=match fn.body with
 |some (.region _ a _)=>a
 |_=> #[]
def FP (cu xb lp:Nat)(q:U):List (Nat×U):=[(4,(bS cu)),(5,(bS cu)),(6,(bS cu)),(7,(bS cu)),(8,(bS cu)),(9,q),(10,.func (.yield lp) #[] #[])]
def Jk (cu:Nat)(n e:Nat):List (Nat×U):=[(11,.tuple #[.int .i64 (n:Int),.int .i64 (e:Int)]),(3,.tuple #[.int .i64 (n:Int),.int .i64 (e:Int)]),(12,.int .i64 (n:Int)),(13,.int .i64 (e:Int)),(14,(bS cu)),(15,.pointer (I ⟨cu,6,K⟩))]
def OJ (cu:Nat):List (Nat×U):=[(16,(bS cu)),(17,.pointer (I ⟨cu,7,K⟩))]
def LU:List Nat:=[4,5,6,7,8,9,10]
def DE:gF (ey Wn) (λi=>decide (i<7)) 7 18 LU=Z:=by kernel_rfl
def DF:gF (ey Wn) (λi=>decide (i<13)) 13 18 ([11,3,12,13,14,15]++LU)=Z:=by kernel_rfl
def DG:gF (ey Wn) (λi=>decide (i<16)) 16 18 ([16,17]++([11,3,12,13,14,15]++LU))=Z:=by kernel_rfl
def LV:((UL (ey Wn).size).all λi=> !(λi=>decide (i<7)) i||match jh (ey Wn) i with|some d=> !([11,3,12,13,14,15]:List Nat).contains d|none=>Z)=Z:=by kernel_rfl
def LW:((UL (ey Wn).size).all λi=> !(λi=>decide (i<13)) i||match jh (ey Wn) i with|some d=> !([16,17]:List Nat).contains d|none=>Z)=Z:=by kernel_rfl
def Jm:((UL (ey Wn).size).all λi=> !(λi=>decide (2<=i/\i<=7)) i||i==7||(under (ey Wn) 6 (match (ey Wn)[7]? with
 |some o=>(o.after.toList.filter λe=>Vo .any e).map (·.on)
 |none=>[])).contains i)=Z:=by kernel_rfl
def Jn:((UL (ey Wn).size).all λi=> !(λi=>decide (i<=13/\i≠1/\i≠10)) i||i==13||(under (ey Wn) 2 (match (ey Wn)[13]? with
 |some o=>(o.after.toList.filter λe=>Vo .any e).map (·.on)
 |none=>[])).contains i)=Z:=by kernel_rfl
def Jo:((UL (ey Wn).size).all λi=> !(λi=>decide (i<=16)) i||i==16||(under (ey Wn) 2 (match (ey Wn)[16]? with
 |some o=>(o.after.toList.filter λe=>Vo .any e).map (·.on)
 |none=>[])).contains i)=Z:=by kernel_rfl
def LX:yB (aB T5) (.inRegion (ey Wn) [])=Z:=by kernel_rfl
def Q6{a:V7}{l:List Nat}(b:a.defers=[]):eO (aB T5) ((base 53).at a [.inRegion (ey Wn) l]) []:=
 dK Y b (by rw[List.all_cons,List.all_nil,Bool.and_true];exact LX)
def R3:(Xh.name == "runtime.NumGoroutine")=T8:=by kernel_rfl
def Mt:(T5.info? 3).map (·.size)=I 1:=by kernel_rfl
def F2:(T5.info? 27).map (·.size)=I 1:=by kernel_rfl
def CB{P:Ug}{fn:WD}{a:V7}(b:fn.results=#[]):(∀w,(UY fn a.tmps).run P w= .ok (.tuple #[]) w)/\∀w,(UY fn a.tmps).events P w #[]=#[]:=by
 constructor<;>intro w<;>simp[UY,b]
def jC (q:Array U)(n e:Nat):Array U:=q++#[.int .i64 (n:Int),.int .i64 (e:Int)]
section
variable {Post:U->F->Prop}{own:Nat->Prop}{w:F}{cu xb lp n e:Nat}{a0:V7}{cs:List Uu}{q:Array U}{qa:U}{c:Uu}{n0 e0:Nat}
def LY(m:Knows a0 18 [(0,.func (.yield lp) #[] #[]),(1,(bS xb))])(E:a0.defers=[])(F:tR JU own w)(H:own xb)(u:own cu)(Q:xb≠cu)(L:w.heap[xb]? =I (.cells #[(bS cu)] 74 (0,0)))(v:q.size=6)(hc:w.heap[cu]? =I (.cells (jC q n e0) 119 (0,0)))
 (k t:Nat) (f:Array Bool) (b:V7) (l:cJ (ey Wn) (λi=>decide (i<16)) a0 (fill a0 (OJ cu++(Jk cu n e++FP cu xb lp qa))) f b) (p:∀i,(λi=>decide (i<=13/\i≠1/\i≠10)) i=Z->f.getD i T8=Z) (s:E6 f<=k)
 (G:∀w',zX JU own cu (.cells (jC q n e) 119 (0,0)) w w'->Xe (aB T5) T5 Post own (c.finish (.tuple #[])) cs w'):
 Xe (aB T5) T5 Post own ((base 53).at b [.inRegion (ey Wn) (Va .any (ey Wn) k t f [])]) (c::cs) w:=by
 have h:=ir (aB T5) T5 Post;refine kN (Dn:=λi=>decide (i<=13/\i≠1/\i≠10)) (u:=16) h (by decide) m DG ?_ ?_ ?_ k t f b l p s
 ·intro a i g J p _ d;have N:i<16:=by simpa using J
  have O:¬(i<=13/\i≠1/\i≠10):=by simpa using p
  have:i=1\/i=10\/i=14\/i=15:=by omega
  rcases this with rfl|rfl|rfl|rfl
  ·cases(show I _=I g from d);exact⟨_,rfl,.inl ⟨rfl,b7 Y (a.of Y) Tryz.isAgg74 (.inr H) (kJ L Y)⟩⟩
  ·cases(show I _=I g from d);exact⟨_,rfl,.inl ⟨rfl,cA (kH Y (a.of Y) Y)⟩⟩
  ·cases(show I _=I g from d);exact⟨_,rfl,.inl ⟨rfl,cA (Gi Y (a.of Y))⟩⟩
  ·cases(show I _=I g from d);exact⟨_,rfl,.inl ⟨rfl,cA (dm (off':=7) Y (a.of Y) Tryz.underlying119 Y Tryz.sizeOf27 Y)⟩⟩
 ·intro g d k t f b l x s P _;have a:=m.fill (OJ cu++(Jk cu n e++FP cu xb lp qa)) Y;have o:=gH (Dn:=λi=>decide (i<=16)) l x Jo (λj r=>by
   have:j<=16:=by simpa using r
   show j<17;omega)
  cases(show I _=I g from d);obtain⟨C,D⟩:=oa l x rfl m.size DG (λj r=>o j (by
   have:j<17:=r;simp;omega))
  rw[D];subst C;refine sb h F (n:=cu) (by decide) d Y u (.cells ((jC q n e0).toList.take 7++(VZ .i64 (e:Int)).cells.toList++(jC q n e0).toList.drop (7+(VZ .i64 (e:Int)).cells.size)).toArray 119) trivial (k7 (n:=cu) (off:=7) (v:=.int .i64 (e:Int)) Y (a.of Y) (a.of Y) F2 (λR A=>by simp[WI] at A;rw[A];rfl) (Or.inr u) hc (by
   show 7+1<=(jC q n e0).size;simp[jC,v])) λM z=>?_
  refine ak h ?_;refine LF h ?_;have y:=CB (P:=T5) (fn:=Wn) (a:=(fill a0 (OJ cu++(Jk cu n e++FP cu xb lp qa))).put (ey Wn)[16].dst Vl) Tryz.results53;refine jg h Y (by rw[put_defers,eA];exact E) Tryz.func53 y.1 y.2 (G M ?_);have B:((jC q n e0).toList.take 7++(VZ .i64 (e:Int)).cells.toList++(jC q n e0).toList.drop (7+(VZ .i64 (e:Int)).cells.size)).toArray=jC q n e:=by
   apply Array.toList_inj.1;have K:q.toList.length=6:=by simpa using v
   simp[jC,WI,List.take_append,List.drop_append,K];rw[UP (by omega),List.drop_eq_nil_of_le (by omega)]
  rw[B] at z;exact z
 ·intro o;exact absurd (o 16 (by decide)) (by decide)
def FR(m:Knows a0 18 [(0,.func (.yield lp) #[] #[]),(1,(bS xb))])(r:a0.defers=[])(B:tR JU own w)(o:own xb)(v:own cu)(F:xb≠cu)(z:w.heap[xb]? =I (.cells #[(bS cu)] 74 (0,0)))(x:q.size=6)(hc:w.heap[cu]? =I (.cells (jC q n0 e0) 119 (0,0)))
 (j t:Nat) (h:Array Bool) (b:V7) (k:cJ (ey Wn) (λi=>decide (i<13)) a0 (fill a0 (Jk cu n e++FP cu xb lp qa)) h b) (s:∀i,(λi=>decide (2<=i/\i<=7)) i=Z->h.getD i T8=Z) (D:E6 h<=j)
 (O:∀G w',zX JU own cu (.cells (jC q n e0) 119 (0,0)) w G->zX JU own cu (.cells (jC q n e) 119 (0,0)) G w'->Xe (aB T5) T5 Post own (c.finish (.tuple #[])) cs w'):
 Xe (aB T5) T5 Post own ((base 53).at b [.inRegion (ey Wn) (Va .any (ey Wn) j t h [])]) (c::cs) w:=by
 have A:=ir (aB T5) T5 Post;refine kN (Dn:=λi=>decide (2<=i/\i<=7)) (u:=13) A (by decide) m DF ?_ ?_ ?_ j t h b k s D
 ·intro d i f Q s _ a;have V:i<13:=by simpa using Q
  have W:¬(2<=i/\i<=7):=by simpa using s
  have:i=0\/i=1\/i=8\/i=9\/i=10\/i=11\/i=12:=by omega
  rcases this with rfl|rfl|rfl|rfl|rfl|rfl|rfl
  ·cases(show I _=I f from a);exact⟨_,rfl,.inl ⟨rfl,b7 Y (d.of Y) Tryz.isAgg74 (.inr o) (kJ z Y)⟩⟩
  ·cases(show I _=I f from a);exact⟨_,rfl,.inl ⟨rfl,b7 Y (d.of Y) Tryz.isAgg74 (.inr o) (kJ z Y)⟩⟩
  ·cases(show I _=I f from a);exact⟨_,rfl,.inl ⟨rfl,cA (cm Y (d.of Y))⟩⟩
  ·cases(show I _=I f from a);exact⟨_,rfl,.inl ⟨rfl,cA (kH Y (d.of Y) Y)⟩⟩
  ·cases(show I _=I f from a);exact⟨_,rfl,.inl ⟨rfl,cA (kH Y (d.of Y) Y)⟩⟩
  ·cases(show I _=I f from a);exact⟨_,rfl,.inl ⟨rfl,cA (Gi Y (d.of Y))⟩⟩
  ·cases(show I _=I f from a);exact⟨_,rfl,.inl ⟨rfl,cA (dm (off':=6) Y (d.of Y) Tryz.underlying119 Y X6 Y)⟩⟩
 ·intro f a j t h b k y D C _;have d:=m.fill (Jk cu n e++FP cu xb lp qa) Y;have p:=gH (Dn:=λi=>decide (i<=13/\i≠1/\i≠10)) k y Jn (λg u=>by
   have:g<=13/\g≠1/\g≠10:=by simpa using u
   show g<17;omega)
  cases(show I _=I f from a);have J:b.eval (.tmp 15)= .pointer (I ⟨cu,6,K⟩):=(C 15 (by decide)).trans (d.slot 15 _ Y);have H:b.eval (.tmp 12)= .int .i64 (n:Int):=(C 12 (by decide)).trans (d.slot 12 _ Y);refine sb A B (n:=cu) (by decide) a Y v (.cells ((jC q n0 e0).toList.take 6++(VZ .i64 (n:Int)).cells.toList++(jC q n0 e0).toList.drop (6+(VZ .i64 (n:Int)).cells.size)).toArray 119) trivial (k7 (n:=cu) (off:=6) (v:=.int .i64 (n:Int)) Y J H Mt (λX E=>by simp[WI] at E;rw[E];rfl) (Or.inr v) hc (by
   show 6+1<=(jC q n0 e0).size;simp[jC,x])) λT l=>?_
  have L:((jC q n0 e0).toList.take 6++(VZ .i64 (n:Int)).cells.toList++(jC q n0 e0).toList.drop (6+(VZ .i64 (n:Int)).cells.size)).toArray=jC q n e0:=by
   apply Array.toList_inj.1;have R:q.toList.length=6:=by simpa using x
   simp[jC,WI,List.take_append,List.drop_append,R]
  rw[L] at l;have M:=k.Ig (l2:=OJ cu) (Lc:=λi=>decide (i<16)) (n:=18) (v:=Vl) y a m.size DF Y (λg u=>by
   have:g<13:=by simpa using u
   simp;omega) Y LW (λU r=>by cases r)
  refine LY (n:=n) (e:=e) (e0:=e0) (qa:=qa) m r (B.set l) o v F ((l.at_ xb (.inr o) F).trans z) x l.set j t _ _ M p ?_ λw' S=>O T w' l S;obtain⟨_,_,N,P,_⟩:=mem_ready y;have:=qZ (by rw[k.size];exact N) P;omega
 ·intro p;exact absurd (p 13 (by decide)) (by decide)
end
def S0 (J:List dz->(Nat->Prop)->F->Prop)(M0:Nat->Prop)(w0:F)(cu:Nat)(q:Array U)(b:List dz×Nat×Nat)(f:WU)(w':F):Prop:=
 f= .returned (.tuple #[])/\(∃c,J b.1 c w'/\∀a,c a->M0 a\/w0.heap.size<=a)/\(∀a,a<w0.heap.size->¬M0 a->a≠cu->w'.heap[a]? =w0.heap[a]?)/\w'.heap[cu]? =I (.cells (jC q b.2.1 b.2.2) 119 (0,0))/\w0.heap.size<=w'.heap.size
section
variable {Post:U->F->Prop}{J:List dz->(Nat->Prop)->F->Prop}{Go:List dz->Bool}{w0:F}{M0:Nat->Prop}{lp cu xb:Nat}{l:List (bK×Int)}{bs:List Bd}{ah:List Int}{rs:List cG}{kb ck eb ce db:Nat}{dO:Option UK}{cT nj:Nat->Nat}{co:Option UK}{cb bD aJ:Nat}{ro:Option UK}{rb bg aM:Nat}{V:Nat->Nat->List aE}{di n0 e0:Nat}{sk:Bool}
def Jl(C:Cons (aB T5) T5 Post lp J Go)(q:FQ l bs ah rs V)(i:J [] M0 w0)(hF:∀W,(∀b,b<w0.heap.size->¬M0 b->b≠cu->m8 W w0 b)->w0.heap.size<=W.heap.size->FM W l bs ah rs kb eb dO db cT nj co cb bD ro rb bg)(a5:0<bs.length->¬M0 db)(Q:¬M0 cu)(a6:¬M0 xb)(bd:xb≠cu)
 (w:w0.heap[xb]? =I (.cells #[(bS cu)] 74 (0,0))) (hc:w0.heap[cu]? =I (.cells (jC (gG kb l.length ck eb l.length ce dO bs.length di co ah.length aJ ro rs.length aM sk) n0 e0) 119 (0,0))):
 mj (aB T5) T5 Post 53 #[.func (.yield lp) #[] #[],(bS xb)] w0 (S0 J M0 w0 cu (gG kb l.length ck eb l.length ce dO bs.length di co ah.length aJ ro rs.length aM sk) (iY sk bs ah rs (aX l.length (ah++rs.map cG.col)) V Go 0 bs.length [] 0)):=by
 intro aa ab bb bA F ae;have N:=ir (aB T5) T5 Post;have S:cu<w0.heap.size:=(Uc.1 hc).1;have A:xb<w0.heap.size:=(Uc.1 w).1;have an:=C.bound _ _ _ i;refine Xe.go (own:=λb=>b<w0.heap.size) ?_ (λb e=>e) F;rw[enter_at _ Tryz.func53 Y];have s:=Tc (.func (.yield lp) #[] #[]) (bS xb) 18 (by decide);have E:(⟨#[Value.func (.yield lp) #[] #[],(bS xb)]++U4 (18-2) Vl,[]⟩:V7).defers=[]:=rfl;have ar:w0.rangeAt cu 0 (gG kb l.length ck eb l.length ce dO bs.length di co ah.length aJ ro rs.length aM sk).toList:=λj v i=>by
  refine oF hc j v ?_;have a4:j<6:=(UB.1 i).1;simp only[jC,Array.toList_append];rw[Vx (by simpa [gG] using a4)];exact i
 show Xe _ _ Post _ ((base 53).at ⟨#[Value.func (.yield lp) #[] #[],(bS xb)]++U4 (18-2) Vl,[]⟩ [.code (.region 0 (ey Wn) Z)]) (aa::ab) w0;generalize (⟨#[Value.func (.yield lp) #[] #[],(bS xb)]++U4 (18-2) Vl,[]⟩:V7)=bj at s E;generalize R:qv (.slice (I ⟨kb,0,K⟩) l.length ck) (.slice (I ⟨eb,0,K⟩) l.length ce) (.slice dO bs.length di) (.slice co ah.length aJ) (.slice ro rs.length aM) sk=o;have a9:Value.agg (gG kb l.length ck eb l.length ce dO bs.length di co ah.length aJ ro rs.length aM sk).toList.toArray=o:=by rw[<-R];rfl
 refine qD (Ph:=λc=>decide (c<7)) (l:=FP cu xb lp o) N q8 ?_;refine kN (u:=7) N (by decide) s DE ?_ ?_ ?_
 ·intro h c g F _ _ d;have bo:c<7:=by simpa using F
  have:c=0\/c=1\/c=2\/c=3\/c=4\/c=5\/c=6:=by omega
  rcases this with rfl|rfl|rfl|rfl|rfl|rfl|rfl
  ·cases(show I _=I g from d);exact⟨_,rfl,.inl ⟨rfl,b7 Y (h.of Y) Tryz.isAgg74 (.inr A) (kJ w Y)⟩⟩
  ·cases(show I _=I g from d);exact⟨_,rfl,.inl ⟨rfl,b7 Y (h.of Y) Tryz.isAgg74 (.inr A) (kJ w Y)⟩⟩
  ·cases(show I _=I g from d);exact⟨_,rfl,.inl ⟨rfl,b7 Y (h.of Y) Tryz.isAgg74 (.inr A) (kJ w Y)⟩⟩
  ·cases(show I _=I g from d);exact⟨_,rfl,.inl ⟨rfl,cA (Gi Y (h.of Y))⟩⟩
  ·cases(show I _=I g from d);exact⟨_,rfl,.inl ⟨rfl,cA (dm (off':=0) Y (h.of Y) Tryz.underlying119 Y Tryz.sizeOf115 Y)⟩⟩
  ·cases(show I _=I g from d);exact⟨_,rfl,.inl ⟨rfl,J0 (cs:=(gG kb l.length ck eb l.length ce dO bs.length di co ah.length aJ ro rs.length aM sk).toList) Y (h.of Y) WG Y uJ (.inr S) ar a9⟩⟩
  ·cases(show I _=I g from d);exact⟨_,rfl,.inl ⟨rfl,cA (cm Y (h.of Y))⟩⟩
 ·intro g d ad be b0 b y G bx P _;have h:=s.fill (FP cu xb lp o) Y;have aw:=gH (Dn:=λc=>decide (2<=c/\c<=7)) y G Jm (λj i=>by
   have:2<=j/\j<=7:=by simpa using i
   show j<17;omega)
  have ao:b.defers=[]:=by rw[y.R8,eA];exact E
  cases(show I _=I g from d);have X:b.eval (.tmp 9)=o:=(P 9 (by decide)).trans (h.slot 9 _ Y);have U:b.eval (.tmp 10)= .func (.yield lp) #[] #[]:=(P 10 (by decide)).trans (h.slot 10 _ Y);refine sE (R:=λr=>Qt J M0 r (iY sk bs ah rs (aX l.length (ah++rs.map cG.col)) V Go 0 bs.length [] 0)) (vs:= #[o,.func (.yield lp) #[] #[]]) Y d Y Y (xK X U) Tryz.func54 R3 Y (Q6 ao) (λr f=>?_) (λr v B f bc H a7=>?_) (λr bl bi ⟨k,_⟩=>by cases k) (λr bi ⟨k,_⟩=>by cases k)
  ·have a1:=C.j9 _ _ _ r i (λb a=>f.at_ b (an b a)) f.size;rw[<-R];exact GB C q a1 (λW am ba=>hF W (λb a t _ g d al=>am b (Ue a f.size) t g ((f.at_ b a).trans d) al) (Uz f.size ba)) a5
  ·obtain⟨k,L,M,a2,bB,O⟩:=bc;cases k;generalize iY sk bs ah rs (aX l.length (ah++rs.map cG.col)) V Go 0 bs.length [] 0=p at*;have b1:=f.size;have D:∀b,b<w0.heap.size->¬M0 b->B.heap[b]? =w0.heap[b]? :=λb a t=>(a2 b (by omega) t).trans (f.at_ b a);have az:=y.Ig (l2:=Jk cu p.2.1 p.2.2) (Lc:=λc=>decide (c<13)) (n:=18) (v:=.tuple #[.int .i64 (p.2.1:Int),.int .i64 (p.2.2:Int)]) G d s.size DE Y (λj i=>by
    have:j<7:=by simpa using i
    simp;omega) Y LV (λbm av=>by cases av;rfl)
   have ap:¬L cu:=λe=>(O cu e).elim Q (λe=>by omega);refine Xe.go (own:=λb=>b<B.heap.size) ?_ (λb e=>e) a7;refine FR (n:=p.2.1) (e:=p.2.2) (n0:=n0) (e0:=e0) (qa:=o) s E (λb a=>a.elim Yr (λe=>e)) (by show xb<_;omega) (by show cu<_;omega) bd ((D xb A a6).trans w) Y ((D cu S Q).trans hc) ad be _ _ az aw ?_ λb2 b3 u n=>?_
   ·obtain⟨_,_,a0,a3,_⟩:=mem_ready G;have:=qZ (by rw[y.size];exact a0) a3;omega
   ·intro bv T m a8;have br:=u.size;have bt:=n.size;have bu:=m.size;have x:∀b,b<B.heap.size->b≠cu->T.heap[b]? =B.heap[b]? :=λb a z=>(m.at_ b a).trans ((n.at_ b (.inr a) z).trans (u.at_ b (.inr a) z));refine ae _ T ⟨rfl,⟨L,C.j9 _ _ _ _ M (λb a=>x b (C.bound _ _ _ M b a) (λk=>ap (k▸a))) (by omega),λb a=>(O b a).imp (λe=>e) (λe=>by omega)⟩,λb a t z=>(x b (by omega) z).trans (D b a t),(m.at_ cu (by show cu<_;omega)).trans n.set,by omega⟩ a8 ⟨?_,?_,?_,by omega⟩ (n9 bb _)
    ·rw[m.tape,n.tape,u.tape,H.tape,f.tape]
    ·rw[m.os,n.os,u.os,H.os,f.os]
    ·rw[m.output,n.output,u.output,H.output,f.output]
 ·intro x;exact absurd (x 16 (by decide)) (by decide)
end
end Cc
namespace Cc
open Go Go.Conc
open Ec (aE aH)
section
variable {P:Ug}{ops:Array Vv}{Q:Exit->V7->F->Prop}{i:Nat}{rest:List Nat}{o:Vv}{a:V7}{w w':F}{v:U}
def xA{rest:List Vv}(c:UG o (Vk ops a.tmps)=Z)(b:(UI a.eval o).run P w= .ok (.value v) w')(h:wpList P ops Q rest (a.put o.dst v) w'):wpList P ops Q (o::rest) a w:=by
 simp only[wpList,c,if_true]
 left
 unfold Oper.wp;rw[b];exact h
def Od{rest:List Vv}(c:UG o (Vk ops a.tmps)=Z)(b:(UI a.eval o).run P w= .ok .skip w')(h:wpList P ops Q rest (a.put o.dst Vl) w'):wpList P ops Q (o::rest) a w:=by
 simp only[wpList,c,if_true]
 left
 unfold Oper.wp;rw[b];exact h
def wD(h:wpList P ops Q ops.toList a w):wpOps P ops Q (UL ops.size) a w:=by
 rw[List.range_eq_range',<-Array.length_toList,wpOps_eq_wpList ops.toList 0 (by simp)];exact h
def EB{t e:Ui}{x:U7}{b:TypeInfo}{z:U}(j:o.op= .buildSlice t 1 #[(0,x)])(n:a.eval x=v)(m:v.cells=#[v])(l:P.underlying t=I (.slice e))(h:P.info? e=I b)(p:b.zero=I z)(r:z.cells.size=1)(c:b.size=1):(UI a.eval o).run P w= .ok (.value (.slice (I ⟨w.heap.size,0,K⟩) 1 1)) (w.alloc (.cells #[v] e)):=by
 have g:X8 (λf=>I (f*b.size,b.size)) ((Yq (1*b.size)).map (z.cells[· % z.cells.size]!)) #[(0,v)].toList=I #[v]:=by
  rw[c];simp[X8,m,Yq,Array.zipIdx];apply Array.ext
  ·simp
  ·intro f q d;simp at d;subst d;simp
 have k:=run_buildSlice (P:=P) w t e 1 #[(0,v)] #[v] b z l h p (by rw[c];decide) (by rw[c];decide) g;unfold UI;simp[j,n,k]
end
structure lN(l D rb:Nat)(r:Loop)(pre:List dz)(M:Nat->Prop)(W:F):Prop where
 st:r.state= .ready
 pn:r.pending=K
 hl:W.heap[l]? =I (.loop r)
 hD:W.heap[D]? =I (.deferred (I []))
 ex:∃(rv:U) (vs:List U),W.heap[rb]? =I (.cells #[rv] 26 (0,0))/\W.ownsRow 0 43 1 rv pre.length vs/\(∀(i:Nat) (x:dz),pre[i]? =I x->∃v,vs[i]? =I v/\v.oneCell'=Z/\W.ownsRow 0 59 3 v x.2.length (aH x.2))/\(∀(i j:Nat) v u g,vs[i]? =I v->vs[j]? =I u->v.ownBlock=I g->u.ownBlock=I g->i=j)/\∀b,M b↔b=l\/b=D\/b=rb\/I b=rv.ownBlock\/∃v∈vs,I b=v.ownBlock
def K9:∃i,(aB T5).info? 43=I i/\i.zero=I aR/\i.size=1/\i.bytes=24:=⟨Tryz.t43,by kernel_rfl,rfl,rfl,rfl⟩
def GC:((aB T5).info? 26).map (·.size)=I 1:=by kernel_rfl
def ej (fn:WD):Array Vv:=match fn.body with
 |some (.seq _ (.seq _ (.seq _ (.seq _ (.seq (.seq _ (.block _ (.rangeFunc _ _ _ (.block _ (.region _ ops _))))) _)))))=>ops
 |_=> #[]
def qN{v:U}{W:F}{base:Nat}{e:Ui}{b n:Nat}{c:List U}(h:W.ownsRow base e b v n c):v.cells=#[v]/\v.oneCell'=Z:=by
 rcases h.2 with⟨rfl,_⟩|⟨g,d,f,rfl,_⟩
 ·exact⟨rfl,rfl⟩
 ·exact⟨rfl,rfl⟩
def Nx{W:F}{a:V7}{rb n:Nat}{e v:U}{vs:List U}{Q:Exit->V7->F->Prop}(d:Knows a 40 [(14,v),(12,(bS rb))])(s:W.heap[rb]? =I (.cells #[e] 26 (0,0)))(G:W.ownsRow 0 43 1 e n vs)(ao:v.cells=#[v])(ap:v.oneCell'=Z)(az:n<=2000)
 (T:∀a' W' f,W'.heap[rb]? =I (.cells #[f] 26 (0,0))->W'.ownsRow 0 43 1 f (n+1) (vs++[v])->(∀b,b<W.heap.size->b≠rb->I b≠e.ownBlock->W'.heap[b]? =W.heap[b]?)->W.heap.size<=W'.heap.size->(∀b,I b=f.ownBlock->I b=e.ownBlock\/W.heap.size<=b)->Q .normal a' W'):wpOps (aB T5) (ej VU) Q (UL (ej VU).size) a W:=by
 obtain⟨ar,E,M,J,V⟩:=K9;have aw:rb<W.heap.size:=(Uc.1 s).1;refine wD ?_;refine xA Y ((b7 (S:=JU) (own:=λ_=>True) Y (d.of Y) (λw=>by simp) (.inr trivial) (kJ s Y) W (RelB.refl _ _)).1) ?_;replace d:=d.put (d:=30) (by decide) e;refine xA Y ((cm Y (d.of Y) W).1) ?_;replace d:=d.put (d:=31) (by decide) v;refine xA Y (EB Y (d.of Y) ao ay.underlying26 E M Y J) ?_;replace d:=d.put (d:=32) (by decide) (.slice (I ⟨W.heap.size,0,K⟩) 1 1);have z:∀c,c<W.heap.size->(W.alloc (.cells #[v] 43)).heap[c]? =W.heap[c]? :=λc h=>by
  show(W.heap.push _)[c]? =_;rw[VD,if_neg (by omega)]
 have ae:(W.alloc (.cells #[v] 43)).ownsRow 0 43 1 e n vs:=jX G (T9 _) λc _ _ h=>z c h;have aa:∀A q,[v][A]? =I q->(W.alloc (.cells #[v] 43)).cell? (Ys ⟨W.heap.size,0,K⟩ A)=I q:=λA q X=>by
  rw[Xf];unfold Ut;have:(W.alloc (.cells #[v] 43)).heap[W.heap.size]? =I (.cells #[v] 43 (0,0)):=by
   show(W.heap.push _)[W.heap.size]? =_;simp
  simp only[this,UU];simpa using X
 have L:(W.alloc (.cells #[v] 43)).heap.size=W.heap.size+1:=by simp
 refine Pk.aS (W.alloc (.cells #[v] 43)) Y _ _ 26 Y 0 43 ar aR 1 24 ay.underlying26 E M J V Y (by decide) e n vs (d.of Y) ae ⟨W.heap.size,0,K⟩ 1 1 [v] (d.of Y) (by decide) Y aa (λq m=>by simp at m;rw[m];exact ap) (by unfold Ur;omega) (by omega) (UF _) λf l y u=>?_;replace d:=d.put (d:=33) (by decide) f;have al:∀c,e.ownBlock=I c->c≠rb:=λc h k=>by
  rcases G.2 with⟨rfl,_⟩|⟨S,N,O,rfl,_,p,_⟩
  ·cases h
  ·cases h;subst k;rw[s] at p;cases p
 have D:∀b,b<W.heap.size->I b≠e.ownBlock->l.heap[b]? =W.heap[b]? :=λb j x=>by
  rcases u with⟨g,_⟩|⟨_,g⟩
  ·exact(g.block b (by omega) (by simp)).trans (z b j)
  ·exact(g.block b (by omega) x).trans (z b j)
 have a0:W.heap.size+1<=l.heap.size:=by
  rcases u with⟨g,_⟩|⟨_,g⟩
  ·rw[<-L];exact g.size
  ·rw[<-L];exact g.size
 have H:=(D rb aw (λk=>al rb k.symm Y)).trans s;obtain⟨r,ad⟩:=qN y;obtain⟨B,an,t,_⟩:=k7 (P:=aB T5) (S:=JU) (own:=λ_=>True) (a:=((((a.put (I 30) e).put (I 31) v).put (I 32) (.slice (I ⟨W.heap.size,0,K⟩) 1 1)).put (I 33) f)) (o:=(ej VU)[4]) (w:=l) (n:=rb) (off:=0) (v:=f) rfl (d.of rfl) (d.of rfl) (by rw[r];exact GC) (λq m=>by rw[r] at m;simp at m;rw[m];exact ad) (Or.inr trivial) H (by rw[r];exact T9 1) l (RelB.refl _ _);refine Od Y an ?_;have R:((#[e]:Array U).toList.take 0++f.cells.toList++(#[e]:Array U).toList.drop (0+f.cells.size)).toArray=#[f]:=by rw[r];rfl
 rw[R] at t;have av:rb<l.heap.size:=by omega
 have C:∀b:Nat,b≠rb->B.heap[b]? =l.heap[b]? :=λb j=>by rw[t.heap,UQ,if_neg (λk=>j k.symm)]
 have am:∀c,f.ownBlock=I c->c≠rb:=λc h k=>by
  rcases y.2 with⟨rfl,_⟩|⟨S,N,O,rfl,_,p,_⟩
  ·cases h
  ·cases h;subst k;rw[H] at p;cases p
 refine T _ B f (by rw[t.heap,UQ,if_pos Y,if_pos av]) (jX y (T9 _) λc h _ _=>C c (am c h)) (λb j x ab=>(C b x).trans (D b j ab)) (by rw[t.heap];simp;omega) λb j=>?_;rcases u with⟨_,g⟩|⟨g,_⟩
 ·exact .inr (by have:=(tf g j.symm).1;omega)
 ·exact .inl (by rw[<-g];exact j)
def fT (fn:WD):Array Vv:=match fn.body with
 |some (.seq _ (.seq _ (.seq _ (.seq _ (.seq (.seq _ (.block _ (.rangeFunc _ _ (.region _ a _) _))) _)))))=>a
 |_=> #[]
structure qC(r:Loop)(rb:Nat):Prop where
 ps:r.params=#[28,29]
 TK:r.assign= .region 6 (fT VU) T8
 bd:r.body= .block 1 (.region 7 (ej VU) T8)
 sz:r.tmps.size=40
 kn:r.tmps.getD 12 Vl=(bS rb)
def PW:((ej VU).toList.all λo=> !B7 o.op)=Z:=by kernel_rfl
def Nw:((fT VU).toList.all λo=> !B7 o.op)=Z:=by kernel_rfl
def xI (l D rb:Nat)(r:Loop)(pre:List dz)(b:Nat->Prop)(W:F)(nm:Nat)(d:List aE)(v:U)(W':F):Prop:=
 ∃c,lN l D rb r (pre++[(nm,d)]) c W'/\(∀a,a<W.heap.size->¬b a->I a≠v.ownBlock->W'.heap[a]? =W.heap[a]?)/\∀a,c a->b a\/I a=v.ownBlock\/W.heap.size<=a
def lN.sh{l D rb:Nat}{r:Loop}{pre:List dz}{a:Nat->Prop}{W:F}(h:lN l D rb r pre a W){W':F}(e:W'.heap=W.heap):lN l D rb r pre a W':=by
 obtain⟨g,i,j,k,u,w,m,n,o,p,q⟩:=h;refine⟨g,i,by rw[e];exact j,by rw[e];exact k,u,w,by rw[e];exact m,jX n (T9 _) (λf _ _ _=>by rw[e]),λt x s=>?_,p,q⟩;obtain⟨v,b,c,d⟩:=o t x s;exact⟨v,b,c,jX d (T9 _) (λf _ _ _=>by rw[e])⟩
def lN.keeps{l D rb:Nat}{r:Loop}{pre:List dz}{e:Nat->Prop}{W W':F}(h:lN l D rb r pre e W)(d:∀b,e b->W'.heap[b]? =W.heap[b]?):lN l D rb r pre e W':=by
 obtain⟨k,m,n,o,x,y,p,q,s,t,a⟩:=h;refine⟨k,m,(d l ((a l).2 (.inl Y))).trans n,(d D ((a D).2 (.inr (.inl Y)))).trans o,x,y,(d rb ((a rb).2 (.inr (.inr (.inl Y))))).trans p,jX q (T9 _) (λc f _ _=>d c ((a c).2 (.inr (.inr (.inr (.inl f.symm)))))),λw z u=>?_,t,a⟩;obtain⟨v,g,i,j⟩:=s w z u;exact⟨v,g,i,jX j (T9 _) (λc f _ _=>d c ((a c).2 (.inr (.inr (.inr (.inr ⟨v,VE g,f.symm⟩))))))⟩
def Kv{l D rb:Nat}{r:Loop}{pre:List dz}{E:Nat->Prop}{W t A:F}{nm:Nat}{S:List aE}{v y:U}{vs:List U}{h:U}(h1:r.state= .ready)(a4:r.pending=K)(L:W.heap[l]? =I (.loop r))(m:W.heap[D]? =I (.deferred (I [])))(ae:W.heap[rb]? =I (.cells #[h] 26 (0,0)))(M:W.ownsRow 0 43 1 h pre.length vs)
 (a5:∀(i:Nat) (x:dz),pre[i]? =I x->∃v,vs[i]? =I v/\v.oneCell'=Z/\W.ownsRow 0 59 3 v x.2.length (aH x.2)) (a6:∀(i j:Nat) v u g,vs[i]? =I v->vs[j]? =I u->v.ownBlock=I g->u.ownBlock=I g->i=j) (d:∀b,E b↔b=l\/b=D\/b=rb\/I b=h.ownBlock\/∃v∈vs,I b=v.ownBlock)
 (ao:W.ownsRow 0 59 3 v S.length (aH S)) (an:∀g,v.ownBlock=I g->¬E g)
 (a2:t.heap[rb]? =I (.cells #[y] 26 (0,0))) (g2:t.ownsRow 0 43 1 y (pre.length+1) (vs++[v])) (J:∀b,b<W.heap.size->b≠l->b≠rb->I b≠h.ownBlock->t.heap[b]? =W.heap[b]?) (br:W.heap.size<=t.heap.size) (a3:∀b,I b=y.ownBlock->I b=h.ownBlock\/W.heap.size<=b) (ad:A.heap=t.heap.setIfInBounds l (.loop r)) (bd:l≠rb) (bu:∀g,h.ownBlock=I g->g≠l) (be:∀g,y.ownBlock=I g->g≠l):xI l D rb r pre E W nm S v A:=by
 have bt:l<W.heap.size:=(Uc.1 L).1;have a7:D<W.heap.size:=(Uc.1 m).1;have z:∀b:Nat,b≠l->A.heap[b]? =t.heap[b]? :=λb e=>by rw[ad,UQ,if_neg (λa=>e a.symm)]
 have aa:D≠l:=λa=>by rw[a,L] at m;cases m
 have a0:D≠rb:=λa=>by rw[a,ae] at m;cases m
 have a1:I D≠h.ownBlock:=λa=>by
  rcases M.2 with⟨rfl,_⟩|⟨ab,aw,az,rfl,_,f,_⟩
  ·cases a
  ·cases a;rw[m] at f;cases f
 have bi:∀u q s,W.ownsRow 0 59 3 u q s->∀g,u.ownBlock=I g->g<W.heap.size/\g≠l/\g≠rb/\I g≠h.ownBlock:=λu q s c g w=>by
  rcases c.2 with⟨rfl,_⟩|⟨ab,aw,az,rfl,_,f,_⟩
  ·cases w
  ·have N:g=ab:=(by cases w;rfl);subst N;refine⟨(Uc.1 f).1,(λa=>by rw[a,L] at f;cases f),(λa=>by rw[a,ae] at f;cases f),λa=>?_⟩;rcases M.2 with⟨rfl,_⟩|⟨g2,bj,bl,rfl,_,a8,_⟩
   ·cases a
   ·have N:g=g2:=(by cases a;rfl);subst N;rw[a8] at f;cases f
 have ar:∀u q s,W.ownsRow 0 59 3 u q s->A.ownsRow 0 59 3 u q s:=λu q s c=>jX c (T9 _) λg w _ _=>by
  obtain⟨G,B,H,av⟩:=bi u q s c g w;exact(z g B).trans (J g G B H av)
 have bc:vs.length=pre.length:=by have:=M.1;simpa using this
 refine⟨λb=>b=l\/b=D\/b=rb\/I b=y.ownBlock\/∃u∈vs++[v],I b=u.ownBlock,⟨h1,a4,by rw[ad,UQ,if_pos Y,if_pos (by omega)],(z D aa).trans ((J D a7 aa a0 a1).trans m),y,vs++[v],(z rb (λa=>bd a.symm)).trans a2,?_,λi x o=>?_,λi j u T g c bb R Q=>?_,λb=>Iff.rfl⟩,λb e P bs=>?_,λb e=>?_⟩
 ·rw[Ub];exact jX g2 (T9 _) λg w _ _=>z g (be g w)
 ·rcases Vz i pre.length with O|O
  ·rw[Vx O] at o;obtain⟨u,G,B,H⟩:=a5 i x o;exact⟨u,by rw[Vx (by omega)];exact G,B,ar u _ _ H⟩
  ·rw[Vp O] at o;have al:i-pre.length=0:=by
    have:=(UB.1 o).1;simp at this;omega
   rw[al] at o;simp at o;subst o;refine⟨v,?_,(qN ao).2,ar v _ _ ao⟩;rw[Vp (by omega),bc,al];rfl
 ·have ap:∀(p:Nat) C,(vs++[v])[p]? =I C->(p<vs.length/\vs[p]? =I C)\/(p=vs.length/\C=v):=λp C n=>by
   rcases Vz p vs.length with k|k
   ·rw[Vx k] at n;exact .inl ⟨k,n⟩
   ·rw[Vp k] at n;have:p-vs.length=0:=by
     have:=(UB.1 n).1;simp at this;omega
    rw[this] at n;simp at n;exact .inr ⟨by omega,n.symm⟩
  rcases ap i u c with⟨_,V⟩|⟨bm,rfl⟩<;>rcases ap j T bb with⟨_,X⟩|⟨bo,rfl⟩
  ·exact a6 i j u T g V X R Q
  ·exact absurd ((d g).2 (.inr (.inr (.inr (.inr ⟨u,VE V,R.symm⟩))))) (an g Q)
  ·exact absurd ((d g).2 (.inr (.inr (.inr (.inr ⟨T,VE X,Q.symm⟩))))) (an g R)
  ·omega
 ·have am:b≠l:=λa=>P ((d b).2 (.inl a));have a9:b≠rb:=λa=>P ((d b).2 (.inr (.inr (.inl a))));have ba:I b≠h.ownBlock:=λa=>P ((d b).2 (.inr (.inr (.inr (.inl a)))));exact(z b am).trans (J b e am a9 ba)
 ·rcases e with rfl|rfl|rfl|e|⟨u,c,e⟩
  ·exact .inl ((d _).2 (.inl Y))
  ·exact .inl ((d _).2 (.inr (.inl Y)))
  ·exact .inl ((d _).2 (.inr (.inr (.inl Y))))
  ·rcases a3 b e with k|k
   ·exact .inl ((d b).2 (.inr (.inr (.inr (.inl k)))))
   ·exact .inr (.inr k)
  ·rcases U2.1 c with c|c
   ·exact .inl ((d b).2 (.inr (.inr (.inr (.inr ⟨u,c,e⟩)))))
   ·simp at c;subst c;exact .inr (.inl e)
def Ku{l D rb:Nat}{r:Loop}{pre:List dz}{A:Nat->Prop}{W:F}{nm:Nat}{P:List aE}{v:U}(o:qC r rb)(av:lN l D rb r pre A W)(bm:pre.length<2000)(N:W.ownsRow 0 59 3 v P.length (aH P))(a3:∀g,v.ownBlock=I g->¬A g)(c:Uu)(cs:List Uu)(f:Tp):
 ∃W',xI l D rb r pre A W nm P v W'/\Steps (aB T5) (lone (WZ l r.fn ((r.params.zip #[.int .i64 (nm:Int),v]).foldl (λtmps (t,a)=>tmps.setIfInBounds t a) r.tmps) r.assign r.body .normal) (c::cs) (sh f 0 W)) (lone (c.finish (.bool Z)) cs W'):=by
 obtain⟨w,H,k,an,Q,ad,J,L,ao,ap,ar⟩:=av;let b:Uu:={(default:Uu) with fn:=r.fn,kind:=.normal,roundOf:=I l};let p:V7:={tmps:=(r.params.zip #[.int .i64 (nm:Int),v]).foldl (λtmps (t,a)=>tmps.setIfInBounds t a) r.tmps,defers:=[]};have aw:WZ l r.fn ((r.params.zip #[.int .i64 (nm:Int),v]).foldl (λtmps (t,a)=>tmps.setIfInBounds t a) r.tmps) r.assign r.body .normal=b.atR p [.code r.assign,.beginRound,.code r.body]:=by
  simp[WZ,Frame.atR,b,p]
 have O:l≠rb:=λd=>by rw[d,J] at k;cases k
 have a1:l<W.heap.size:=(Uc.1 k).1;have x:∀g,Q.ownBlock=I g->g≠l:=λg n d=>by
  rcases L.2 with⟨rfl,_⟩|⟨al,bj,bl,rfl,_,T,_⟩
  ·cases n
  ·have a0:g=al:=(by cases n;rfl);subst a0;rw[d,k] at T;cases T
 have y:Knows p 40 [(29,v),(12,(bS rb))]:=by
  have d:p.tmps=(r.tmps.setIfInBounds 28 (.int .i64 (nm:Int))).setIfInBounds 29 v:=by
   show(r.params.zip #[.int .i64 (nm:Int),v]).foldl (λtmps (t,a)=>tmps.setIfInBounds t a) r.tmps=_;rw[o.ps];simp
  refine Knows.cons (Knows.cons (l:=[]) ⟨?_,λs v e=>by simp at e⟩ ?_) ?_
  ·rw[d];simp[o.sz]
  ·unfold aV;rw[d,UE,UQ,if_neg (by decide),UQ,if_neg (by decide),<-UE];exact o.kn
  ·unfold aV;rw[d,UE,UQ,if_pos Y,if_pos (by simp[o.sz])];rfl
 rw[aw,o.TK,o.bd];generalize p=a at y;have a7:=stepR_region (P:=aB T5) (b:=b) (a:=a) (k:=[.beginRound,.code (.block 1 (.region 7 (ej VU) T8))]) (cs:=c::cs) (w:=sh f 0 W) (ops:=fT VU) (id:=6);obtain⟨bi,bo,⟨rfl,rfl⟩,X⟩:=QG (P0:=aB T5) (b:=b) (k:=[.beginRound,.code (.block 1 (.region 7 (ej VU) T8))]) (cs:=c::cs) (ops:=fT VU) (Q:=λd B bd=>match d with| .normal=>B=a.put (I 14) v/\bd=sh f 0 W|_=>False) [] Nw (λ_ _ _ e=>e) (fun⟨_,_,e⟩=>e) (UL (fT VU).size) a (sh f 0 W) (wD (xA rfl ((kG rfl (y.of rfl) (sh f 0 W)).1) ⟨rfl,rfl⟩));rw[Ws] at X;have a8:=stepR_region_end (P:=aB T5) (b:=b) (a:=a.put (I 14) v) (k:=[.beginRound,.code (.block 1 (.region 7 (ej VU) T8))]) (cs:=c::cs) (w:=sh f 0 W) (ops:=fT VU);have m:=run_beginRound (P:=aB T5) (w:=sh f 0 W) (l:=l) (r:=r) k w;have aa:=stepR_beginRound (P:=aB T5) (b:=b) (a:=a.put (I 14) v) (k:=[.code (.block 1 (.region 7 (ej VU) T8))]) (cs:=c::cs) (w:=sh f 0 W) Y m;generalize M:(sh f 0 W).putObj l (.loop {r with state:=.busy})=h at aa;have R:∀b:Nat,b≠l->h.heap[b]? =W.heap[b]? :=λb m=>by rw[<-M];exact World.putObj_heap_other (w:=sh f 0 W) m
 have be:h.heap[l]? =I (.loop {r with state:=.busy}):=by rw[<-M];exact World.putObj_heap_same (w:=sh f 0 W) a1
 have br:h.heap.size=W.heap.size:=by rw[<-M];exact World.putObj_size (w:=sh f 0 W)
 have a9:=stepR_block (P:=aB T5) (b:=b) (a:=a.put (I 14) v) (k:=[]) (cs:=c::cs) (w:=h) (id:=1) (c:=.region 7 (ej VU) T8);have ba:=stepR_region (P:=aB T5) (b:=b) (a:=a.put (I 14) v) (k:=[.inBlock 1]) (cs:=c::cs) (w:=h) (ops:=ej VU) (id:=7);have z:=y.put (d:=14) (by decide) v;obtain⟨C,j,⟨i,E,G,q,S,u⟩,ab⟩:=QG (P0:=aB T5) (b:=b) (k:=[.inBlock 1]) (cs:=c::cs) (ops:=ej VU) (Q:=λd B W'=>match d with| .normal=>∃i,W'.heap[rb]? =I (.cells #[i] 26 (0,0))/\W'.ownsRow 0 43 1 i (pre.length+1) (ad++[v])/\(∀b,b<h.heap.size->b≠rb->I b≠Q.ownBlock->W'.heap[b]? =h.heap[b]?)/\h.heap.size<=W'.heap.size/\(∀b,I b=i.ownBlock->I b=Q.ownBlock\/h.heap.size<=b)|_=>False) [] PW (λ_ _ _ e=>e) (fun⟨_,_,e⟩=>e) (UL (ej VU).size) (a.put (I 14) v) h (Nx (n:=pre.length) (vs:=ad) ((z.nil.cons (z.slot 12 _ rfl)).cons (z.slot 14 _ rfl)) ((R rb (λd=>O d.symm)).trans J) (jX L (T9 _) λg n _ _=>R g (x g n)) (qN N).1 (qN N).2 (by omega) λB W' i E G q S u=>⟨i,E,G,q,S,u⟩);rw[Ws] at ab;have a6:∀g,i.ownBlock=I g->g≠l:=λg n d=>by
  rcases u g n.symm with e|e
  ·exact x g e.symm d
  ·omega
 have am:j.heap[l]? =I (.loop {r with state:=.busy}):=(q l (by omega) O (λd=>x l d.symm Y)).trans be;have bb:=stepR_region_end (P:=aB T5) (b:=b) (a:=C) (k:=[.inBlock 1]) (cs:=c::cs) (w:=j) (ops:=ej VU);have bc:=stepR_inBlock (P:=aB T5) (b:=b) (a:=C) (k:=[]) (cs:=c::cs) (w:=j) (id:=1);have az:=run_endRound (P:=aB T5) (w:=j) (l:=l) (r:={r with state:=.busy}) K am;have V:=stepR_round_end (P:=aB T5) (b:=b) (a:=C) (cs:=cs) (w:=j) (c:=c) Y Y az;have ae:({({r with state:=.busy}:Loop) with state:=if (K:Option WX).isNone then .ready else .done,pending:=K}:Loop)=r:=by
  obtain⟨bs,bt,bu,bv,bx,bA,bB,b0⟩:=r;simp only at w H;subst w H;rfl
 rw[ae] at V;refine⟨j.putObj l (.loop r),Kv w H k an J L ao ap ar N a3 E G (λb m a2 a4 a5=>(q b (by omega) a4 a5).trans (R b a2)) (by omega) (λb m=>(u b m).imp (λe=>e) (λe=>by omega)) Y O x a6,?_⟩;exact .head a7 (X.trans (.head a8 (.head aa (.head a9 (.head ba (ab.trans (.head bb (.head bc (.one V)))))))))
def Bl:bn (aB T5) Z (.region 6 (fT VU) T8)=Z/\bn (aB T5) Z (.block 1 (.region 7 (ej VU) T8))=Z:=⟨by kernel_rfl,by kernel_rfl⟩
def zm{r:Loop}{rb:Nat}(b:qC r rb)(c:r.pending=K):bk (aB T5) (.loop r):=⟨by rw[b.TK];exact Bl.1,by rw[b.bd];exact Bl.2,λd a=>by rw[c] at a;cases a⟩
def Cg{P0:Ug}{ws w:F}{base:Nat}{e:Ui}{b:Nat}{v:U}{n:Nat}{c:List U}(l:Mk P0 ws w)(h:w.ownsRow base e b v n c):ws.ownsRow base e b v n c:=by
 obtain⟨a,h|⟨g,d,f,rfl,i,j,k⟩⟩:=h
 ·exact⟨a,.inl h⟩
 ·exact⟨a,.inr ⟨g,d,f,rfl,i,l.un.row.2 j,k⟩⟩
def lN.Ri{l D rb:Nat}{r:Loop}{pre:List dz}{b:Nat->Prop}{W ws:F}(h:lN l D rb r pre b W)(s:qC r rb)(a:Mk (aB T5) ws W):lN l D rb r pre b ws:=by
 obtain⟨g,c,i,j,w,x,k,m,n,o,p⟩:=h;refine⟨g,c,a.at_ l _ i (zm s c),a.at_ D _ j (λz q=>by cases q),w,x,a.un.row.2 k,Cg a m,λu y t=>?_,o,p⟩;obtain⟨v,d,e,f⟩:=n u y t;exact⟨v,d,e,Cg a f⟩
def lN.RN{l D rb:Nat}{r:Loop}{pre:List dz}{b:Nat->Prop}{W u:F}(h:lN l D rb r pre b W)(y:qC r rb)(a:Un W u):lN l D rb r pre b u:=by
 obtain⟨f,g,i,j,t,w,k,m,n,o,p⟩:=h;refine⟨f,g,a.o i (by simp[pz]),a.o j (by simp[pz]),t,w,a.row.1 k,Ch a m,λs x q=>?_,o,p⟩;obtain⟨v,c,d,e⟩:=n s x q;exact⟨v,c,d,Ch a e⟩
def Kt{Post:U->F->Prop}{l D rb:Nat}{r:Loop}(e:qC r rb):Cons (aB T5) T5 Post l (lN l D rb r) (λ_=>Z):=by
 refine⟨λpre h f q j m _=>j.keeps m,λpre h f j c a=>?_,λpre h f A an v k T _ _ ae V=>?_⟩
 ·obtain⟨w,d,H,I,a4,ao,J,x,K,aw,L⟩:=j;have a1:ao.length=pre.length:=by have:=x.1;simpa using this
  rcases(L c).1 a with rfl|rfl|rfl|a|⟨a6,ad,a⟩
  ·exact(Uc.1 H).1
  ·exact(Uc.1 I).1
  ·exact(Uc.1 J).1
  ·exact(tf x a.symm).2
  ·obtain⟨p,R,rfl⟩:=List.mem_iff_getElem.1 ad;obtain⟨a7,t,_,G⟩:=K p pre[p] (Uo (by omega));rw[Uo R] at t;cases t;exact(tf G a.symm).2
 ·refine⟨r,k.hl,zm e k.pn,by rw[e.ps];rfl,λi ap az X a0 O ab=>?_⟩;obtain⟨B,b⟩:=D7 (aB T5) f;have N:=k.Ri e b;have al:=Cg b ae;refine sY (aF:=[i]) cW (Stop:=λu aF g=>aF=[]/\u=i.finish (.bool Z)/\xI l D rb r pre h B A an v g) (λu aF g n=>?_) ab b.hp b.un (λC=>?_) (λav a5 g u2 n W d aa=>?_)
  ·obtain⟨_,rfl,_⟩:=n;rintro⟨_,s,z⟩;rcases X.2 with⟨a2,p,a3,am,o⟩|⟨l,am,o⟩
   ·simp[VX,o] at z
   ·simp[VX,o] at z
  ·obtain⟨q,w,d⟩:=Ku (nm:=A) e N T al V i [bF] C;exact⟨_,[],q,d,rfl,rfl,w⟩
  ·obtain⟨C,ar,rfl,rfl,E,M,S,Q⟩:=n;have y:B.heap.size=f.heap.size:=b.un.size.symm;refine O _ u2 ⟨rfl,E,(M.sh (W':=g) Y).RN e d.un,λc a m P=>d.same b.un (S c (by rw[y];exact a) m P),λc a=>?_⟩ trivial aa W;rw[<-y];exact Q c a
end Cc
namespace Ec
open Go.RowKit Pk Pm
def cY (n:Nat)(k:Int):Bool:=decide (0<=k)&&decide (k<(n:Int))
def jE{W:F}{g:Nat}{a b c d e f:U}{t:Ui}(h:W.heap[g]? =I (.cells #[a,b,c,d,e,f] t (0,0))):W.cell? ⟨g,0,K⟩=I a/\W.cell? ⟨g,1,K⟩=I b/\W.cell? ⟨g,2,K⟩=I c/\W.cell? ⟨g,3,K⟩=I d/\W.cell? ⟨g,4,K⟩=I e/\W.cell? ⟨g,5,K⟩=I f:=by
 unfold Ut;simp[h]
def yx(n:Nat)(ah:List Int)(rs:List cG)(o:Option UK)(m:Nat)(b c:U)(co:Option UK)(cb bD aJ:Nat)(ro:Option UK)(rb bg aM:Nat)(sk:Bool)(w:F)(a0:ah.length<=Ur)(a1:rs.length<=Ur)
 (ao:0<ah.length->co=I ⟨cb,bD,K⟩) (av:0<ah.length->cb<w.heap.size) (ar:∀j,j<ah.length->bU w cb (bD+j) (.int .i64 (ah.getD j 0))) (l:dD w ro rb bg rs):
 bG 68 #[qv (.slice o n m) b c (.slice co ah.length aJ) (.slice ro rs.length aM) sk] w λe w'=>∃bb,e= .returned (.bool bb)/\(bb=Z↔(∀i (h:i<ah.length),cY n ah[i]=Z)/\∀i (h:i<rs.length),cY n rs[i].col=Z)/\aP w w':=by
 unfold qv;unfold Ur at a0 a1;have B:=λa am=>Ag o n m b c (.slice co ah.length aJ) (.slice ro rs.length aM) sk a am;unfold qv at B;have Y:=af ao;have ab:=af av;have aa:=af ar;have al:=af l;have V:X (aP w (w.alloc (.cells #[.slice o n m,b,c,.slice co ah.length aJ,.slice ro rs.length aM,.bool sk] 115))):=(Uq _ _).alloc (T9 _) _;have r:X ((w.alloc (.cells #[.slice o n m,b,c,.slice co ah.length aJ,.slice ro rs.length aM,.bool sk] 115)).heap[w.heap.size]? =I (.cells #[.slice o n m,b,c,.slice co ah.length aJ,.slice ro rs.length aM,.bool sk] 115 (0,0))):=iW _ _;go_enter ay.func68,Tryz.ntmps68
 go_wp2_with fail
 go_loopw [10] (λi wr=>∃a:Nat,a<=ah.length/\i= .int .i64 (a:Int)/\(∀i (h:i<ah.length),i<a->cY n ah[i]=Z)/\wr.heap[w.heap.size]? =I (.cells #[.slice o n m,b,c,.slice co ah.length aJ,.slice ro rs.length aM,.bool sk] 115 (0,0))/\aP w wr) (λi _=>ah.length-(UT i).toNat)
 case atStart=>exact⟨0,UF _,rfl,λa9 _ h=>by omega,r.o,V.o⟩
 case round=>
  obtain⟨a,az,rfl,J,z,u⟩:=hrel;have v:=af u;have r:=af z;have x:=af J;have A:=u.size;obtain⟨ba,bc,bd,be,bi,bj⟩:=jE z;by_cases N:a<ah.length
  ·obtain rfl:=Y.o (by omega);have ap:=ab.o (by omega);have S:bU wr cb (bD+a) (.int .i64 (ah.getD a 0)):=(u.cell (p:=⟨cb,bD+a,K⟩) ap).trans (aa.o a N);have aw:ah.getD a 0=ah[a]:=by rw[Uj,Uo N];rfl
   rw[aw] at S;have D:X (cY n ah[a]=T8->¬((∀i (h:i<ah.length),cY n ah[i]=Z)/\∀i (h:i<rs.length),cY n rs[i].col=Z)):=λh L=>by
    have:=L.1 a N;rw[h] at this;cases this
   have G:X (cY n ah[a]=Z->∀i (h:i<ah.length),i<a+1->cY n ah[i]=Z):=λh i M an=>by
    by_cases e:i=a
    ·subst e;exact h
    ·exact x.o i M (by omega)
   generalize ah[a]=d at*;have k:=B d;have O:cY n d=(decide (0<=d)&&decide (d<(n:Int))):=rfl;rw[<-O] at k;cases p:cY n d
   ·rw[p] at k;have E:X (¬((∀i (h:i<ah.length),cY n ah[i]=Z)/\∀i (h:i<rs.length),cY n rs[i].col=Z)):=D.o p
    go_wp2_with (go_at_call 106;refine(k _).mono ?_;rintro e w' ⟨rfl,q⟩;have t:X (aP w w'):=v.o.trans (q.mono A))
    go_ret;exact⟨T8,rfl,by simp only[UC,false_iff];exact E.o,t.o⟩
   ·rw[p] at k;have H:X (∀i (h:i<ah.length),i<a+1->cY n ah[i]=Z):=G.o p
    go_wp2_with (go_at_call 106;refine(k _).mono ?_;rintro e w' ⟨rfl,q⟩;have t:X (aP w w'):=v.o.trans (q.mono A);have y:X (w'.heap[w.heap.size]? =I (.cells #[.slice o n m,b,c,.slice (I ⟨cb,bD,K⟩) ah.length aJ,.slice ro rs.length aM,.bool sk] 115 (0,0))):=(q.block _ (Uf r.o)).trans r.o)
    go_roundw
    case rel=>exact⟨a+1,by omega,by go_num,H.o,y.o,t.o⟩
    case measure=>simp[UT];omega
  ·have ad:X (∀i (h:i<ah.length),cY n ah[i]=Z):=λi h=>x.o i h (by omega)
   go_wp2_with fail
   go_loopw [22] (λi T=>∃a:Nat,a<=rs.length/\i= .int .i64 (a:Int)/\(∀i (h:i<rs.length),i<a->cY n rs[i].col=Z)/\T.heap[w.heap.size]? =I (.cells #[.slice o n m,b,c,.slice co ah.length aJ,.slice ro rs.length aM,.bool sk] 115 (0,0))/\aP w T) (λi _=>rs.length-(UT i).toNat)
   case atStart=>exact⟨0,UF _,rfl,λa9 _ h=>by omega,r.o,v.o⟩
   case round=>
    obtain⟨a,az,rfl,J,z,u⟩:=hrel;have v:=af u;have r:=af z;have x:=af J;have A:=u.size;by_cases s:a<rs.length
    ·have l:=al.o.below u;obtain rfl:=l.addr (by omega);have a2:=l.c0 a s;have a3:=l.c1 a s;have a4:=l.c2 a s;have a5:=l.c3 a s;have a6:=l.c4 a s;have a7:=l.c5 a s;have a8:=l.c6 a s;have D:X (cY n rs[a].col=T8->¬((∀i (h:i<ah.length),cY n ah[i]=Z)/\∀i (h:i<rs.length),cY n rs[i].col=Z)):=λh L=>by
      have:=L.2 a s;rw[h] at this;cases this
     have G:X (cY n rs[a].col=Z->∀i (h:i<rs.length),i<a+1->cY n rs[i].col=Z):=λh i M an=>by
      by_cases e:i=a
      ·subst e;exact h
      ·exact x.o i M (by omega)
     generalize rs[a]=bl at*;obtain⟨d,g,f⟩:=bl;dsimp only at a2 a3 a4 a5 a6 a7 a8
     go_upto_region 10 with fail
     obtain⟨S,br,bs,bt,bu,bv,bx⟩:=jN (iW wr (.cells #[.int .i64 d,.bool g.null,.int .i64 g.n,.string g.s,.bool f.null,.int .i64 f.n,.string f.s] 61));have P:aP wr (wr.alloc (.cells #[.int .i64 d,.bool g.null,.int .i64 g.n,.string g.s,.bool f.null,.int .i64 f.n,.string f.s] 61)):=(Uq _ _).alloc (T9 _) _;have Q:=(P.block _ (Uf r.o)).trans r.o;obtain⟨ba,bc,bd,be,bi,bj⟩:=jE Q;have y:=af Q;have C:X (aP w (wr.alloc (.cells #[.int .i64 d,.bool g.null,.int .i64 g.n,.string g.s,.bool f.null,.int .i64 f.n,.string f.s] 61))):=v.o.trans (P.mono A);generalize wr.alloc (.cells #[.int .i64 d,.bool g.null,.int .i64 g.n,.string g.s,.bool f.null,.int .i64 f.n,.string f.s] 61)=bm at*;generalize wr.heap.size=bo at*;have k:=B d;have O:cY n d=(decide (0<=d)&&decide (d<(n:Int))):=rfl;rw[<-O] at k;have R:=C.o.size;cases p:cY n d
     ·rw[p] at k;have E:X (¬((∀i (h:i<ah.length),cY n ah[i]=Z)/\∀i (h:i<rs.length),cY n rs[i].col=Z)):=D.o p
      go_wp2_with (go_at_call 106;refine(k _).mono ?_;rintro e w' ⟨rfl,q⟩;have t:X (aP w w'):=C.o.trans (q.mono R))
      go_ret;exact⟨T8,rfl,by simp only[UC,false_iff];exact E.o,t.o⟩
     ·rw[p] at k;have H:X (∀i (h:i<rs.length),i<a+1->cY n rs[i].col=Z):=G.o p
      go_wp2_with (go_at_call 106;refine(k _).mono ?_;rintro e w' ⟨rfl,q⟩;have t:X (aP w w'):=C.o.trans (q.mono R);have W:X (w'.heap[w.heap.size]? =I (.cells #[.slice o n m,b,c,.slice co ah.length aJ,.slice (I ⟨rb,bg,K⟩) rs.length aM,.bool sk] 115 (0,0))):=(q.block _ (Uf y.o)).trans y.o)
      go_roundw
      case rel=>exact⟨a+1,by omega,by go_num,H.o,W.o,t.o⟩
      case measure=>simp[UT];omega
    ·have ae:X ((∀i (h:i<ah.length),cY n ah[i]=Z)/\∀i (h:i<rs.length),cY n rs[i].col=Z):=⟨ad.o,λi h=>x.o i h (by omega)⟩;go_wp2;go_ret;exact⟨Z,rfl,by simp only[true_iff];exact ae.o,v.o⟩
structure Hy(w:F)(kb n:Nat)(c k:Int):Prop where
 ex:∃j:Nat,c=(j:Int)/\j<n/\kb<w.heap.size/\w.cell? ⟨kb,j*2+1,K⟩=I (.int .i64 k)/\(k=1\/k=2\/k=3)
def Hy.below{w w':F}{kb n:Nat}{c k:Int}(h:Hy w kb n c k)(a:aP w w'):Hy w' kb n c k:=by
 obtain⟨b,d,e,f,g,i⟩:=h.ex;have j:=a.size;exact⟨b,d,e,by omega,(a.cell (p:=⟨kb,b*2+1,K⟩) f).trans g,i⟩
def iX (kd:Int)(r:cG):Bool:=fR r.low kd&&fR r.high kd
def Ai(n:Nat)(rs:List cG)(kd:Int->Int)(kb m:Nat)(b c d:U)(ro:Option UK)(rb bg aM:Nat)(sk:Bool)(w:F)(bd:rs.length<=Ur)(be:n<=Ur)(k:dD w ro rb bg rs)(ao:∀r∈rs,Hy w kb n r.col (kd r.col)):
 bG 69 #[qv (.slice (I ⟨kb,0,K⟩) n m) b c d (.slice ro rs.length aM) sk] w λe w'=>∃bb,e= .returned (.bool bb)/\(bb=Z↔∀i (h:i<rs.length),iX (kd rs[i].col) rs[i]=Z)/\aP w w':=by
 unfold qv;unfold Ur at bd be;have R:=af k;have Q:=af ao;have ab:X (aP w (w.alloc (.cells #[.slice (I ⟨kb,0,K⟩) n m,b,c,d,.slice ro rs.length aM,.bool sk] 115))):=(Uq _ _).alloc (T9 _) _;have t:X ((w.alloc (.cells #[.slice (I ⟨kb,0,K⟩) n m,b,c,d,.slice ro rs.length aM,.bool sk] 115)).heap[w.heap.size]? =I (.cells #[.slice (I ⟨kb,0,K⟩) n m,b,c,d,.slice ro rs.length aM,.bool sk] 115 (0,0))):=iW _ _;clear k ao;go_enter ay.func69,Tryz.ntmps69
 go_wp2_with fail
 go_loopw [9] (λi wr=>∃a:Nat,a<=rs.length/\i= .int .i64 (a:Int)/\(∀i (h:i<rs.length),i<a->iX (kd rs[i].col) rs[i]=Z)/\wr.heap[w.heap.size]? =I (.cells #[.slice (I ⟨kb,0,K⟩) n m,b,c,d,.slice ro rs.length aM,.bool sk] 115 (0,0))/\aP w wr) (λi _=>rs.length-(UT i).toNat)
 case atStart=>exact⟨0,UF _,rfl,λbB _ h=>by omega,t.o,ab.o⟩
 case round=>
  clear t ab;obtain⟨a,bt,rfl,an,W,y⟩:=hrel;have O:=af y;have t:=af W;have G:=af an;have ap:=y.size;clear an;by_cases o:a<rs.length
  ·have k:=R.o.below y;obtain rfl:=k.addr (by omega);have ar:=k.c0 a o;have av:=k.c1 a o;have aw:=k.c2 a o;have az:=k.c3 a o;have a0:=k.c4 a o;have a1:=k.c5 a o;have a2:=k.c6 a o;obtain⟨p,ae,a9,al,am,V⟩:=((Q.o rs[a] (Uk o)).below y).ex;have C:X (iX (kd rs[a].col) rs[a]=T8->¬∀i (h:i<rs.length),iX (kd rs[i].col) rs[i]=Z):=λh ba=>by
    have:=ba a o;rw[h] at this;cases this
   have L:X (iX (kd rs[a].col) rs[a]=Z->∀i (h:i<rs.length),i<a+1->iX (kd rs[i].col) rs[i]=Z):=λh i bc br=>by
    by_cases e:i=a
    ·subst e;exact h
    ·exact G.o i bc (by omega)
   clear y k G R Q W;generalize rs[a]=a6 at*;generalize kd a6.col=v at*;obtain⟨b6,g,f⟩:=a6;dsimp only at ae ar av aw az a0 a1 a2;subst ae
   go_upto_region 4 with fail
   obtain⟨bu,bv,bx,bA,a3,a4,a5⟩:=jN (iW wr (.cells #[.int .i64 (p:Int),.bool g.null,.int .i64 g.n,.string g.s,.bool f.null,.int .i64 f.n,.string f.s] 61));have M:aP wr (wr.alloc (.cells #[.int .i64 (p:Int),.bool g.null,.int .i64 g.n,.string g.s,.bool f.null,.int .i64 f.n,.string f.s] 61)):=(Uq _ _).alloc (T9 _) _;have bo:=(M.cell (p:=⟨kb,p*2+1,K⟩) al).trans am;have Y:=(M.block _ (Uf t.o)).trans t.o;obtain⟨b0,b1,b2,b3,b4,b5⟩:=jE Y;have J:=af Y;have H:X (aP w (wr.alloc (.cells #[.int .i64 (p:Int),.bool g.null,.int .i64 g.n,.string g.s,.bool f.null,.int .i64 f.n,.string f.s] 61))):=O.o.trans (M.mono ap);have z:wr.heap.size<(wr.alloc (.cells #[.int .i64 (p:Int),.bool g.null,.int .i64 g.n,.string g.s,.bool f.null,.int .i64 f.n,.string f.s] 61)).heap.size:=by simp
   clear M ar av aw az a0 a1 a2 Y t O ap al am;generalize wr.alloc (.cells #[.int .i64 (p:Int),.bool g.null,.int .i64 g.n,.string g.s,.bool f.null,.int .i64 f.n,.string f.s] 61)=bm at*;generalize wr.heap.size=x at*;have bs:(p:Int)<(n:Int):=by omega
   have q:=λT=>qI g v T V;have A:=λT=>qI f v T V;have l:iX v ⟨(p:Int),g,f⟩=(fR g v&&fR f v):=rfl;have aa:=H.o.size;clear V a9;cases D:fR g v
   ·rw[D] at q l;have S:X (¬∀i (h:i<rs.length),iX (kd rs[i].col) rs[i]=Z):=C.o l;clear C L l D A
    go_wp2_with (go_at_call 82;refine(q _).mono ?_;rintro e w' ⟨rfl,j⟩;have s:X (aP w w'):=H.o.trans (j.mono aa);clear j)
    go_ret;exact⟨T8,rfl,by simp only[UC,false_iff];exact S.o,s.o⟩
   ·rw[D] at q l;cases N:fR f v
    ·rw[N] at A l;have S:X (¬∀i (h:i<rs.length),iX (kd rs[i].col) rs[i]=Z):=C.o l;clear C L l D N
     go_wp2_with (first|(go_at_call 82;refine(q _).mono ?_;rintro e w' ⟨rfl,j⟩;have s:X (aP w w'):=H.o.trans (j.mono aa);have bi:=(j.cell (p:=⟨x,4,K⟩) z).trans a3;have bj:=(j.cell (p:=⟨x,5,K⟩) z).trans a4;have bl:=(j.cell (p:=⟨x,6,K⟩) z).trans a5;have B:X (w'.heap[w.heap.size]? =I (.cells #[.slice (I ⟨kb,0,K⟩) n m,b,c,d,.slice (I ⟨rb,bg,K⟩) rs.length aM,.bool sk] 115 (0,0))):=(j.block _ (Uf J.o)).trans J.o;clear j q)|(go_at_call 82;refine(A _).mono ?_;rintro e E ⟨rfl,u⟩;have P:X (aP w E):=s.o.trans (u.mono (by have:=s.o.size;omega));have ad:X (E.heap[w.heap.size]? =I (.cells #[.slice (I ⟨kb,0,K⟩) n m,b,c,d,.slice (I ⟨rb,bg,K⟩) rs.length aM,.bool sk] 115 (0,0))):=(u.block _ (Uf B.o)).trans B.o;clear u))
     go_ret;exact⟨T8,rfl,by simp only[UC,false_iff];exact S.o,P.o⟩
    ·rw[N] at A l;have a8:X (∀i (h:i<rs.length),i<a+1->iX (kd rs[i].col) rs[i]=Z):=L.o l;clear C L l D N
     go_wp2_with (first|(go_at_call 82;refine(q _).mono ?_;rintro e w' ⟨rfl,j⟩;have s:X (aP w w'):=H.o.trans (j.mono aa);have bi:=(j.cell (p:=⟨x,4,K⟩) z).trans a3;have bj:=(j.cell (p:=⟨x,5,K⟩) z).trans a4;have bl:=(j.cell (p:=⟨x,6,K⟩) z).trans a5;have B:X (w'.heap[w.heap.size]? =I (.cells #[.slice (I ⟨kb,0,K⟩) n m,b,c,d,.slice (I ⟨rb,bg,K⟩) rs.length aM,.bool sk] 115 (0,0))):=(j.block _ (Uf J.o)).trans J.o;clear j q)|(go_at_call 82;refine(A _).mono ?_;rintro e E ⟨rfl,u⟩;have P:X (aP w E):=s.o.trans (u.mono (by have:=s.o.size;omega));have ad:X (E.heap[w.heap.size]? =I (.cells #[.slice (I ⟨kb,0,K⟩) n m,b,c,d,.slice (I ⟨rb,bg,K⟩) rs.length aM,.bool sk] 115 (0,0))):=(u.block _ (Uf B.o)).trans B.o;clear u))
     go_roundw
     case rel=>exact⟨a+1,by omega,by go_num,a8.o,ad.o,P.o⟩
     case measure=>simp[UT];omega
  ·have a7:X (∀i (h:i<rs.length),iX (kd rs[i].col) rs[i]=Z):=λi h=>G.o i h (by omega);clear G R Q y W t;go_wp2;go_ret;exact⟨Z,rfl,by simp only[true_iff];exact a7.o,O.o⟩
def ay.Ms:((aB T5).info? 61).map (λi=>(i.zero,i.size,i.bytes))=I (I (.agg #[.int .i64 0,.bool T8,.int .i64 0,.string ⟨#[]⟩,.bool T8,.int .i64 0,.string ⟨#[]⟩]),7,72):=by kernel_rfl
def ay.O1:((aB T5).info? 3).map (λi=>(i.zero,i.size,i.bytes))=I (I (.int .i64 0),1,8):=by kernel_rfl
def z7(l:List Int)(s:Option UK)(b off cap:Nat)(w:F)(L:l.length<=1000)(t:0<l.length->s=I ⟨b,off,K⟩)(hc:∀j u,(bw l)[j]? =I u->w.cell? ⟨b,off+j,K⟩=I u):
 bG 70 #[.slice s l.length cap] w λe w'=>aP w w'/\((l.length=0/\∃co,e= .returned (.slice co 0 0))\/(0<l.length/\∃v,e= .returned v/\w'.ownsRow w.heap.size 3 1 v l.length (bw l))):=by
 obtain⟨D,B,N,C,O⟩:=Vg ay.O1;have h:aP w (w.alloc (.cells #[] 3)):=(Uq _ _).alloc (T9 _) _;have p:(w.alloc (.cells #[] 3)).ownsRow w.heap.size 3 1 (.slice (I ⟨w.heap.size,0,K⟩) 0 0) 0 []:=⟨rfl,.inr ⟨w.heap.size,0,#[],rfl,T9 _,iW _ _,T9 _,UF _,rfl,rfl⟩⟩;have P:∀(n:UK) (m g:Nat) (a:F),(binOp .eql 22 (.slice (I n) m g) aR).run (aB T5) a= .ok (.bool T8) a:=λn m g a=>by simp only[binOp];simp[run_equal_slice_nil a 22 3 _ _ _ ay.underlying22]
 have Q:∀(m g:Nat) (a:F),(binOp .eql 22 (.slice K m g) aR).run (aB T5) a= .ok (.bool Z) a:=λm g a=>by simp only[binOp];simp[run_equal_slice_nil a 22 3 _ _ _ ay.underlying22]
 by_cases o:0<l.length
 ·obtain rfl:=t o;have z:X (∀j u,(bw l)[j]? =I u->(w.alloc (.cells #[] 3)).cell? (Ys ⟨b,off,K⟩ j)=I u):=λj u J=>by
   rw[Xf];have d:=hc j u J;have H:b<w.heap.size:=by
    unfold Ut at d;rcases Vz b w.heap.size with c|c
    ·exact c
    ·simp[Vm c] at d
   exact(h.cell (p:=⟨b,off+j,K⟩) H).trans d
  have A:X (∀u∈bw l,u.oneCell'=Z):=λu M=>by obtain⟨S,_,rfl⟩:=U8.1 M;rfl
  have r:X ((bw l).length=l.length*1):=by show _=_;simp[bw]
  have f:=af h;clear hc h t;go_enter ay.func70,Tryz.ntmps70
  go_wp2_with (at_builtin;refine aS _ Y _ _ 22 Y w.heap.size 3 D (.int .i64 0) 1 8 ay.underlying22 B N C O Y (by decide) (.slice (I ⟨w.heap.size,0,K⟩) 0 0) 0 [] Y p ⟨b,off,K⟩ l.length cap (bw l) Y o r.o z.o A.o (by unfold Ur;omega) (by omega) (by simp) ?_;intro R w' k i)
  have q:X (aP w w'):=by
   rcases i with⟨d,_⟩|⟨_,d⟩
   ·exact f.o.grown d (by simp) (by simp)
   ·exact f.o.grown d (by simp) (λG x=>by simp[VA] at x;omega)
  rw[UU,List.nil_append] at k;have E:=af k;clear i k z A r f p;go_wp2;go_ret;exact⟨q.o,.inr ⟨o,_,rfl,E.o⟩⟩
 ·have y:l.length=0:=by omega
  rw[y];have r:=af y;have f:=af h;clear t hc L o y h;cases s with
  |none=>
   go_enter ay.func70,Tryz.ntmps70;go_wp2;go_ret;exact⟨Uq _ _,.inl ⟨trivial,_,rfl⟩⟩
  |some n=>
   go_enter ay.func70,Tryz.ntmps70
   go_wp2_with (at_builtin;refine VI _ Y _ _ 22 Y w.heap.size 3 D 1 ay.underlying22 B C w.heap.size 0 0 [] Y p n 0 cap [] Y (by simp) (λj u c=>by simp at c) (λu c=>by simp at c) (by omega) ?_;intro w' k i)
   have q:X (aP w w'):=f.o.grown i (by simp) (λG x=>by simp at x;omega);clear i k f p;go_wp2;go_ret;exact⟨q.o,.inl ⟨trivial,_,rfl⟩⟩
def wM(l:List cG)(s:Option UK)(b off cap:Nat)(w:F)(M:l.length<=1000)(t:0<l.length->s=I ⟨b,off,K⟩)(hc:∀j u,(dM l)[j]? =I u->w.cell? ⟨b,off+j,K⟩=I u):
 bG 107 #[.slice s l.length cap] w λe w'=>aP w w'/\((l.length=0/\∃co,e= .returned (.slice co 0 0))\/(0<l.length/\∃v,e= .returned v/\w'.ownsRow w.heap.size 61 7 v l.length (dM l))):=by
 obtain⟨E,B,O,D,P⟩:=Vg ay.Ms;have h:aP w (w.alloc (.cells #[] 61)):=(Uq _ _).alloc (T9 _) _;have p:(w.alloc (.cells #[] 61)).ownsRow w.heap.size 61 7 (.slice (I ⟨w.heap.size,0,K⟩) 0 0) 0 []:=⟨rfl,.inr ⟨w.heap.size,0,#[],rfl,T9 _,iW _ _,T9 _,UF _,rfl,rfl⟩⟩;have Q:∀(n:UK) (m g:Nat) (a:F),(binOp .eql 23 (.slice (I n) m g) aR).run (aB T5) a= .ok (.bool T8) a:=λn m g a=>by simp only[binOp];simp[run_equal_slice_nil a 23 61 _ _ _ ay.underlying23]
 have R:∀(m g:Nat) (a:F),(binOp .eql 23 (.slice K m g) aR).run (aB T5) a= .ok (.bool Z) a:=λm g a=>by simp only[binOp];simp[run_equal_slice_nil a 23 61 _ _ _ ay.underlying23]
 by_cases o:0<l.length
 ·obtain rfl:=t o;have z:X (∀j u,(dM l)[j]? =I u->(w.alloc (.cells #[] 61)).cell? (Ys ⟨b,off,K⟩ j)=I u):=λj u L=>by
   rw[Xf];have d:=hc j u L;have J:b<w.heap.size:=by
    unfold Ut at d;rcases Vz b w.heap.size with c|c
    ·exact c
    ·simp[Vm c] at d
   exact(h.cell (p:=⟨b,off+j,K⟩) J).trans d
  have A:X (∀u∈dM l,u.oneCell'=Z):=λu N=>by
   obtain⟨T,_,C⟩:=List.mem_flatMap.1 N;simp only[sn,VN,XS,or_false] at C;rcases C with rfl|rfl|rfl|rfl|rfl|rfl|rfl<;>rfl
  have r:=af (rJ l);have f:=af h;clear hc h t;go_enter ay.func107,Tryz.ntmps107
  go_wp2_with (at_builtin;refine aS _ Y _ _ 23 Y w.heap.size 61 E (.agg #[.int .i64 0,.bool T8,.int .i64 0,.string ⟨#[]⟩,.bool T8,.int .i64 0,.string ⟨#[]⟩]) 7 72 ay.underlying23 B O D P Y (by decide) (.slice (I ⟨w.heap.size,0,K⟩) 0 0) 0 [] Y p ⟨b,off,K⟩ l.length cap (dM l) Y o r.o z.o A.o (by unfold Ur;omega) (by omega) (by simp) ?_;intro S w' k i)
  have q:X (aP w w'):=by
   rcases i with⟨d,_⟩|⟨_,d⟩
   ·exact f.o.grown d (by simp) (by simp)
   ·exact f.o.grown d (by simp) (λH x=>by simp[VA] at x;omega)
  rw[UU,List.nil_append] at k;have G:=af k;clear i k z A r f p;go_wp2;go_ret;exact⟨q.o,.inr ⟨o,_,rfl,G.o⟩⟩
 ·have y:l.length=0:=by omega
  rw[y];have r:=af y;have f:=af h;clear t hc M o y h;cases s with
  |none=>
   go_enter ay.func107,Tryz.ntmps107;go_wp2;go_ret;exact⟨Uq _ _,.inl ⟨trivial,_,rfl⟩⟩
  |some n=>
   go_enter ay.func107,Tryz.ntmps107
   go_wp2_with (at_builtin;refine VI _ Y _ _ 23 Y w.heap.size 61 E 7 ay.underlying23 B D w.heap.size 0 0 [] Y p n 0 cap [] Y (by simp) (λj u c=>by simp at c) (λu c=>by simp at c) (by omega) ?_;intro w' k i)
   have q:X (aP w w'):=f.o.grown i (by simp) (λH x=>by simp at x;omega);clear i k f p;go_wp2;go_ret;exact⟨q.o,.inl ⟨trivial,_,rfl⟩⟩
def NC{W:F}{g o:Nat}{a:Array U}{t:Ui}{u:U}(h:W.heap[g]? =I (.cells a t (0,0)))(c:a[o]? =I u):(W.setCell ⟨g,o,K⟩ u).heap[g]? =I (.cells a t (0,0)):=by
 rw[Us W g o _ _ u h];congr 2;apply Array.ext_getElem?;intro e;rw[UQ]
 split
 ·rename_i b;subst b
  split
  ·exact c.symm
  ·rename_i d;rw[Vm (by omega)]
 ·rfl
def rL{W:F}{base g o n cap:Nat}{c:List U}{u:U}(h:W.ownsRow base 61 7 (.slice (I ⟨g,0,K⟩) n cap) n c)(b:c[o]? =I u):(W.setCell ⟨g,o,K⟩ u).ownsRow base 61 7 (.slice (I ⟨g,0,K⟩) n cap) n c:=by
 obtain⟨m,⟨a,_⟩|⟨q,p,e,a,f,i,j,k,l,d⟩⟩:=h
 ·cases a
 ·simp only[VB,U9,Wi,and_true,true_and] at a;obtain⟨rfl,rfl⟩:=a;refine⟨m,.inr ⟨g,cap,e,rfl,f,NC i ?_,j,k,l,d⟩⟩;rw[<-d,V9] at b
  split at b
  ·simpa using b
  ·cases b
def PC{w:F}{base e d n:Nat}{v:U}{f:List U}(h:w.ownsRow base e d v n f)(l:0<n):∃g cap,v= .slice (I ⟨g,0,K⟩) n cap:=by
 obtain⟨k,⟨a,j⟩|⟨c,b,i,a,_⟩⟩:=h
 ·omega
 ·exact⟨c,b,a⟩
def dD.Gf{w:F}{base g cap:Nat}{l:List cG}(h:w.ownsRow base 61 7 (.slice (I ⟨g,0,K⟩) l.length cap) l.length (dM l)):dD w (I ⟨g,0,K⟩) g 0 l:=by
 obtain⟨o,⟨a,_⟩|⟨i,e,f,a,j,c,k,m,n,d⟩⟩:=h
 ·cases a
 ·simp only[VB,U9,Wi,and_true,true_and] at a;obtain⟨rfl,rfl⟩:=a;refine dD.Eb (Uf c) λp v b=>?_;rw[<-d,V9] at b
  split at b
  ·rw[UU];unfold Ut;simp only[c];simpa using b
  ·cases b
def M2{w:F}{base g n cap c e:Nat}{d:List U}(h:w.ownsRow base e c (.slice (I ⟨g,0,K⟩) n cap) n d):base<=g:=by
 obtain⟨q,⟨a,_⟩|⟨j,f,i,a,b,k,l,m,o,p⟩⟩:=h
 ·cases a
 ·simp only[VB,U9,Wi,and_true,true_and] at a;obtain⟨rfl,rfl⟩:=a;exact b
def El{w:F}{base g n cap c e o:Nat}{d:List U}(h:w.ownsRow base e c (.slice (I ⟨g,0,K⟩) n cap) n d):w.frozen? ⟨g,o,K⟩=T8:=by
 obtain⟨r,⟨a,_⟩|⟨j,f,i,a,k,b,l,m,p,q⟩⟩:=h
 ·cases a
 ·simp only[VB,U9,Wi,and_true,true_and] at a;obtain⟨rfl,rfl⟩:=a;simp[UR,b]
def Ei{w:F}{base g n cap o:Nat}{c:List U}{u:U}(h:w.ownsRow base 61 7 (.slice (I ⟨g,0,K⟩) n cap) n c)(b:c[o]? =I u):w.cell? ⟨g,o,K⟩=I u:=by
 obtain⟨q,⟨a,_⟩|⟨j,f,i,a,k,d,l,m,p,e⟩⟩:=h
 ·cases a
 ·simp only[VB,U9,Wi,and_true,true_and] at a;obtain⟨rfl,rfl⟩:=a;rw[<-e,V9] at b
  split at b
  ·unfold Ut;simp only[d];simpa using b
  ·cases b
def yc(l:List cG)(t:Option UK)(b off cap:Nat)(w:F)(av:l.length<=1000)(ar:0<l.length->t=I ⟨b,off,K⟩)(hc:∀j u,(dM l)[j]? =I u->bU w b (off+j) u)(a0:∀r∈l,r.low.s.size<=32/\r.high.s.size<=32):
 bG 71 #[.slice t l.length cap] w λe w'=>aP w w'/\((l.length=0/\∃co,e= .returned (.slice co 0 0))\/(0<l.length/\∃v,e= .returned v/\w'.ownsRow w.heap.size 61 7 v l.length (dM l))):=by
 have o:=wM l t b off cap w av ar hc;have O:=af a0;clear ar hc a0;by_cases B:0<l.length
 ·have an:bG 107 #[.slice t l.length cap] w λe w'=>aP w w'/\∃c gQ,e= .returned (.slice (I ⟨c,0,K⟩) l.length gQ)/\w'.ownsRow w.heap.size 61 7 (.slice (I ⟨c,0,K⟩) l.length gQ) l.length (dM l):=by
   refine o.mono λe w' g=>⟨g.1,?_⟩;obtain⟨_,v,rfl,m⟩:=g.2.resolve_left λg=>absurd g.1 (by omega);obtain⟨c,gQ,rfl⟩:=PC m B;exact⟨c,gQ,rfl,m⟩
  clear o;go_enter ay.func71,Tryz.ntmps71
  go_wp2_with (go_at_call 107;refine an.mono ?_;rintro e a3 ⟨x,c,gQ,rfl,az⟩)
  have z:=af x;have p:=af az;clear x az an
  go_loopw [10] (λn wr=>∃a:Nat,a<=l.length/\n= .int .i64 (a:Int)/\wr.ownsRow w.heap.size 61 7 (.slice (I ⟨c,0,K⟩) l.length gQ) l.length (dM l)/\aP w wr) (λn _=>l.length-(UT n).toNat)
  case atStart=>exact⟨0,UF _,rfl,p.o,z.o⟩
  case round=>
   clear z p;obtain⟨a,bu,rfl,m,C⟩:=hrel;have H:=af C;have A:=af m;have a1:=C.size;by_cases h:a<l.length
   ·have k:=dD.Gf m;have S:=k.c0 a h;have T:=k.c1 a h;have U:=k.c2 a h;have V:=k.c3 a h;have W:=k.c4 a h;have Z:=k.c5 a h;have aa:=k.c6 a h;simp only[UU] at S T U V W Z aa;have N:=af (od l a h 3 _ Y);have M:=af (od l a h 6 _ Y);obtain⟨a4,a5⟩:=O.o l[a] (Uk h);have E:=λP=>ur l[a].low.s P a4;have G:=λP=>ur l[a].high.s P a5;clear m C k O a4 a5;generalize l[a]=br at*;obtain⟨D,d,f⟩:=br;dsimp only at S T U V W Z aa N M E G
    go_upto_region 5 with fail
    obtain⟨bd,be,bi,bj,bl,bm,a2⟩:=jN (iW wr (.cells #[.int .i64 D,.bool d.null,.int .i64 d.n,.string d.s,.bool f.null,.int .i64 f.n,.string f.s] 61));have Q:aP wr (wr.alloc (.cells #[.int .i64 D,.bool d.null,.int .i64 d.n,.string d.s,.bool f.null,.int .i64 f.n,.string f.s] 61)):=(Uq _ _).alloc (T9 _) _;have L:=af (H.o.trans (Q.mono a1));have aw:=aK A.o Q;have p:=af aw;have bc:wr.heap.size<(wr.alloc (.cells #[.int .i64 D,.bool d.null,.int .i64 d.n,.string d.s,.bool f.null,.int .i64 f.n,.string f.s] 61)).heap.size:=by simp
    have ba:wr.heap.size≠c:=λg=>by have:=(dD.Gf A.o).lt B;omega
    clear Q S T U V W Z aa H a1 A aw;generalize wr.alloc (.cells #[.int .i64 D,.bool d.null,.int .i64 d.n,.string d.s,.bool f.null,.int .i64 f.n,.string f.s] 61)=bs at*;generalize wr.heap.size=ap at*;have bb:=L.o.size
    go_upto_region 6 with(go_at_call 66;refine(E _).mono ?_;rintro e y ⟨rfl,i⟩;have ae:=af (L.o.trans (i.mono bb));have q:=af (aK p.o i);have ab:=(i.cell (p:=⟨ap,6,K⟩) bc).trans a2;have u3:bU y c (a*7+1+2) (.string d.s):=Ei q.o N.o;have a8:y.frozen? ⟨c,a*7+1+2,K⟩=T8:=El q.o;have bv:=i.size;clear i E)
    have J:X (aP w (y.setCell ⟨c,a*7+1+2,K⟩ (.string d.s))):=ae.o.setCell (p:=⟨c,a*7+1+2,K⟩) (M2 q.o) _;have ao:=af (rL q.o N.o);have bo:(y.setCell ⟨c,a*7+1+2,K⟩ (.string d.s)).cell? ⟨ap,6,K⟩=I (.string f.s):=by
     unfold Ut at ab ⊢;rw[Uv _ _ _ _ ba];exact ab
    clear u3 a8 ab ae q L p bd be bi bj bl bm a2;generalize y.setCell ⟨c,a*7+1+2,K⟩ (.string d.s)=bt at*
    go_upto_region 7 with(go_at_call 66;refine(G _).mono ?_;rintro e ad ⟨rfl,i⟩;have al:=af (J.o.trans (i.mono J.o.size));have s:=af (aK ao.o i);have u6:bU ad c (a*7+4+2) (.string f.s):=Ei s.o M.o;have a9:ad.frozen? ⟨c,a*7+4+2,K⟩=T8:=El s.o;clear i G)
    have a6:X (aP w (ad.setCell ⟨c,a*7+4+2,K⟩ (.string f.s))):=al.o.setCell (p:=⟨c,a*7+4+2,K⟩) (M2 s.o) _;have a7:=af (rL s.o M.o);clear u6 a9 bo al s J ao;go_wp2
    go_roundw
    case rel=>exact⟨a+1,by omega,by go_num,a7.o,a6.o⟩
    case measure=>simp[UT];omega
   ·clear m C;go_wp2;go_ret;exact⟨H.o,.inr ⟨B,_,rfl,A.o⟩⟩
 ·have R:l.length=0:=by omega
  have am:bG 107 #[.slice t 0 cap] w λe w'=>aP w w'/\∃co,e= .returned (.slice co 0 0):=by
   rw[R] at o;exact o.mono λe w' g=>⟨g.1,(g.2.resolve_right λg=>absurd g.1 (by omega)).2⟩
  rw[R];clear o R B O av;go_enter ay.func71,Tryz.ntmps71
  go_wp2_with (go_at_call 107;refine am.mono ?_;rintro e a3 ⟨x,co,rfl⟩)
  have z:=af x;clear x am
  go_loopw [10] (λn wr=>n= .int .i64 0/\wr=a3) (λn _=>0)
  case atStart=>exact⟨rfl,rfl⟩
  case round=>
   obtain⟨rfl,rfl⟩:=hrel;go_wp2;go_ret;exact⟨z.o,.inl ⟨trivial,_,rfl⟩⟩
def Sg (w:F)(s:ByteArray)(e:WU)(w':F):Prop:=
 aP w w'/\((∃(b:List (bK×Int)) (a:List Bd) (c:List (Bd×U)) (d f h:U),e= .returned (.tuple #[.agg #[d,f,h],.bool Z])/\ga s b a/\c.map Uy=a/\cP w' w.heap.size b c d f h/\(∀i g,ga s i g->i=b/\g=a))\/
  (e= .returned (.tuple #[.agg #[aR,aR,aR],.bool T8])/\∀b a,¬ga s b a))
def uB(s:ByteArray)(w:F)(a9:s.size<=Ur):
 bG 44 #[.string s] w (Sg w s):=by
 have N:X ((w.alloc (.cells #[aR,aR,aR] 105)).heap[w.heap.size]? =I (.cells #[aR,aR,aR] 105 (0,0))):=bh w _;have ab:X (aP w (w.alloc (.cells #[aR,aR,aR] 105))):=(Uq _ _).alloc (T9 _) _;have bb:∀(S:Fn) (first O:Array U) (w:F),(Instr.makeFunc S first O).run (aB T5) w= .ok (.func S first O) w:=λ_ _ _ _=>rfl;go_enter ay.func44,Tryz.ntmps44
 go_wp2_with fail
 refine(OK s _ a9).mono ?_;rintro az b ⟨a4,V⟩;have B:X (b.heap[w.heap.size]? =I (.cells #[aR,aR,aR] 105 (0,0))):=(V.block _ (Uf N.o)).trans N.o;have L:X (aP w b):=ab.o.trans (V.mono (by simp));have W:w.heap.size<b.heap.size:=Uf B.o;rcases a4 with⟨d,K,rfl,hcut⟩|⟨rfl,H⟩;rotate_left
 ·have A:X (∀a c,¬ga s a c):=λa c g=>H _ _ g.2;have u:(b.alloc (.cells #[.string ⟨#[]⟩] 9)).heap[w.heap.size]? =I (.cells #[aR,aR,aR] 105 (0,0)):=by rw[UO _ _ _ W];exact B.o
  have t:aP w (b.alloc (.cells #[.string ⟨#[]⟩] 9)):=L.o.alloc (by omega) _
  go_upto_region 2 with fail
  generalize b.alloc (.cells #[.string ⟨#[]⟩] 9)=C at*;have ad:X (aP w (gU C w.heap.size aR aR aR)):=mO _ _ _ t (T9 _) (T9 _);obtain⟨⟨Y,Z,aa⟩,P,Q,R⟩:=fL u;obtain⟨⟨i,j,k⟩,-⟩:=fL (qR aR aR aR u);unfold gU at*;go_wp2;simp[VS,UY,Tryz.results44,go_sem,i,j,k];exact⟨ad.o,.inr ⟨rfl,A.o⟩⟩
 ·have z:=af hcut;have a8:=hcut.len;have bc:=hcut.1;rw[aj,aj] at a8;have u:(b.alloc (.cells #[.string d] 9)).heap[w.heap.size]? =I (.cells #[aR,aR,aR] 105 (0,0)):=by rw[UO _ _ _ W];exact B.o
  have t:aP w (b.alloc (.cells #[.string d] 9)):=L.o.alloc (by omega) _;have a1:(b.alloc (.cells #[.string d] 9)).heap[b.heap.size]? =I (.cells #[.string d] 9 (0,0)):=bh b _;have J:w.heap.size<=(b.alloc (.cells #[.string d] 9)).heap.size:=t.size;have a2:K.size<=65536:=by omega
  have a0:d.size<=65536:=by omega
  go_upto_region 2 with fail
  generalize b.alloc (.cells #[.string d] 9)=C at*;generalize b.heap.size=aw at*;have l:=af u;have M:=af t;have ae:=af a1
  go_wp2_with fail
  refine(Hl aw K d C a2 a0 ae.o).mono ?_;rintro az e ⟨v,⟨a,c,f,ap,ar,av,rfl,a7,a3,a5,a6,hF,ba⟩|⟨rfl,H⟩⟩
  ·have h:e.heap[w.heap.size]? =I (.cells #[aR,aR,aR] 105 (0,0)):=(v.block _ (Uf l.o)).trans l.o;have G:aP w e:=M.o.trans (v.mono J);have T:cP e w.heap.size a f ap ar av:=hF.base J;obtain⟨m,ac,o,n,r,q,rfl,rfl,rfl⟩:=T.Ic;have al:X (cP (gU e w.heap.size (.slice m a.length ac) (.slice o a.length n) (.slice r f.length q)) w.heap.size a f (.slice m a.length ac) (.slice o a.length n) (.slice r f.length q)):=T.gU _ _ _ h;have y:X (aP w (gU e w.heap.size (.slice m a.length ac) (.slice o a.length n) (.slice r f.length q))):=mO _ _ _ G (T9 _) (T9 _);have am:X (ga s a c):=⟨a7,by rw[<-a5,<-a6];exact z.o⟩;have ao:X (∀x p,ga s x p->x=a/\p=c):=λx p g=>by
    obtain⟨D,E⟩:=z.o.IN g.2;exact ba x p g.1 E D
   have an:=af a3;obtain⟨⟨Y,Z,aa⟩,P,Q,R⟩:=fL h;obtain⟨⟨i,j,k⟩,-⟩:=fL (qR (.slice m a.length ac) (.slice o a.length n) (.slice r f.length q) h);unfold gU at*;go_wp2;simp[VS,UY,Tryz.results44,go_sem,i,j,k];exact⟨y.o,.inl ⟨a,c,f,_,_,_,rfl,am.o,an.o,al.o,ao.o⟩⟩
  ·have h:e.heap[w.heap.size]? =I (.cells #[aR,aR,aR] 105 (0,0)):=(v.block _ (Uf l.o)).trans l.o;have G:aP w e:=M.o.trans (v.mono J);have y:X (aP w (gU e w.heap.size aR aR aR)):=mO _ _ _ G (T9 _) (T9 _);have A:X (∀a c,¬ga s a c):=λa c g=>by
    obtain⟨D,E⟩:=z.o.IN g.2;exact H a c g.1 E D
   obtain⟨⟨Y,Z,aa⟩,P,Q,R⟩:=fL h;obtain⟨⟨i,j,k⟩,-⟩:=fL (qR aR aR aR h);unfold gU at*;go_wp2;simp[VS,UY,Tryz.results44,go_sem,i,j,k];exact⟨y.o,.inr ⟨rfl,A.o⟩⟩
def CC(s:ByteArray)(w:F)(ao:s.size<=Ur):
 bG 21 #[.string s] w λe w'=>aP w w'/\∃(cs:List bK) (n m:Nat) (C:U),e= .returned (.tuple #[C,.int .i64 (n:Int),.int .i64 (m:Int)])/\Sb s cs n m/\w'.ownsRow w.heap.size 63 2 C cs.length (eI cs)/\(m≠0->C=aR):=by
 go_enter ay.func21,Tryz.ntmps21
 go_wp2_with fail
 refine(uB s _ ao).mono ?_;rintro e k ⟨p,⟨a,x,b,ar,o,av,rfl,v,y,hF,H⟩|⟨rfl,T⟩⟩;rotate_left
 ·have r:X (aP w (k.alloc (.cells #[aR,aR,aR] 105))):=p.alloc p.size _;have ae:=af T;clear p T;go_wp2;simp[VS,UY,Tryz.results21,go_sem];exact⟨r.o,[],0,3,_,⟨rfl,rfl,rfl⟩,.inr ⟨ae.o,rfl,rfl,rfl⟩,Vq _ _ _ _,λ_=>rfl⟩
 ·obtain⟨c,ac,d,f,h,g,rfl,rfl,rfl⟩:=hF.Ic;have r:X (aP w (k.alloc (.cells #[.slice c a.length ac,.slice d a.length f,.slice h b.length g] 105))):=p.alloc p.size _;have S:=bh k (.cells #[.slice c a.length ac,.slice d a.length f,.slice h b.length g] 105);have A:X (cP (k.alloc (.cells #[.slice c a.length ac,.slice d a.length f,.slice h b.length g] 105)) w.heap.size a b (.slice c a.length ac) (.slice d a.length f) (.slice h b.length g)):=hF.below ((Uq _ _).alloc (T9 _) _);obtain⟨⟨I,J,L⟩,-⟩:=fL S;have Z:X (Sb s (a.map Uy) (eW x) 0):=.inl ⟨a,x,v,rfl,rfl,rfl,λV Q l=>⟨(H V Q l).1,by rw[(H V Q l).2]⟩⟩;have ad:=af y;have al:=tC x (λo E=>(v.1.cg o E).lo);have am:=v.1.rows;have an:b.length<=65536:=by rw[<-UH (f:=Uy),y];omega
  have ap:∀o∈b.map Uy,o.rows<=100:=by rw[y];exact λo E=>(v.1.cg o E).hi
  clear p hF v H S al am y
  go_upto_region 4 with fail
  have P:X (bG 45 #[.agg #[.slice c a.length ac,.slice d a.length f,.slice h b.length g]] (k.alloc (.cells #[.slice c a.length ac,.slice d a.length f,.slice h b.length g] 105)).drew λe w'=>e= .returned (.int .i64 (eW (b.map Uy):Int))/\Below (k.alloc (.cells #[.slice c a.length ac,.slice d a.length f,.slice h b.length g] 105)).drew.heap.size (k.alloc (.cells #[.slice c a.length ac,.slice d a.length f,.slice h b.length g] 105)).drew w'):=AS c d _ _ _ _ w.heap.size _ b _ (A.o.cg.below ((Uq _ _).drew)) an ap;have ab:k.heap.size<(k.alloc (.cells #[.slice c a.length ac,.slice d a.length f,.slice h b.length g] 105)).heap.size:=by simp
  generalize k.alloc (.cells #[.slice c a.length ac,.slice d a.length f,.slice h b.length g] 105)=t at*;generalize k.heap.size=i at*;have G:i<t.heap.size:=ab;refine Un.open_ (λj=>bU j i 0 (.slice c a.length ac)/\bU j i 1 (.slice d a.length f)/\bU j i 2 (.slice h b.length g)) 6 (λ_ _ _ _ _ l=>l) λaw=>?_;have D:(λj=>bU j i 0 (.slice c a.length ac)/\bU j i 1 (.slice d a.length f)/\bU j i 2 (.slice h b.length g)) t.drew:=⟨I,J,L⟩;refine Un.pk 0 ?_
  try simp only[UX,Ud,Um,Ul]
  refine Un.ld [6] 1 ?_
  try simp only[UX,Ud,Um,Ul]
  refine Un.ld [6] 2 ?_
  try simp only[UX,Ud,Um,Ul]
  refine Un.on 3 λB u=>?_;go_simp;go_at_call 45;refine P.o.mono ?_;rintro e z ⟨rfl,R⟩;have q:aP t z:=(Uq t.heap.size t).drew.trans R;have W:X (aP w z):=r.o.trans (q.mono r.o.size);have aa:X (cP z w.heap.size a b (.slice c a.length ac) (.slice d a.length f) (.slice h b.length g)):=A.o.below q;have M:=(q.cell (p:=⟨i,0,K⟩) G).trans I;have N:=(q.cell (p:=⟨i,1,K⟩) G).trans J;have O:=(q.cell (p:=⟨i,2,K⟩) G).trans L;refine u.o _ _ (λ_=>⟨M,N,O⟩) ?_;clear u B D R q P r A I J L
  try simp only[UX,Ud,Um,Ul]
  have D:(λj=>bU j i 0 (.slice c a.length ac)/\bU j i 1 (.slice d a.length f)/\bU j i 2 (.slice h b.length g)) z:=⟨M,N,O⟩;refine Un.pk 4 ?_
  try simp only[UX,Ud,Um,Ul]
  refine Un.pk 5 ?_
  try simp only[UX,Ud,Um,Ul]
  refine Un.on 6 λB u=>?_;go_simp;refine u.o _ _ (λl=>absurd l (by decide)) ?_;clear u B
  try simp only[UX,Ud,Um,Ul]
  clear D M N O;refine Un.done (by kernel_rfl) ?_ _
  try simp only[UX,Ud,Um,Ul]
  go_wp2;simp[VS,UY,Tryz.results21,go_sem];exact⟨W.o,a.map Uy,eW x,0,_,⟨rfl,by rw[ad.o],rfl⟩,Z.o,by rw[UH];exact aa.o.ah,λl=>absurd Y l⟩
end Ec
namespace Cc
open Go Go.Conc
open Go.RowKit (Below)
open Ec
open Pk
open Pm
def lT{w:F}{base:Nat}{e:Ui}{j n:Nat}{v:U}{f:List U}(h:w.ownsRow base e j v n f)(r:0<n):∃g cap,v= .slice (I ⟨g,0,K⟩) n cap/\base<=g/\g<w.heap.size/\∀o u,f[o]? =I u->w.cell? ⟨g,o,K⟩=I u:=by
 obtain⟨q,⟨b,c⟩|⟨g,cap,k,b,c,d,l,m,p,i⟩⟩:=h
 ·omega
 ·refine⟨g,cap,b,c,(Uc.1 d).1,λo u a=>?_⟩;rw[<-i,V9] at a
  split at a
  ·unfold Ut;simp only[d];simpa using a
  ·cases a
def zO (kb eb c:Nat)(cT:Nat->Nat)(cb rb n d e:Nat):Nat->Prop:=λa=>a=kb\/a=eb\/(0<n/\a=c)\/(∃b,b<n/\a=cT b)\/(0<d/\a=cb)\/(0<e/\a=rb)
def FM.kept{W W':F}{l:List (bK×Int)}{bs:List Bd}{ah:List Int}{rs:List cG}{kb eb:Nat}{r:Option UK}{p:Nat}{cT nj:Nat->Nat}{co:Option UK}{cb bD:Nat}{ro:Option UK}{rb bg:Nat}(h:FM W l bs ah rs kb eb r p cT nj co cb bD ro rb bg)(m:W.heap.size<=W'.heap.size)(w:∀b,zO kb eb p cT cb rb bs.length ah.length rs.length b->m8 W' W b):FM W' l bs ah rs kb eb r p cT nj co cb bD ro rb bg:=by
 have k:∀b,zO kb eb p cT cb rb bs.length ah.length rs.length b->∀o v,W.cell? ⟨b,o,K⟩=I v->W'.cell? ⟨b,o,K⟩=I v:=λb i o v n=>by
  unfold Ut at n ⊢;cases q:W.heap[b]? with
  |none=>rw[q] at n;cases n
  |some j=>
   rw[q] at n;cases j<;>first|(cases n;done)|skip
   rw[w b i _ q trivial];exact n
 have s:∀d b,bs[d]? =I b->d<bs.length:=λd b h=>(UB.1 h).1;have f:∀{o v},0<rs.length->W.cell? ⟨rb,o,K⟩=I v->W'.cell? ⟨rb,o,K⟩=I v:=λg=>k rb (.inr (.inr (.inr (.inr (.inr ⟨g,rfl⟩))))) _ _;have e:=h.nr;refine⟨λc j a=>k kb (.inl Y) _ _ (h.k c j a),λc j a=>k eb (.inr (.inl Y)) _ _ (h.e c j a),λd b i=>?_,λd b i c j a x y u=>k (cT d) (.inr (.inr (.inr (.inl ⟨d,s d b i,rfl⟩)))) _ _ (h.c d b i c j a x y u),Ue h.lk m,Ue h.le m,h.da,λg=>Ue (h.ld g) m,λd t=>Ue (h.lc d t) m,h.ca,λg=>Ue (h.cl g) m,λc a=>k cb (.inr (.inr (.inr (.inr (.inl ⟨by omega,rfl⟩))))) _ _ (h.cc c a),
  ⟨e.addr,λg=>Ue (e.lt g) m,λc a=>f (by omega) (e.c0 c a),λc a=>f (by omega) (e.c1 c a),λc a=>f (by omega) (e.c2 c a),λc a=>f (by omega) (e.c3 c a),λc a=>f (by omega) (e.c4 c a),λc a=>f (by omega) (e.c5 c a),λc a=>f (by omega) (e.c6 c a)⟩⟩
 intro c v a;exact k p (.inr (.inr (.inl ⟨by have:=s d b i;omega,rfl⟩))) _ _ (h.d d b i c v a)
def D4{W' W:F}{b:Nat}(h:W'.heap[b]? =W.heap[b]?):m8 W' W b:=λc a _=>h.trans a
def MJ{W' w':F}{b:Nat}(h:Un W' w'):m8 w' W' b:=λe d c=>h.o d λa=>(eB (aB T5)).Rj (a▸c)
def Li (W:F)(base:Nat)(a:U)(ah:List Int):Prop:=(ah.length=0/\∃b,a= .slice b 0 0)\/(0<ah.length/\W.ownsRow base 3 1 a ah.length (bw ah))
def Qp (W:F)(base:Nat)(a:U)(rs:List cG):Prop:=(rs.length=0/\∃b,a= .slice b 0 0)\/(0<rs.length/\W.ownsRow base 61 7 a rs.length (dM rs))
def Li.below{W W':F}{base:Nat}{a:U}{ah:List Int}(h:Li W base a ah)(b:aP W W'):Li W' base a ah:=h.imp (λh=>h) λh=>⟨h.1,aK h.2 b⟩
def Li.at_{W:F}{base:Nat}{c:U}{ah:List Int}(h:Li W base c ah):∃co cb cap,c= .slice co ah.length cap/\(0<ah.length->co=I ⟨cb,0,K⟩/\base<=cb/\cb<W.heap.size)/\∀j,j<ah.length->bU W cb (0+j) (.int .i64 (ah.getD j 0)):=by
 rcases h with⟨a,co,rfl⟩|⟨a,h⟩
 ·exact⟨co,0,0,by rw[a],λh=>absurd h (by omega),λj b=>absurd b (by omega)⟩
 ·obtain⟨d,cap,rfl,e,f,g⟩:=lT h a;refine⟨_,d,cap,rfl,λ_=>⟨rfl,e,f⟩,λj b=>?_⟩;rw[UU];refine g j _ ?_;simp[bw,Uj,Uo b]
def Qp.at_{W:F}{base:Nat}{d:U}{rs:List cG}(h:Qp W base d rs):∃ro rb cap,d= .slice ro rs.length cap/\(0<rs.length->base<=rb/\rb<W.heap.size)/\dD W ro rb 0 rs:=by
 rcases h with⟨b,ro,rfl⟩|⟨b,h⟩
 ·refine⟨ro,0,0,by rw[b],λh=>absurd h (by omega),?_⟩;have e:=Vi b;subst e;exact⟨λh=>absurd h (by simp),λh=>absurd h (by simp),λa h=>absurd h (by simp),λa h=>absurd h (by simp),λa h=>absurd h (by simp),λa h=>absurd h (by simp),λa h=>absurd h (by simp),λa h=>absurd h (by simp),λa h=>absurd h (by simp)⟩
 ·obtain⟨f,cap,rfl,g,c,i⟩:=lT h b;exact⟨_,f,cap,rfl,λ_=>⟨g,c⟩,dD.Eb c λk v j=>by rw[UU];exact i k v j⟩
def Dp:U->Nat
 | .slice (I a) _ _=>a.block
 |_=>0
def Qy:U->Nat
 | .slice _ _ a=>a
 |_=>0
def QA{W:F}{base:Nat}{l:List (bK×Int)}{bs:List Bd}{L:List (Bd×U)}{a b c G Q:U}{ah:List Int}{rs:List cG}(N:xf l bs)(hL:L.map Uy=bs)(h:cP W base l L a b c)(hc:Li W base G ah)(ad:Qp W base Q rs):
 ∃(kb ck eb ce:Nat) (p:Option UK) (j di:Nat) (cT nj:Nat->Nat) (co:Option UK) (cb aJ:Nat) (ro:Option UK) (rb aM:Nat),a= .slice (I ⟨kb,0,K⟩) l.length ck/\b= .slice (I ⟨eb,0,K⟩) l.length ce/\c= .slice p bs.length di/\G= .slice co ah.length aJ/\Q= .slice ro rs.length aM/\FM W l bs ah rs kb eb p j cT nj co cb 0 ro rb 0/\∀x,zO kb eb j cT cb rb bs.length ah.length rs.length x->base<=x/\x<W.heap.size:=by
 have B:0<l.length:=by
  have:=N.pl.1.1;simp at this;omega
 have A:L.length=bs.length:=by rw[<-hL,UH]
 obtain⟨kb,ck,rfl,am,P,an⟩:=lT h.ah B;obtain⟨eb,ce,rfl,X,H,Y⟩:=lT h.eJ B;obtain⟨co,cb,aJ,rfl,w,S⟩:=hc.at_;obtain⟨ro,rb,aM,rfl,ar,av⟩:=ad.at_;have Z:∃p j di,c= .slice p bs.length di/\(0<bs.length->p=I ⟨j,0,K⟩/\base<=j/\j<W.heap.size)/\∀m g,(nI L)[m]? =I g->bU W j m g:=by
  rcases Nat.eq_zero_or_pos L.length with e|e
  ·obtain⟨R,n,z⟩:=bz h.cg.own;have V:=Vi e;refine⟨R,0,n,by rw[<-A];exact z,λh=>absurd h (by omega),λm g O=>?_⟩;rw[V] at O;simp[nI] at O
  ·obtain⟨k,n,z,s,y,T⟩:=lT h.cg.own e;exact⟨_,k,n,by rw[<-A];exact z,λ_=>⟨rfl,s,y⟩,T⟩
 obtain⟨p,j,di,rfl,s,y⟩:=Z;have M:∀d b,bs[d]? =I b->∃(f:d<L.length),L[d].1=b/\∃k n,L[d].2= .slice (I ⟨k,0,K⟩) l.length n/\base<=k/\k<W.heap.size/\∀m g,(ek b.chunks)[m]? =I g->bU W k m g:=λd b i=>by
  have f:d<L.length:=by rw[A];exact(UB.1 i).1
  have J:L[d].1=b:=by
   have:(L.map Uy)[d]? =I b:=by rw[hL];exact i
   rw[List.getElem?_map,Uo f] at this;simpa using this
  have ab:b.chunks.length=l.length:=by
   have:=(N.cg b (VE i)).len;simpa using this
  have:=h.cg.each L[d] (Uk f);rw[J,ab] at this;obtain⟨k,n,r,C,D,E⟩:=lT this B;exact⟨f,J,k,n,r,C,D,E⟩
 have t:∀d b,bs[d]? =I b->(L.getD d (⟨0,[]⟩,.bool T8)).2= .slice (I ⟨Dp (L.getD d (⟨0,[]⟩,.bool T8)).2,0,K⟩) l.length (Qy (L.getD d (⟨0,[]⟩,.bool T8)).2)/\base<=Dp (L.getD d (⟨0,[]⟩,.bool T8)).2/\Dp (L.getD d (⟨0,[]⟩,.bool T8)).2<W.heap.size/\∀m g,(ek b.chunks)[m]? =I g->W.cell? ⟨Dp (L.getD d (⟨0,[]⟩,.bool T8)).2,m,K⟩=I g:=λd b i=>by
  obtain⟨f,_,k,n,r,C,D,E⟩:=M d b i;have:L.getD d (⟨0,[]⟩,.bool T8)=L[d]:=by rw[Uj,Uo f];rfl
  rw[this,r];exact⟨rfl,C,D,E⟩
 refine⟨kb,ck,eb,ce,p,j,di,λd=>Dp (L.getD d (⟨0,[]⟩,.bool T8)).2,λd=>Qy (L.getD d (⟨0,[]⟩,.bool T8)).2,co,cb,aJ,ro,rb,aM,rfl,rfl,rfl,rfl,rfl,⟨λq x o=>?_,λq x o=>?_,λd b i=>?_,λd b i q x o aw g ae=>?_,P,H,λe=>(s e).1,λe=>(s e).2.2,λd f=>(t d _ (Uo f)).2.2.1,λe=>(w e).1,λe=>(w e).2.2,S,av⟩,λx al=>?_⟩
 ·obtain⟨u,rfl⟩:=UB.1 o;rw[UU];have:=(AN (l.map Uy) q (by simpa using u)).2;simp only[Xt] at this;exact an _ _ this
 ·obtain⟨u,rfl⟩:=UB.1 o;rw[UU,Nat.mul_one];exact Y _ _ (by simp[bw,Uo u])
 ·obtain⟨f,ao,-⟩:=M d b i;have r:=(t d b i).1;have ap:L.getD d (⟨0,[]⟩,.bool T8)=L[d]:=by rw[Uj,Uo f];rfl
  intro q v o;have aa:(n7 L[d])[q]? =I v:=by
   unfold n7;rw[ao];rw[ap] at r o;rw[r];exact o
  have:=y _ _ (lR n7 2 qE L d f q v aa);rw[UU];exact this
 ·obtain⟨u,rfl⟩:=UB.1 o;exact(t d b i).2.2.2 _ _ (lR dJ 8 uA b.chunks q u aw g ae)
 ·rcases al with rfl|rfl|⟨e,rfl⟩|⟨d,f,rfl⟩|⟨e,rfl⟩|⟨e,rfl⟩
  ·exact⟨am,P⟩
  ·exact⟨X,H⟩
  ·exact(s e).2
  ·exact⟨(t d _ (Uo f)).2.1,(t d _ (Uo f)).2.2.1⟩
  ·exact(w e).2
  ·exact ar e
end Cc
namespace Cc
open Go Go.Conc
open Go.RowKit (Below)
open Ec
open Pk (bw)
abbrev Fq:=Option (List (bK×Int)×List Bd)
def rU (s:ByteArray):Fq->Prop
 |none=>∀b a,¬ga s b a
 |some (b,a)=>ga s b a/\∀d c,ga s d c->d=b/\c=a
def wJ (n:Nat)(ah:List Int)(rs:List cG):Bool:=ah.all (cY n)&&rs.all λa=>cY n a.col
def kE (l:List (bK×Int))(k:Int):Int:=(l.getD k.toNat (⟨⟨#[]⟩,0⟩,0)).1.kind
def Cw (l:List (bK×Int))(rs:List cG):Bool:=rs.all λa=>iX (kE l a.col) a
def jA (b:Fq)(ah:List Int)(rs:List cG):Nat:=match b with
 |none=>3
 |some (a,_)=>if wJ a.length ah rs then(if Cw a rs then 0 else 5) else 4
def oU{n:Nat}{k:Int}:cY n k=Z↔0<=k/\k<(n:Int):=by
 unfold cY;simp
def sL{n:Nat}{ah:List Int}{rs:List cG}:wJ n ah rs=Z↔(∀k∈ah,0<=k/\k<(n:Int))/\∀r∈rs,0<=r.col/\r.col<(n:Int):=by
 unfold wJ;rw[Ux,UA,UA];simp only[oU]
def I2{a:Fq}{ah:List Int}{rs:List cG}(h:jA a ah rs=0):∃l bs,a=I (l,bs)/\wJ l.length ah rs=Z/\Cw l rs=Z:=by
 cases a with
 |none=>simp[jA] at h
 |some d=>
  obtain⟨l,bs⟩:=d;simp only[jA] at h
  split at h
  ·rename_i b
   split at h
   ·rename_i c;exact⟨l,bs,rfl,b,c⟩
   ·cases h
  ·cases h
def xu{l:List (bK×Int)}(h:nU l){k:Int}(e:cY l.length k=Z):kE l k=1\/kE l k=2\/kE l k=3:=by
 obtain⟨d,f⟩:=oU.1 e;obtain⟨b,rfl⟩:=WC d;have a:b<l.length:=by omega
 have c:=(h.1.2.2 b (by simpa using a)).1;simp only[Xt,n6,fY,Ux,decide_eq_true_eq] at c;unfold kE;rw[Uj];simp[a];omega
def yH{v:aE}{k:Int}(b:k=1\/k=2\/k=3)(h:fR v k=Z):v.s.size<=32:=by
 have a:∀s:ByteArray,(s.toList==[])=Z->s.size<=32:=λs h=>by
  have:s.toList=[]:=by simpa using h
  rw[kQ this];decide
 unfold fR at h
 split at h
 ·rw[Ux] at h;exact a _ h.2
 ·split at h
  ·exact a _ h
  ·split at h
   ·rw[Ux] at h;exact a _ h.2
   ·rw[Ux,decide_eq_true_eq] at h;have:=h.2;omega
end Cc
namespace Ec
open Go.RowKit Pk Pm
open Cc (Li Qp Fq rU wJ kE Cw jA oU sL xu yH lT)
def wO (w:F)(g:Nat)(a b c d e f:U):F:=(((((w.setCell ⟨g,0,K⟩ a).setCell ⟨g,1,K⟩ b).setCell ⟨g,2,K⟩ c).setCell ⟨g,3,K⟩ d).setCell ⟨g,4,K⟩ e).setCell ⟨g,5,K⟩ f
def xy{w:F}{g:Nat}{a b c d e f:U}{t:Ui}(i j k l m n:U)(h:w.heap[g]? =I (.cells #[a,b,c,d,e,f] t (0,0))):(wO w g i j k l m n).heap[g]? =I (.cells #[i,j,k,l,m,n] t (0,0)):=by
 have o:=Us w g 0 _ _ i h;have p:=Us _ g 1 _ _ j o;have q:=Us _ g 2 _ _ k p;have r:=Us _ g 3 _ _ l q;have s:=Us _ g 4 _ _ m r;exact Us _ g 5 _ _ n s
def oD{w w0:F}{g n:Nat}(c d e f i j:U)(h:Below n w0 w)(b:n<=w0.heap.size)(a:n<=g):Below n w0 (wO w g c d e f i j):=
 bT (bT (bT (bT (bT (bT h b a _ _) b a _ _) b a _ _) b a _ _) b a _ _) b a _ _
def qm{W:F}{g:Nat}{a b c d e f:U}{t:Ui}(h:W.heap[g]? =I (.cells #[a,b,c,d,e,f] t (0,0))):W.frozen? ⟨g,0,K⟩=T8/\W.frozen? ⟨g,1,K⟩=T8/\W.frozen? ⟨g,2,K⟩=T8/\W.frozen? ⟨g,3,K⟩=T8/\W.frozen? ⟨g,4,K⟩=T8/\W.frozen? ⟨g,5,K⟩=T8:=by
 unfold UR;simp[h]
def yy(n:Nat)(ah:List Int)(rs:List cG)(d:Option UK)(a:Nat)(b c:U)(co:Option UK)(cb bD aJ:Nat)(ro:Option UK)(rb bg aM:Nat)(sk:Bool)(w:F)(l:ah.length<=Ur)(m:rs.length<=Ur)
 (h:0<ah.length->co=I ⟨cb,bD,K⟩) (k:0<ah.length->cb<w.heap.size) (i:∀j,j<ah.length->bU w cb (bD+j) (.int .i64 (ah.getD j 0))) (o:dD w ro rb bg rs):
 bG 68 #[.agg #[.slice d n a,b,c,.slice co ah.length aJ,.slice ro rs.length aM,.bool sk]] w λe w'=>e= .returned (.bool (wJ n ah rs))/\aP w w':=by
 refine(yx n ah rs d a b c co cb bD aJ ro rb bg aM sk w l m h k i o).mono ?_;rintro e w' ⟨p,rfl,f,g⟩;refine⟨j6 ?_,g⟩;rw[XH,f];unfold wJ;rw[Ux,UA,UA,List.forall_mem_iff_forall_getElem,List.forall_mem_iff_forall_getElem]
def Aj(l:List (bK×Int))(rs:List cG)(kb g:Nat)(b c d:U)(ro:Option UK)(rb bg aM:Nat)(sk:Bool)(w:F)(t:rs.length<=Ur)(i:nU l)(a:dD w ro rb bg rs)(k:∀r∈rs,cY l.length r.col=Z)(q:kb<w.heap.size)(p:∀j x,l[j]? =I x->bU w kb (j*2+1) (.int .i64 x.1.kind)):
 bG 69 #[.agg #[.slice (I ⟨kb,0,K⟩) l.length g,b,c,d,.slice ro rs.length aM,.bool sk]] w λe w'=>e= .returned (.bool (Cw l rs))/\aP w w':=by
 have s:l.length<=Ur:=by have:=i.each.2;unfold Ur;omega
 refine(Ai l.length rs (kE l) kb g b c d ro rb bg aM sk w t s a λr a=>?_).mono ?_
 ·obtain⟨n,v⟩:=oU.1 (k r a);obtain⟨j,h⟩:=WC n;have f:j<l.length:=by omega
  refine⟨j,h,f,q,?_,xu i (k r a)⟩;have:=p j _ (Uo f);rw[this];unfold kE;rw[h,Uj];simp[f]
 ·rintro e w' ⟨u,rfl,m,o⟩;refine⟨j6 ?_,o⟩;rw[XH,m];unfold Cw;rw[UA,List.forall_mem_iff_forall_getElem]
def dD.cells{w:F}{f:Option UK}{b off:Nat}{l:List cG}(h:dD w f b off l):∀j u,(dM l)[j]? =I u->bU w b (off+j) u:=by
 intro j u e;have o:j<l.length*7:=by rw[<-rJ];exact(UB.1 e).1
 have c:j/7<l.length:=by omega
 have g:j=j/7*7+j%7:=by omega
 have p:j%7<7:=Nat.mod_lt _ (by decide);have n:(dM l)[j/7*7+j%7]? =I u:=by rw[<-g];exact e
 have d:∀a v,j%7=a->(sn l[j/7])[a]? =I v->u=v:=λa v k m=>by
  have:=od l (j/7) c a v m;rw[<-k,n] at this;exact Yl this
 have i:off+j=off+j/7*7+j%7:=by omega
 rw[i];generalize j%7=a at*;have:a=0\/a=1\/a=2\/a=3\/a=4\/a=5\/a=6:=by omega
 rcases this with rfl|rfl|rfl|rfl|rfl|rfl|rfl
 ·rw[d 0 _ Y Y];exact h.c0 _ c
 ·rw[d 1 _ Y Y];exact h.c1 _ c
 ·rw[d 2 _ Y Y];exact h.c2 _ c
 ·rw[d 3 _ Y Y];exact h.c3 _ c
 ·rw[d 4 _ Y Y];exact h.c4 _ c
 ·rw[d 5 _ Y Y];exact h.c5 _ c
 ·rw[d 6 _ Y Y];exact h.c6 _ c
structure Df(W:F)(base:Nat)(l:List (bK×Int))(L:List (Bd×U))(a b c cv rv:U)(ah:List Int)(rs:List cG):Prop where
 f:cP W base l L a b c
 c:Li W base cv ah
 r:Qp W base rv rs
def Df.put{W:F}{base:Nat}{l:List (bK×Int)}{L:List (Bd×U)}{a b c e f:U}{ah:List Int}{rs:List cG}(h:Df W base l L a b c e f ah rs){g:Nat}{cs:Array U}(d:W.heap[g]? =I (.cells cs 115 (0,0)))(o:Nat)(u:U):Df (W.setCell ⟨g,o,K⟩ u) base l L a b c e f ah rs:=by
 refine⟨⟨h.f.ah.kept (aN W g o u) (.inr (bq h.f.ah d (by decide)).symm),h.f.eJ.kept (aN W g o u) (.inr (bq h.f.eJ d (by decide)).symm),h.f.cg.put d (by decide) (by decide) o u⟩,h.c.imp (λh=>h) λh=>⟨h.1,h.2.kept (aN W g o u) (.inr (bq h.2 d (by decide)).symm)⟩,h.r.imp (λh=>h) λh=>⟨h.1,h.2.kept (aN W g o u) (.inr (bq h.2 d (by decide)).symm)⟩⟩
def Df.wO{W:F}{base:Nat}{l:List (bK×Int)}{L:List (Bd×U)}{a b c d m:U}{ah:List Int}{rs:List cG}(h:Df W base l L a b c d m ah rs){g:Nat}{t u v w x y:U}(n o p q r z:U)(k:W.heap[g]? =I (.cells #[t,u,v,w,x,y] 115 (0,0))):Df (wO W g n o p q r z) base l L a b c d m ah rs:=by
 have e:=Us W g 0 _ _ n k;have f:=Us _ g 1 _ _ o e;have i:=Us _ g 2 _ _ p f;have j:=Us _ g 3 _ _ q i;have s:=Us _ g 4 _ _ r j;exact(((((h.put k _ _).put e _ _).put f _ _).put i _ _).put j _ _).put s _ _
def SZ (w:F)(a:Fq)(ah:List Int)(rs:List cG)(sk:Bool)(e:WU)(w':F):Prop:=
 aP w w'/\((jA a ah rs≠0/\e= .returned (.tuple #[.agg #[aR,aR,aR,aR,aR,.bool T8],.int .i64 (jA a ah rs:Int)]))\/
  (∃(i:List (bK×Int)) (f:List Bd) (b:List (Bd×U)) (c d g h j:U),a=I (i,f)/\jA a ah rs=0/\e= .returned (.tuple #[.agg #[c,d,g,h,j,.bool sk],.int .i64 0])/\b.map Uy=f/\cP w' w.heap.size i b c d g/\Li w' w.heap.size h ah/\Qp w' w.heap.size j rs))
def Ou(s:ByteArray)(A:Fq)(ah:List Int)(rs:List cG)(co:Option UK)(cb bD aJ:Nat)(ro:Option UK)(rb bg aM:Nat)(sk:Bool)(w:F)(e2:s.size<=Ur)(hF:rU s A)(et:ah.length<=1000)(e5:rs.length<=1000)
 (eq:0<ah.length->co=I ⟨cb,bD,K⟩) (es:0<ah.length->cb<w.heap.size) (er:∀j,j<ah.length->bU w cb (bD+j) (.int .i64 (ah.getD j 0))) (Y:dD w ro rb bg rs):
 bG 48 #[.string s,.slice co ah.length aJ,.slice ro rs.length aM,.bool sk] w (SZ w A ah rs sk):=by
 have b2:=af eq;have a3:=af es;have du:=af er;have d3:=af Y;have a4:=af hF;have b4:=af et;have a8:=af e5;have ae:X ((w.alloc (.cells #[aR,aR,aR,aR,aR,.bool T8] 115)).heap[w.heap.size]? =I (.cells #[aR,aR,aR,aR,aR,.bool T8] 115 (0,0))):=bh w _;have b1:X (aP w (w.alloc (.cells #[aR,aR,aR,aR,aR,.bool T8] 115))):=(Uq _ _).alloc (T9 _) _;go_enter ay.func48,Tryz.ntmps48
 go_wp2_with fail
 refine(uB s _ e2).mono ?_;rintro u k ⟨W,⟨a,cp,b,fa,fb,fd,rfl,az,ef,ar,fg⟩|⟨rfl,e3⟩⟩;rotate_left
 ·have ec:jA A ah rs=3:=by
   cases A with
   |none=>rfl
   |some e8=>exact(e3 _ _ a4.o.1).elim
  have a0:=Uf ae.o;have bm:(k.alloc (.cells #[aR,aR,aR] 105)).heap[w.heap.size]? =I (.cells #[aR,aR,aR,aR,aR,.bool T8] 115 (0,0)):=by rw[UO _ _ _ (Ue a0 W.size)];exact(W.block _ a0).trans ae.o
  have U:aP w k:=b1.o.trans (W.mono (by simp));have ea:aP w (k.alloc (.cells #[aR,aR,aR] 105)):=U.alloc U.size _;have q:=af ec
  go_upto_region 3 with fail
  generalize k.alloc (.cells #[aR,aR,aR] 105)=d7 at*;have B:X (aP w (wO d7 w.heap.size aR aR aR aR aR (.bool T8))):=oD _ _ _ _ _ _ ea (T9 _) (T9 _);obtain⟨bu,bv,bx,bA,bB,b0⟩:=jE bm;obtain⟨bb,bc,bd,be,bi,bj⟩:=qm bm;obtain⟨L,M,N,O,P,Q⟩:=jE (xy aR aR aR aR aR (.bool T8) bm);unfold wO at*;go_wp2;simp[VS,UY,Tryz.results48,go_sem,L,M,N,O,P,Q];exact⟨B.o,.inl ⟨by rw[q.o];decide,by rw[q.o];rfl⟩⟩
 ·have ee:A=I (a,cp):=by
   cases A with
   |none=>exact(a4.o _ _ az).elim
   |some e8=>
    obtain⟨d8,d9⟩:=a4.o.2 _ _ az;rw[d8,d9]
  have ad:=af ee;have d2:=af ef;have e4:0<a.length:=by
   have:=az.1.pl.1.1;simp at this;omega
  have a5:=af az.1.pl;obtain⟨c,f,rfl,fi,c6,e7⟩:=lT ar.ah e4;obtain⟨e,d,rfl⟩:=bz ar.eJ;obtain⟨g,h,rfl⟩:=bz ar.cg.own;have a0:=Uf ae.o;have U:aP w k:=b1.o.trans (W.mono (by simp));have cu:k.heap[w.heap.size]? =I (.cells #[aR,aR,aR,aR,aR,.bool T8] 115 (0,0)):=(W.block _ a0).trans ae.o;have e1:w.heap.size<k.heap.size:=Uf cu;have V:aP k ((k.alloc (.cells #[.slice (I ⟨c,0,K⟩) a.length f,.slice e a.length d,.slice g b.length h] 105)).alloc (.cells #[.slice (I ⟨c,0,K⟩) a.length f,.slice e a.length d,.slice g b.length h,.slice co ah.length aJ,.slice ro rs.length aM,.bool sk] 115)):=((Uq _ _).alloc (T9 _) _).alloc (by simp) _;have a6:X (((k.alloc (.cells #[.slice (I ⟨c,0,K⟩) a.length f,.slice e a.length d,.slice g b.length h] 105)).alloc (.cells #[.slice (I ⟨c,0,K⟩) a.length f,.slice e a.length d,.slice g b.length h,.slice co ah.length aJ,.slice ro rs.length aM,.bool sk] 115)).heap[k.heap.size+1]? =I (.cells #[.slice (I ⟨c,0,K⟩) a.length f,.slice e a.length d,.slice g b.length h,.slice co ah.length aJ,.slice ro rs.length aM,.bool sk] 115 (0,0))):=jI _ _ _;have al:X (((k.alloc (.cells #[.slice (I ⟨c,0,K⟩) a.length f,.slice e a.length d,.slice g b.length h] 105)).alloc (.cells #[.slice (I ⟨c,0,K⟩) a.length f,.slice e a.length d,.slice g b.length h,.slice co ah.length aJ,.slice ro rs.length aM,.bool sk] 115)).heap[w.heap.size]? =I (.cells #[aR,aR,aR,aR,aR,.bool T8] 115 (0,0))):=(V.block _ e1).trans cu;have B:X (aP w ((k.alloc (.cells #[.slice (I ⟨c,0,K⟩) a.length f,.slice e a.length d,.slice g b.length h] 105)).alloc (.cells #[.slice (I ⟨c,0,K⟩) a.length f,.slice e a.length d,.slice g b.length h,.slice co ah.length aJ,.slice ro rs.length aM,.bool sk] 115))):=U.trans (V.mono U.size);have d0:X (cP ((k.alloc (.cells #[.slice (I ⟨c,0,K⟩) a.length f,.slice e a.length d,.slice g b.length h] 105)).alloc (.cells #[.slice (I ⟨c,0,K⟩) a.length f,.slice e a.length d,.slice g b.length h,.slice co ah.length aJ,.slice ro rs.length aM,.bool sk] 115)) w.heap.size a b (.slice (I ⟨c,0,K⟩) a.length f) (.slice e a.length d) (.slice g b.length h)):=(ar.base (by simp)).below V;have e0:c<((k.alloc (.cells #[.slice (I ⟨c,0,K⟩) a.length f,.slice e a.length d,.slice g b.length h] 105)).alloc (.cells #[.slice (I ⟨c,0,K⟩) a.length f,.slice e a.length d,.slice g b.length h,.slice co ah.length aJ,.slice ro rs.length aM,.bool sk] 115)).heap.size:=Ue c6 V.size;have d1:X (∀j E,a[j]? =I E->((k.alloc (.cells #[.slice (I ⟨c,0,K⟩) a.length f,.slice e a.length d,.slice g b.length h] 105)).alloc (.cells #[.slice (I ⟨c,0,K⟩) a.length f,.slice e a.length d,.slice g b.length h,.slice co ah.length aJ,.slice ro rs.length aM,.bool sk] 115)).cell? ⟨c,j*2+1,K⟩=I (.int .i64 E.1.kind)):=λj E p=>by
   obtain⟨bo,rfl⟩:=UB.1 p;have:=(AN (a.map Uy) j (by simpa using bo)).2;simp only[Xt] at this;exact(V.cell (p:=⟨c,j*2+1,K⟩) c6).trans (e7 _ _ this)
  have b5:X (w.heap.size≠k.heap.size+1):=by show _≠_;omega
  have b6:X (w.heap.size<=k.heap.size+1):=by show _<=_;omega
  go_upto_region 5 with fail
  generalize (k.alloc (.cells #[.slice (I ⟨c,0,K⟩) a.length f,.slice e a.length d,.slice g b.length h] 105)).alloc (.cells #[.slice (I ⟨c,0,K⟩) a.length f,.slice e a.length d,.slice g b.length h,.slice co ah.length aJ,.slice ro rs.length aM,.bool sk] 115)=an at*;generalize k.heap.size+1=o at*;have cR:=B.o.size;have c0:∀j,j<ah.length->bU an cb (bD+j) (.int .i64 (ah.getD j 0)):=λj p=>(B.o.cell (p:=⟨cb,bD+j,K⟩) (a3.o (by omega))).trans (du.o j p);have c4:dD an ro rb bg rs:=d3.o.below B.o;have aa:=yy a.length ah rs (I ⟨c,0,K⟩) f (.slice e a.length d) (.slice g b.length h) co cb bD aJ ro rb bg aM sk an (by have:=b4.o;unfold Ur;omega) (by have:=a8.o;unfold Ur;omega) b2.o (λl=>Ue (a3.o l) cR) c0 c4;have dv:=af c0;have d4:=af c4;have b3:X (0<ah.length->cb<an.heap.size):=λl=>Ue (a3.o l) cR;obtain⟨c7,c8,c9,da,db,dc⟩:=jE a6.o;have cc:=af e0;cases aw:wJ a.length ah rs
  ·rw[aw] at aa;have q:X (jA A ah rs=4):=by
    show _=_;rw[ad.o];simp[jA,aw]
   go_upto_region 6 with(go_at_call 68;refine aa.mono ?_;rintro u m ⟨rfl,i⟩;have H:m.heap[w.heap.size]? =I (.cells #[aR,aR,aR,aR,aR,.bool T8] 115 (0,0)):=(i.block _ (Uf al.o)).trans al.o;have R:X (aP w m):=B.o.trans (i.mono B.o.size))
   have C:X (aP w (wO m w.heap.size aR aR aR aR aR (.bool T8))):=oD _ _ _ _ _ _ R.o (T9 _) (T9 _);obtain⟨bu,bv,bx,bA,bB,b0⟩:=jE H;obtain⟨bb,bc,bd,be,bi,bj⟩:=qm H;obtain⟨L,M,N,O,P,Q⟩:=jE (xy aR aR aR aR aR (.bool T8) H);unfold wO at*;go_wp2;simp[VS,UY,Tryz.results48,go_sem,L,M,N,O,P,Q];exact⟨C.o,.inl ⟨by rw[q.o];decide,by rw[q.o];rfl⟩⟩
  ·rw[aw] at aa;have a2:=af aw
   go_upto_region 7 with(go_at_call 68;refine aa.mono ?_;rintro u m ⟨rfl,i⟩;have am:X (m.heap[w.heap.size]? =I (.cells #[aR,aR,aR,aR,aR,.bool T8] 115 (0,0))):=(i.block _ (Uf al.o)).trans al.o;have a7:X (m.heap[o]? =I (.cells #[.slice (I ⟨c,0,K⟩) a.length f,.slice e a.length d,.slice g b.length h,.slice co ah.length aJ,.slice ro rs.length aM,.bool sk] 115 (0,0))):=(i.block _ (Uf a6.o)).trans a6.o;have R:X (aP w m):=B.o.trans (i.mono B.o.size);have dO:X (cP m w.heap.size a b (.slice (I ⟨c,0,K⟩) a.length f) (.slice e a.length d) (.slice g b.length h)):=d0.o.below i;have ds:X (∀j,j<ah.length->bU m cb (bD+j) (.int .i64 (ah.getD j 0))):=λj p=>(i.cell (p:=⟨cb,bD+j,K⟩) (b3.o (by omega))).trans (dv.o j p);have ch:X (dD m ro rb bg rs):=d4.o.below i;have dE:X (0<ah.length->cb<m.heap.size):=λl=>Ue (b3.o l) i.size;have ca:X (c<m.heap.size/\∀j E,a[j]? =I E->bU m c (j*2+1) (.int .i64 E.1.kind)):=⟨Ue cc.o i.size,λj E p=>(i.cell (p:=⟨c,j*2+1,K⟩) cc.o).trans (d1.o j E p)⟩)
   obtain⟨c7,c8,c9,da,db,dc⟩:=jE a7.o;have c5:∀D∈rs,cY a.length D.col=Z:=by
    have:=a2.o;unfold wJ at this;rw[Ux,UA,UA] at this;exact this.2
   have ab:=Aj a rs c f (.slice e a.length d) (.slice g b.length h) (.slice co ah.length aJ) ro rb bg aM sk m (by have:=a8.o;unfold Ur;omega) a5.o ch.o c5 ca.o.1 ca.o.2;have ck:=af c5;cases S:Cw a rs
   ·rw[S] at ab;have q:X (jA A ah rs=5):=by
     show _=_;rw[ad.o];simp[jA,S,a2.o]
    go_upto_region 8 with(go_at_call 69;refine ab.mono ?_;rintro u n ⟨rfl,i⟩;have H:n.heap[w.heap.size]? =I (.cells #[aR,aR,aR,aR,aR,.bool T8] 115 (0,0)):=(i.block _ (Uf am.o)).trans am.o;have C:X (aP w n):=R.o.trans (i.mono R.o.size))
    have T:X (aP w (wO n w.heap.size aR aR aR aR aR (.bool T8))):=oD _ _ _ _ _ _ C.o (T9 _) (T9 _);obtain⟨bu,bv,bx,bA,bB,b0⟩:=jE H;obtain⟨bb,bc,bd,be,bi,bj⟩:=qm H;obtain⟨L,M,N,O,P,Q⟩:=jE (xy aR aR aR aR aR (.bool T8) H);unfold wO at*;go_wp2;simp[VS,UY,Tryz.results48,go_sem,L,M,N,O,P,Q];exact⟨T.o,.inl ⟨by rw[q.o];decide,by rw[q.o];rfl⟩⟩
   ·rw[S] at ab;have q:X (jA A ah rs=0):=by
     show _=_;rw[ad.o];simp[jA,S,a2.o]
    have d5:X (∀D∈rs,D.low.s.size<=32/\D.high.s.size<=32):=λD Y=>by
     unfold Cw at S;have ao:=UA.1 S D Y;unfold iX at ao;rw[Ux] at ao;exact⟨yH (xu a5.o (ck.o D Y)) ao.1,yH (xu a5.o (ck.o D Y)) ao.2⟩
    go_upto_region 9 with(go_at_call 69;refine ab.mono ?_;rintro u n ⟨rfl,i⟩;have cl:X (n.heap[w.heap.size]? =I (.cells #[aR,aR,aR,aR,aR,.bool T8] 115 (0,0))):=(i.block _ (Uf am.o)).trans am.o;have cd:X (n.heap[o]? =I (.cells #[.slice (I ⟨c,0,K⟩) a.length f,.slice e a.length d,.slice g b.length h,.slice co ah.length aJ,.slice ro rs.length aM,.bool sk] 115 (0,0))):=(i.block _ (Uf a7.o)).trans a7.o;have C:X (aP w n):=R.o.trans (i.mono R.o.size);have dT:X (cP n w.heap.size a b (.slice (I ⟨c,0,K⟩) a.length f) (.slice e a.length d) (.slice g b.length h)):=dO.o.below i;have dt:X (∀j,j<ah.length->bU n cb (bD+j) (.int .i64 (ah.getD j 0))):=λj p=>(i.cell (p:=⟨cb,bD+j,K⟩) (dE.o (by omega))).trans (ds.o j p);have ci:X (dD n ro rb bg rs):=ch.o.below i)
    have dd:=z7 ah co cb bD aJ n b4.o b2.o (λj fl p=>by
     obtain⟨bo,u⟩:=UB.1 p;have c3:j<ah.length:=by simpa [bw] using bo
     rw[dt.o j c3,<-u];simp[bw,Uj,c3])
    have df:=λcn (em:aP n cn)=>yc rs ro rb bg aM cn a8.o (λl=>ci.o.addr l) (ci.o.below em).cells d5.o
    go_upto_region 10 with(first|(go_at_call 70;refine dd.mono ?_;rintro u bt ⟨cv,en⟩;have eQ:∃a9,u= .returned a9/\Li bt n.heap.size a9 ah:=en.elim (fun⟨G,ba,J⟩=>⟨_,J,.inl ⟨G,ba,rfl⟩⟩) (fun⟨G,v,J,br⟩=>⟨v,J,.inr ⟨G,br⟩⟩);obtain⟨a9,rfl,c1⟩:=eQ;obtain⟨r,fe,t,rfl,_⟩:=c1.at_;have dC:=af c1;have T:=af cv;have dk:=df bt cv)|(go_at_call 71;refine dk.mono ?_;rintro u z ⟨cx,eo⟩;have e6:∃bs,u= .returned bs/\Qp z bt.heap.size bs rs:=eo.elim (fun⟨G,ba,J⟩=>⟨_,J,.inl ⟨G,ba,rfl⟩⟩) (fun⟨G,v,J,br⟩=>⟨v,J,.inr ⟨G,br⟩⟩);obtain⟨bs,rfl,c2⟩:=e6;obtain⟨x,fk,y,rfl,_⟩:=c2.at_;have ap:aP n z:=T.o.trans (cx.mono T.o.size);have dr:X (aP w z):=C.o.trans (ap.mono C.o.size);have el:z.heap[w.heap.size]? =I (.cells #[aR,aR,aR,aR,aR,.bool T8] 115 (0,0)):=(ap.block _ (Uf cl.o)).trans cl.o;have bl:z.heap[o]? =I (.cells #[.slice (I ⟨c,0,K⟩) a.length f,.slice e a.length d,.slice g b.length h,.slice co ah.length aJ,.slice ro rs.length aM,.bool sk] 115 (0,0)):=(ap.block _ (Uf cd.o)).trans cd.o;have dl:X (Df z w.heap.size a b (.slice (I ⟨c,0,K⟩) a.length f) (.slice e a.length d) (.slice g b.length h) (.slice r ah.length t) (.slice x rs.length y) ah rs):=⟨dT.o.below ap,(dC.o.below cx).imp (λl=>l) (λl=>⟨l.1,bL l.2 C.o.size⟩),c2.imp (λl=>l) (λl=>⟨l.1,bL l.2 (Uz C.o.size T.o.size)⟩)⟩;obtain⟨u0,u1,u2,u3,u4,u5⟩:=jE bl;obtain⟨fm,ft,fu,fv,fx,fz⟩:=qm bl;have d6:=af el;have cf:=af bl))
    have cs:=Us _ o 3 _ _ (.slice r ah.length t) cf.o;have eh:=Us _ o 4 _ _ (.slice x rs.length y) cs;have av:((z.setCell ⟨o,3,K⟩ (.slice r ah.length t)).setCell ⟨o,4,K⟩ (.slice x rs.length y)).heap[w.heap.size]? =I (.cells #[aR,aR,aR,aR,aR,.bool T8] 115 (0,0)):=by
     rw[Uv _ _ _ _ b5.o,Uv _ _ _ _ b5.o];exact d6.o
    have dp:X (Df ((z.setCell ⟨o,3,K⟩ (.slice r ah.length t)).setCell ⟨o,4,K⟩ (.slice x rs.length y)) w.heap.size a b (.slice (I ⟨c,0,K⟩) a.length f) (.slice e a.length d) (.slice g b.length h) (.slice r ah.length t) (.slice x rs.length y) ah rs):=(dl.o.put cf.o _ _).put cs _ _;have eb:aP w ((z.setCell ⟨o,3,K⟩ (.slice r ah.length t)).setCell ⟨o,4,K⟩ (.slice x rs.length y)):=bT (bT dr.o (T9 _) b6.o _ _) (T9 _) b6.o _ _;generalize ((z.setCell ⟨o,3,K⟩ (.slice r ah.length t)).setCell ⟨o,4,K⟩ (.slice x rs.length y))=e9 at*;have a1:X _:=dp.o.wO (.slice (I ⟨c,0,K⟩) a.length f) (.slice e a.length d) (.slice g b.length h) (.slice r ah.length t) (.slice x rs.length y) (.bool sk) av;have dq:X _:=oD (.slice (I ⟨c,0,K⟩) a.length f) (.slice e a.length d) (.slice g b.length h) (.slice r ah.length t) (.slice x rs.length y) (.bool sk) eb (T9 _) (T9 _);obtain⟨L,M,N,O,P,Q⟩:=jE (xy (.slice (I ⟨c,0,K⟩) a.length f) (.slice e a.length d) (.slice g b.length h) (.slice r ah.length t) (.slice x rs.length y) (.bool sk) av);obtain⟨bu,bv,bx,bA,bB,b0⟩:=jE av;obtain⟨bb,bc,bd,be,bi,bj⟩:=qm av;obtain⟨c7,c8,c9,da,db,dc⟩:=jE eh;unfold wO at*;go_wp2;simp[VS,UY,Tryz.results48,go_sem,L,M,N,O,P,Q];exact⟨dq.o,.inr ⟨a,cp,b,_,_,_,_,_,ad.o,q.o,rfl,d2.o,a1.o.f,a1.o.c,a1.o.r⟩⟩
end Ec
namespace Ec
open Go.RowKit Pk Pm
open Cc (Li Qp Fq rU wJ kE Cw jA lT FM QA zO gG jC FM.kept)
def vq (w:F)(a:Fq)(ah:List Int)(rs:List cG)(sk:Bool)(e:WU)(w':F):Prop:=
 aP w w'/\((jA a ah rs≠0/\e= .returned (.tuple #[.pointer K,.int .i64 (jA a ah rs:Int)]))\/
  (∃(d:List (bK×Int)) (b:List Bd) (c g p f o:Nat) (k:Option UK) (l di:Nat) (cT nj:Nat->Nat) (j:Option UK) (i aJ:Nat) (n:Option UK) (m aM:Nat),a=I (d,b)/\jA a ah rs=0/\e= .returned (.tuple #[(bS c),.int .i64 0])/\w.heap.size<=c/\w'.heap[c]? =I (.cells (jC (gG g d.length p f d.length o k b.length di j ah.length aJ n rs.length aM sk) 0 0) 119 (0,0))/\FM w' d b ah rs g f k l cT nj j i 0 n m 0/\∀h,zO g f l cT i m b.length ah.length rs.length h->w.heap.size<=h/\h<c))
def xO(a:Fq)(ah:List Int)(rs:List cG):jA a ah rs=0\/jA a ah rs=3\/jA a ah rs=4\/jA a ah rs=5:=by
 unfold jA
 split
 ·simp
 ·split
  ·split<;>simp
  ·simp
def p9(s:ByteArray)(b:Fq)(ah:List Int)(rs:List cG)(co:Option UK)(cb bD aJ:Nat)(ro:Option UK)(rb bg aM:Nat)(sk:Bool)(w:F)(aa:s.size<=Ur)(hF:rU s b)(V:ah.length<=1000)(ae:rs.length<=1000)
 (R:0<ah.length->co=I ⟨cb,bD,K⟩) (U:0<ah.length->cb<w.heap.size) (S:∀j,j<ah.length->bU w cb (bD+j) (.int .i64 (ah.getD j 0))) (ad:dD w ro rb bg rs):
 bG 31 #[.string s,.slice co ah.length aJ,.slice ro rs.length aM,.bool sk] w (vq w b ah rs sk):=by
 have C:=Ou s b ah rs co cb bD aJ ro rb bg aM sk w aa hF V ae R U S ad;have z:=af hF;go_enter ay.func31,Tryz.ntmps31
 go_wp2_with fail
 refine C.mono ?_;rintro aw d ⟨l,⟨ab,rfl⟩|⟨a,c,an,ao,ap,ar,av,a0,B,M,rfl,P,O,T,W⟩⟩
 ·have az:=xO b ah rs;have L:aP w (d.alloc (.cells #[aR,aR,aR,aR,aR,.bool T8] 115)):=l.alloc l.size _;have t:=af L;have am:=af ab;have u:X (∀m,jA b ah rs=m->m≠0->∀v,aP w v->vq w b ah rs sk (.returned (.tuple #[.pointer K,.int .i64 (m:Int)])) v):=λm A H v Q=>⟨Q,.inl ⟨by rw[A];exact H,by rw[A]⟩⟩;generalize jA b ah rs=m at*;have J:m=3\/m=4\/m=5:=by omega
  rcases J with rfl|rfl|rfl
  ·go_wp2;simp[VS,UY,Tryz.results31,go_sem];exact u.o 3 Y (by decide) _ t.o
  ·go_wp2;simp[VS,UY,Tryz.results31,go_sem];exact u.o 4 Y (by decide) _ t.o
  ·go_wp2;simp[VS,UY,Tryz.results31,go_sem];exact u.o 5 Y (by decide) _ t.o
 ·have Z:xf a c:=by
   rw[B] at z;exact z.o.1.1
  obtain⟨n,g,k,f,i,G,di,cT,nj,h,E,e,p,al,o,rfl,rfl,rfl,rfl,rfl,N,y⟩:=QA Z P O T W;have x:aP d ((d.alloc (.cells #[.slice (I ⟨n,0,K⟩) a.length g,.slice (I ⟨k,0,K⟩) a.length f,.slice i c.length di,.slice h ah.length e,.slice p rs.length o,.bool sk] 115)).alloc (.cells #[.slice (I ⟨n,0,K⟩) a.length g,.slice (I ⟨k,0,K⟩) a.length f,.slice i c.length di,.slice h ah.length e,.slice p rs.length o,.bool sk,.int .i64 0,.int .i64 0] 119)):=((Uq _ _).alloc (T9 _) _).alloc (by simp) _;have D:X (vq w b ah rs sk (.returned (.tuple #[(bS (d.heap.size+1)),.int .i64 0])) ((d.alloc (.cells #[.slice (I ⟨n,0,K⟩) a.length g,.slice (I ⟨k,0,K⟩) a.length f,.slice i c.length di,.slice h ah.length e,.slice p rs.length o,.bool sk] 115)).alloc (.cells #[.slice (I ⟨n,0,K⟩) a.length g,.slice (I ⟨k,0,K⟩) a.length f,.slice i c.length di,.slice h ah.length e,.slice p rs.length o,.bool sk,.int .i64 0,.int .i64 0] 119))):=
   ⟨l.trans (x.mono l.size),.inr ⟨a,c,d.heap.size+1,n,g,k,f,i,G,di,cT,nj,h,E,e,p,al,o,B,M,rfl,by have:=l.size;omega,jI _ _ _,N.kept x.size (λq r=>Cc.D4 (x.block q (y q r).2)),λq r=>⟨(y q r).1,by have:=(y q r).2;omega⟩⟩⟩
  go_wp2;simp[VS,UY,Tryz.results31,go_sem];exact D.o
def kY(cu:Nat)(w:F):bG 36 #[(bS cu)] w λe w'=>e= .returned (.func (.func 53) #[] #[(bS w.heap.size)])/\w'=w.alloc (.cells #[(bS cu)] 74):=by
 have c:∀(b:Fn) (first a:Array U) (w:F),(Instr.makeFunc b first a).run (aB T5) w= .ok (.func b first a) w:=λ_ _ _ _=>rfl;go_enter ay.func36,Tryz.ntmps36;go_wp2;go_ret;exact⟨rfl,rfl⟩
def mG(cu:Nat)(v:U)(w:F)(h:bU w cu 7 v):bG 32 #[(bS cu)] w λe w'=>e= .returned v/\w'=w:=by
 go_enter ay.func32,Tryz.ntmps32;go_wp2;go_ret;exact⟨rfl,rfl⟩
end Ec
namespace Cc
open Go Go.Conc
open Go.RowKit (Below)
open Ec (aE aH cG dD qv bK Bd aX ga vq p9 kY mG)
section
variable {P0 P:Ug}{Post:U->F->Prop}{own:Nat->Prop}{cs:List Uu}{w:F}{b:Uu}{a:V7}{k:List WO}{ops:Array Vv}{i:Nat}{rest:List Nat}{o:Vv}
def ni{W:F}(d:∀(b:Nat) o,w.heap[b]? =I o->bk P0 o->W.heap[b]? =I o){p:UK}{v:U}(h:w.cell? p=I v):W.cell? p=I v:=by
 unfold Ut at h ⊢;cases c:w.heap[p.block]? with
 |none=>rw[c] at h;cases h
 |some e=>
  rw[c] at h;cases e<;>first|(cases h;done)|skip
  rw[d _ _ c trivial];exact h
def Pw{W:F}(e:∀(b:Nat) o,w.heap[b]? =I o->bk P0 o->W.heap[b]? =I o)(j:w.heap.size<=W.heap.size){f:Option UK}{b off:Nat}{l:List cG}(h:dD w f b off l):dD W f b off l:=
 ⟨h.addr,λg=>Ue (h.lt g) j,λd c=>ni e (h.c0 d c),λd c=>ni e (h.c1 d c),λd c=>ni e (h.c2 d c),λd c=>ni e (h.c3 d c),λd c=>ni e (h.c4 d c),λd c=>ni e (h.c5 d c),λd c=>ni e (h.c6 d c)⟩
def gp (w:F):Nat->Prop:=λb=>b<w.heap.size
def RR{fr:Uu}(h:∀c,RelB own w c->Xe P0 P Post (gp c) fr cs c):Xe P0 P Post own fr cs w:=λf c e d=>h c e (λb h=>h) c (RelB.refl _ _) d
def oY(h:Twins P0 P){f:FuncId}{fn:WD}{c:WX}{args:Array U7}{ats:Array Ui}{vs:Array U}{R:F->U->F->Prop}(L:b.kind= .normal)(n:ops[i]? =I o)(aa:UG o (Vk ops a.tmps)=Z)(S:o.op= .call {callee:=.value (.func f),args,argTypes:=ats})(J:args.map a.eval=vs)
 (N:P.funcs[f]? =I fn) (Q:(fn.name == "runtime.NumGoroutine")=T8) (K:fn.body=I c) (O:P.funcs[f]? =P0.funcs[f]?) (V:eO P0 (b.at a (.inRegion ops (i::rest)::k)) [])
 (hR:∀W,(∀(b:Nat) o,w.heap[b]? =I o->bk P0 o->W.heap[b]? =I o)->w.heap.size<=W.heap.size->Calls P0 f vs W λe W'=>aP W W'/\∃v,e= .returned v/\R W v W')
 (G:∀v W W' w',(∀(b:Nat) o,w.heap[b]? =I o->bk P0 o->W.heap[b]? =I o)->w.heap.size<=W.heap.size->aP W W'->R W v W'->Un W' w'->RelB (gp w) w w'->Xe P0 P Post (gp w') (b.at (a.put o.dst v) (.inRegion ops rest::k)) cs w'):Xe P0 P Post (gp w) (b.at a (.inRegion ops (i::rest)::k)) cs w:=by
 intro y;refine sE (P0:=P0) (R:=λm e ab=>∃l,Mk P0 l m/\Tl l m (λe W'=>∃W,W.heap=l.heap/\aP W W'/\∃v,e= .returned v/\R W v W') e ab) L n aa S J N Q K V (λm d=>?_) (λm v w' d Y u T=>?_) (λm ad w' ⟨_,_,_,_,_,_,W,_,_,v,e,_⟩=>by cases e) (λm w' ⟨_,_,_,_,_,_,W,_,_,v,e,_⟩=>by cases e) y
 ·obtain⟨l,j⟩:=D7 P0 m;intro A B p g D E;exact pN h j.hp j.un O (λw' ⟨W,_,_,v,e,_⟩=>by cases e) (λq=>(hR (sh q 0 l) (λb o n s=>j.at_ b o ((d.at_ b (Uc.1 n).1).trans n) s) (by show w.heap.size<=l.heap.size;rw[<-j.un.size];exact d.size)).mono λe W' ⟨p,g⟩=>⟨sh q 0 l,rfl,p,g⟩) A B p g D λe w' M=>E e w' ⟨l,j,M⟩
 obtain⟨l,j,q,C,W',g,W,t,r,ae,e,H⟩:=Y;cases e;have X:W.heap.size<=w'.heap.size:=by rw[g.un.size];exact r.size
 have x:W.heap.size=m.heap.size:=by rw[t,j.un.size]
 have hrel:RelB (gp w) w w':=⟨λb z=>by
  have p:W'.heap[b]? =W.heap[b]? :=r.block b (by rw[x];exact Ue (y b z) d.size);exact(g.same j.un (by rw[p,t])).trans (d.at_ b z),Uz d.size (by rw[<-x];exact X),u.tape.trans d.tape,u.os.trans d.os,u.output.trans d.output⟩
 exact Xe.go (G v W (sh q C W') w' (λb o n s=>by rw[t];exact j.at_ b o ((d.at_ b (Uc.1 n).1).trans n) s) (by rw[x];exact d.size) r H ⟨g.un.size,g.un.at_,g.un.os,g.un.output⟩ hrel) (λb h=>h) T
def ND{P:Ug}{b:Uu}{a:V7}{todo:List WO}{D:Nat}{m:FrameMode}(d:b.kind= .normal)(g:a.defers=[{target:=.collected D,args:= #[]}])(n:(todo.all (yB P))=Z):eO P {b.at a todo with mode:=m} []:=by
 refine⟨⟨λi l=>?_,λe h=>?_,.inl d⟩,λf j=>by simp at j,d⟩
 ·have:=UA.1 n i l;cases i<;>first|exact this|trivial|cases this
 ·have c:e∈a.defers:=h;rw[g] at c;simp only[WJ] at c;subst c;rfl
def ID{P:Ug}{b:Uu}{a:V7}{todo:List WO}{D:Nat}(c:b.kind= .normal)(d:a.defers=[{target:=.collected D,args:= #[]}])(e:(todo.all (yB P))=Z):eO P (b.at a todo) []:=ND (m:=.run) c d e
end
def xL{a:V7}{x y z u:U7}{d e f c:U}(h1:a.eval x=d)(g:a.eval y=e)(h:a.eval z=f)(j:a.eval u=c): #[x,y,z,u].map a.eval=#[d,e,f,c]:=by simp[h1,g,h,j]
def xG (f:Fq)(V:Nat->Nat->List aE):Prop:=match f with
 |none=>True
 |some (h,g)=>∀(i:Nat) b,g[i]? =I b->∀(c:Nat) e d,b.chunks[c]? =I e->h[c]? =I d->pq e.text d.1.kind d.2 (b.rows:Int) (V i c)
def sx (d:Fq)(V:Nat->Nat->List aE)(ah:List Int)(rs:List cG)(sk:Bool)(Go:List dz->Bool):List dz×Nat×Nat:=match d with
 |none=>([],0,0)
 |some (e,c)=>iY sk c ah rs (aX e.length (ah++rs.map cG.col)) V Go 0 c.length [] 0
def oN (c:Fq)(V:Nat->Nat->List aE)(ah:List Int)(rs:List cG)(sk:Bool):List (List aE)×Nat:=
 if jA c ah rs=0 then(if (sx c V ah rs sk λ_=>Z).2.2=0 then((sx c V ah rs sk λ_=>Z).1.map VV,0) else([],(sx c V ah rs sk λ_=>Z).2.2)) else([],jA c ah rs)
def sJ (W:F)(base:Nat)(v:U)(h:List (List aE)):Prop:=
 ∃d,W.ownsRow base 43 1 v h.length d/\(∀(i:Nat) e,h[i]? =I e->∃c,d[i]? =I c/\W.ownsRow base 59 3 c e.length (aH e))/\∀(i g:Nat) c j f,d[i]? =I c->d[g]? =I j->c.ownBlock=I f->j.ownBlock=I f->i=g
def Dh (c:List (List aE)×Nat)(w0:F)(e:WU)(w':F):Prop:=
 ∃v,e= .returned (.tuple #[v,.int .i64 (c.2:Int)])/\sJ w' w0.heap.size v c.1/\(c.2≠0->v=aR)/\(∀b,b<w0.heap.size->w'.heap[b]? =w0.heap[b]?)/\w0.heap.size<=w'.heap.size
def R2:(Tryz.f31.name == "runtime.NumGoroutine")=T8:=by kernel_rfl
def K7:(Tryz.f36.name == "runtime.NumGoroutine")=T8:=by kernel_rfl
def Fe:(Tryz.f32.name == "runtime.NumGoroutine")=T8:=by kernel_rfl
def sJ.nil(W:F)(base:Nat):sJ W base aR []:=⟨[],Vq _ _ _ _,λi h c=>by simp at c,λi e g f d c=>by simp at c⟩
def Sn{s:ByteArray}{l:List (bK×Int)}{bs:List Bd}{ah:List Int}{rs:List cG}{V:Nat->Nat->List aE}(d:ga s l bs)(e:wJ l.length ah rs=Z)(j:ah.length<=1000)(x:rs.length<=1000)(h:xG (I (l,bs)) V):FQ l bs ah rs V:=by
 have u:l.length<=8:=by
  have:=d.1.pl.1.2.1;simpa using this
 have v:bs.length<=2000:=by
  have r:=Ec.tC bs (λb c=>(d.1.cg b c).lo);have t:=d.1.rows;omega
 refine⟨λb c=>by have:=(d.1.cg b c).len;simpa using this,by omega,by have:=d.1.pl.1.1;simp at this;omega,λb c=>(d.1.cg b c).hi,d.1.rows,by omega,j,by unfold Ur;omega,(sL.1 e).1,(sL.1 e).2,λi b c g p q f n=>⟨?_,h i b c g p q f n⟩⟩;obtain⟨m,rfl⟩:=UB.1 f;have:=((d.1.cg b (VE c)).each g m).n;unfold Ur;omega
def zl (fn:WD):WX:=match fn.body with
 |some (.seq _ (.seq _ (.seq _ (.seq _ (.seq _ c)))))=>c
 |_=>.skip
section
variable {Post:U->F->Prop}{cs:List Uu}{w:F}{a:V7}{c:Uu}
def Knows.same{a a':V7}{n:Nat}{l:List (Nat×U)}(b:Knows a n l)(h:a'.tmps=a.tmps):Knows a' n l:=⟨by rw[h];exact b.size,λs v d=>by unfold aV;rw[h];exact b.slot s v d⟩
def tO{D:Nat}{todo:List WO}(f:a.defers=[{target:=.collected D,args:= #[]}])(e:w.heap[D]? =I (.deferred (I [])))(l:(todo.all (yB (aB T5)))=Z){b:Uu}(k:b.kind= .normal)
 (j:∀a' w',a'.tmps=a.tmps->a'.defers=[]->w.heap.size<=w'.heap.size->(∀x,x<w.heap.size->x≠D->w'.heap[x]? =w.heap[x]?)->w'.tape=w.tape->w'.os=w.os->w'.output=w.output->Xe (aB T5) T5 Post (gp w') {b.at a' todo with mode:=.returning} cs w'):Xe (aB T5) T5 Post (gp w) {b.at a todo with mode:=.returning} cs w:=by
 intro r q d n;have i:D<w.heap.size:=(Uc.1 e).1;have h:q.heap[D]? =I (.deferred (I [])):=(d.at_ D i).trans e;refine Cb cW f h (λ_ o=>Xe.go (j {a with defers:=[]} _ Y Y ?_ ?_ d.tape d.os d.output) (λb g=>g) o) (ND k f l) n
 ·rw[World.putObj_size];exact d.size
 ·intro x p m;rw[World.putObj_heap_other m];exact d.at_ x p
structure TR(w w':F)(D:Nat):Prop where
 at_:∀x,x<w.heap.size->x≠D->w'.heap[x]? =w.heap[x]?
 size:w.heap.size<=w'.heap.size
 tape:w'.tape=w.tape
 os:w'.os=w.os
 output:w'.output=w.output
def Kw{cu rb D n e:Nat}{q:Array U}{C:U}(b:Knows a 40 [(12,(bS rb)),(10,(bS cu))])(s:a.defers=[{target:=.collected D,args:= #[]}])(u:w.heap[D]? =I (.deferred (I [])))(hc:w.heap[cu]? =I (.cells (jC q n e) 119 (0,0)))(ab:q.size=6)(L:w.heap[rb]? =I (.cells #[C] 26 (0,0)))
 (J:∀w',TR w w' D->Xe (aB T5) T5 Post (gp w') (c.finish (.tuple #[if e=0 then C else aR,.int .i64 (e:Int)])) cs w'):Xe (aB T5) T5 Post (gp w) ((base 13).at a [.inBlock 0,.code (zl VU)]) (c::cs) w:=by
 have d:=ir (aB T5) T5 Post;have P:(jC q n e)[7]? =I (.int .i64 (e:Int)):=by simp[jC,Array.getElem?_append,ab]
 have ar:cu<w.heap.size:=(Uc.1 hc).1;have M:rb<w.heap.size:=(Uc.1 L).1;have B:D<w.heap.size:=(Uc.1 u).1;have G:∀h,(∀(m:Nat) r,w.heap[m]? =I r->bk (aB T5) r->h.heap[m]? =I r)->w.heap.size<=h.heap.size->bG 32 #[(bS cu)] h λf i=>aP h i/\∃v,f= .returned v/\(v= .int .i64 (e:Int)/\i=h):=λh o t=>(mG cu _ h (kJ (o cu _ hc trivial) P)).mono λf i ⟨O,F⟩=>⟨by rw[F];exact Below.refl _ _,_,O,rfl,F⟩;refine iK d ?_;refine aQ d ?_;refine aQ d ?_;refine bp d [0,1,2] Y ?_;refine cI d b λb=>?_;refine oY (vs:= #[(bS cu)]) (R:=λh v i=>v= .int .i64 (e:Int)/\i=h) cW Y Y Y Y (mv (b.of Y)) Tryz.func32 Fe Y (jY Y Y Y).symm (ID Y (by simp only[put_defers];exact s) (by kernel_rfl)) G λv h i av o t Q A T g=>?_;obtain⟨rfl,-⟩:=A;replace b:=b.put (d:=35) (by decide) (.int .i64 (e:Int));by_cases H:e=0
 ·subst H;refine dF d b Y (.bool T8) (qL (c:=T8) Y (b.of Y) Y (by decide)) λb=>?_;refine ak d ?_;refine dw d T8 (b.of Y) ?_;refine ij d ?_;refine aQ d ?_;refine bp d [0,1,2] Y ?_;refine ri d b Y C (b7 Y (b.of Y) Tryz.isAgg26 (.inr (Ue M g.size)) (kJ ((g.at_ rb M).trans L) Y)) λb=>?_;refine gY d b λb=>?_;refine m6 d b (.int .i64 0) λb=>?_;refine ak d ?_;refine pM d ?_;refine tO (by simp only[put_defers];exact s) ((g.at_ D B).trans u) (by kernel_rfl) Y λN E z x ad V al X an=>?_;replace b:=b.same z;have p:=gJ (P:=T5) Tryz.results13 (b.slot 8 _ Y) (b.slot 9 _ Y);refine jg d Y x Tryz.func13 p.1 p.2 ?_;have:=J E ⟨λl k y=>(V l (Ue k g.size) y).trans (g.at_ l k),Uz g.size ad,al.trans g.tape,X.trans g.os,an.trans g.output⟩;rw[if_pos Y] at this;exact this
 ·refine dF d b Y (.bool Z) (qL (c:=Z) Y (b.of Y) Y (by simp;omega)) λb=>?_;refine ak d ?_;refine dw d Z (b.of Y) ?_;refine aQ d ?_;refine bp d [0,1,2,3] Y ?_;refine cI d b λb=>?_;refine oY (vs:= #[(bS cu)]) (R:=λh v i=>v= .int .i64 (e:Int)/\i=h) cW Y Y Y Y (mv (b.of Y)) Tryz.func32 Fe Y (jY Y Y Y).symm (ID Y (by simp only[put_defers];exact s) (by kernel_rfl)) (λh o t=>G h (λm r K S=>o m r ((g.at_ m (Uc.1 K).1).trans K) S) (Uz g.size t)) λv h i E o t Q A T j=>?_;obtain⟨rfl,-⟩:=A;replace b:=b.put (d:=38) (by decide) (.int .i64 (e:Int));refine m6 d b aR λb=>?_;refine gY d b λb=>?_;refine ak d ?_;refine pM d ?_;have R:E.heap[D]? =I (.deferred (I [])):=(j.at_ D (Ue B g.size)).trans ((g.at_ D B).trans u);refine tO (by simp only[put_defers];exact s) R (by kernel_rfl) Y λN ap z x ae W am aa ao=>?_;replace b:=b.same z;have p:=gJ (P:=T5) Tryz.results13 (b.slot 8 _ Y) (b.slot 9 _ Y);refine jg d Y x Tryz.func13 p.1 p.2 ?_;have:=J ap ⟨λl k y=>(W l (Ue k (Uz g.size j.size)) y).trans ((j.at_ l (Ue k g.size)).trans (g.at_ l k)),Uz g.size (Uz j.size ae),am.trans (j.tape.trans g.tape),aa.trans (j.os.trans g.os),ao.trans (j.output.trans g.output)⟩;rw[if_neg H] at this;exact this
end
def Nv (fn:WD):WX:=match fn.body with
 |some (.seq _ (.seq _ (.seq _ (.seq _ (.seq (.seq _ (.block _ c)) _)))))=>c
 |_=>.skip
section
variable {Post:U->F->Prop}{cs:List Uu}{w:F}{a:V7}{c:Uu}{l:List (bK×Int)}{bs:List Bd}{ah:List Int}{rs:List cG}{kb ck eb ce db:Nat}{dO:Option UK}{cT nj:Nat->Nat}{co:Option UK}{cb bD aJ:Nat}{ro:Option UK}{rb bg aM:Nat}{V:Nat->Nat->List aE}{di:Nat}{sk:Bool}{cu xb bx vv:Nat}
structure QN(w w':F)(vv cu bx:Nat)(q:Array U)(res:List dz×Nat×Nat)(D:Nat)(rv:U):Prop where
 d:w'.heap[D]? =I (.deferred (I []))
 dl:w.heap.size<=D
 c:w'.heap[cu]? =I (.cells (jC q res.2.1 res.2.2) 119 (0,0))
 b:w'.heap[bx]? =I (.cells #[rv] 26 (0,0))
 own:sJ w' vv rv (res.1.map VV)
 keep:∀x,x<vv->w'.heap[x]? =w.heap[x]?
 size:w.heap.size<=w'.heap.size
 tape:w'.tape=w.tape
 os:w'.os=w.os
 output:w'.output=w.output
def GJ(q:FQ l bs ah rs V)(hF:FM w l bs ah rs kb eb dO db cT nj co cb bD ro rb bg)(aa:∀x,zO kb eb db cT cb rb bs.length ah.length rs.length x->x<cu)(b6:vv<=cu)(cc:cu<bx)(ci:bx<xb)
 (hc:w.heap[cu]? =I (.cells (jC (gG kb l.length ck eb l.length ce dO bs.length di co ah.length aJ ro rs.length aM sk) 0 0) 119 (0,0))) (Q:w.heap[bx]? =I (.cells #[aR] 26 (0,0))) (d:w.heap[xb]? =I (.cells #[(bS cu)] 74 (0,0)))
 (f:Knows a 40 [(27,.func (.func 53) #[] #[(bS xb)]),(12,(bS bx)),(10,(bS cu))]) (S:a.defers=[])
 (T:∀a' w' D E,Knows a' 40 [(12,(bS bx)),(10,(bS cu))]->a'.defers=[{target:=.collected D,args:= #[]}]->QN w w' vv cu bx (gG kb l.length ck eb l.length ce dO bs.length di co ah.length aJ ro rs.length aM sk) (iY sk bs ah rs (aX l.length (ah++rs.map cG.col)) V (λ_=>Z) 0 bs.length [] 0) D E->Xe (aB T5) T5 Post (gp w') ((base 13).at a' [.inBlock 0,.code (zl VU)]) (c::cs) w'):
 Xe (aB T5) T5 Post (gp w) ((base 13).at a [.code (Nv VU),.inBlock 0,.code (zl VU)]) (c::cs) w:=by
 intro ca b n be;have bt:cu<w.heap.size:=(Uc.1 hc).1;have br:bx<w.heap.size:=(Uc.1 Q).1;have bu:xb<w.heap.size:=(Uc.1 d).1;have bm:=n.size;generalize t:Ba (base 13).fn a.tmps #[28,29] (.region 6 (fT VU) T8) (.block 1 (.region 7 (ej VU) T8)) b.heap.size=i;have X:qC i bx:=by
  rw[<-t];exact⟨rfl,rfl,rfl,f.size,f.slot 12 _ Y⟩
 generalize o:(b.alloc (.deferred (I []))).alloc (.loop i)=j;have a1:∀x,x<b.heap.size->j.heap[x]? =b.heap[x]? :=λx d=>by
  rw[<-o];show((b.heap.push _).push _)[x]? =_;rw[VD,if_neg (by simp;omega),VD,if_neg (by omega)]
 have a2:j.heap[b.heap.size]? =I (.deferred (I [])):=by
  rw[<-o];show((b.heap.push _).push _)[b.heap.size]? =_;rw[VD,if_neg (by simp),VD,if_pos Y]
 have a3:j.heap[b.heap.size+1]? =I (.loop i):=by
  rw[<-o];show((b.heap.push _).push _)[b.heap.size+1]? =_;rw[VD,if_pos (by simp)]
 have b5:j.heap.size=b.heap.size+2:=by
  rw[<-o];show((b.heap.push _).push _).size=_;simp
 have m:∀x,x<w.heap.size->j.heap[x]? =w.heap[x]? :=λx d=>(a1 x (by omega)).trans (n.at_ x d);let ad:Nat->Prop:=λx=>x=b.heap.size+1\/x=b.heap.size\/x=bx;have bl:i.state= .ready:=by rw[<-t];rfl
 have bj:i.pending=K:=by rw[<-t];rfl
 have a5:lN (b.heap.size+1) b.heap.size bx i [] ad j:=by
  refine⟨bl,bj,a3,a2,aR,[],(m bx br).trans Q,Vq _ _ _ _,λu x h=>by simp at h,λu cl v G e h=>by simp at h,λx=>?_⟩;show(x=_\/x=_\/x=_)↔_;simp[VA]
 have R:=Jl (Post:=Post) (cu:=cu) (xb:=xb) (n0:=0) (e0:=0) (Kt (Post:=Post) (D:=b.heap.size) (l:=b.heap.size+1) X) q a5 (λb1 a9 cf=>hF.kept (by omega) λx d=>by
  have g:=aa x d;refine λbv bd a8=>a9 x (by omega) (λh=>?_) (by omega) bv ((m x (by omega)).trans bd) a8;rcases h with h|h|h<;>omega) (λaz h=>by
  have g:=aa db (.inr (.inr (.inl ⟨az,rfl⟩)));rcases h with h|h|h<;>omega) (λh=>by rcases h with h|h|h<;>omega) (λh=>by rcases h with h|h|h<;>omega) (by omega) ((m xb bu).trans d) ((m cu bt).trans hc)
 generalize iY sk bs ah rs (aX l.length (ah++rs.map cG.col)) V (λ_=>Z) 0 bs.length [] 0=bA at R T;subst o;subst t;refine MV cW (g:=.tmp 27) (gf:=53) (cap:= #[(bS xb)]) (f.of Y) (λargs w=>ay.call53 args w) (.inl (jY Y Y Y).symm) R (λv r a4 A=>?_) (λb4 w' h=>by cases h.1) (λw' h=>by cases h.1) (λs h=>?_) (dK Y S (by kernel_rfl)) be
 ·obtain⟨-,⟨J,a6,bb⟩,bc,ba,ch⟩:=a4;obtain⟨an,M,N,ao,E,bB,ap,ar,av,aw,O⟩:=a6;refine Ef cW N (zm X M) (by rw[an];decide) M (by intro s;simp) ?_;intro _ bi;refine Xe.go (own:=gp _) (T _ _ b.heap.size E ?_ (by show _::a.defers=_;rw[S]) ?_) (λb3 h=>h) bi
  ·exact((f.nil.cons (f.slot 10 _ Y)).cons (f.slot 12 _ Y)).same Y
  ·have a7:∀x,J x->vv<=x:=λx d=>by
    rcases bb x d with h|h
    ·rcases h with h|h|h<;>omega
    ·omega
   have cd:b.heap.size+1<r.heap.size:=by omega
   have p:∀x,x≠b.heap.size+1->(r.putObj (b.heap.size+1) (.loop {Ba (base 13).fn a.tmps #[28,29] (.region 6 (fT VU) T8) (.block 1 (.region 7 (ej VU) T8)) b.heap.size with state:=.exhausted})).heap[x]? =r.heap[x]? :=λx d=>World.putObj_heap_other d;have ab:∀{k:Ui} {F C:Nat} {v:U} {H:List U},r.ownsRow 0 k F v C H->(∀e,v.ownBlock=I e->J e)->(r.putObj (b.heap.size+1) (.loop {Ba (base 13).fn a.tmps #[28,29] (.region 6 (fT VU) T8) (.block 1 (.region 7 (ej VU) T8)) b.heap.size with state:=.exhausted})).ownsRow vv k F v C H:=λ{k F C v H} h bo=>by
    obtain⟨W,⟨g,P⟩|⟨e,al,am,g,P,y,a0⟩⟩:=h
    ·exact⟨W,.inl ⟨g,P⟩⟩
    ·refine⟨W,.inr ⟨e,al,am,g,a7 e (bo e (by rw[g];rfl)),(p e (λk=>?_)).trans y,a0⟩⟩;rw[k,N] at y;cases y
   refine⟨(p _ (by omega)).trans ao,bm,(p _ (by omega)).trans ba,(p _ (by omega)).trans ap,⟨bB,by rw[UH];exact ab ar (λe z=>(O e).2 (.inr (.inr (.inr (.inl z.symm))))),λu x d=>?_,aw⟩,λx d=>?_,?_,A.tape.trans n.tape,A.os.trans n.os,A.output.trans n.output⟩
   ·rw[List.getElem?_map] at d;cases B:bA.1[u]? with
    |none=>rw[B] at d;cases d
    |some b0=>
     rw[B] at d;simp only[V4,U9] at d;subst d;obtain⟨G,L,b2,ae⟩:=av u b0 B;exact⟨G,L,ab ae λe z=>(O e).2 (.inr (.inr (.inr (.inr ⟨G,VE L,z.symm⟩))))⟩
   ·refine(p x (by omega)).trans ((bc x (by omega) (λh=>?_) (by omega)).trans (m x (by omega)));rcases h with h|h|h<;>omega
   ·rw[World.putObj_size];omega
 ·rw[enter_at _ ay.func53 Y] at h;cases h
end
end Cc
namespace Cc
open Go Go.Conc
open Go.RowKit (Below)
open Ec (aE aH cG dD qv bK Bd aX ga vq p9 kY mG xO)
def Oi(w:F):(zeroValue 26).run T5 w= .ok aR w:=Tryz.zeroValue26 w
section
variable {Post:U->F->Prop}{s:ByteArray}{F0:Fq}{V:Nat->Nat->List aE}{ah:List Int}{rs:List cG}{co:Option UK}{cb bD aJ:Nat}{ro:Option UK}{rb bg aM:Nat}{sk:Bool}{w0:F}
def GI(ca:s.size<=Ur)(hF:rU s F0)(bo:xG F0 V)(aw:ah.length<=1000)(a1:rs.length<=1000)
 (bv:0<ah.length->co=I ⟨cb,bD,K⟩) (bA:0<ah.length->cb<w0.heap.size) (bx:∀j,j<ah.length->bU w0 cb (bD+j) (.int .i64 (ah.getD j 0))) (cl:dD w0 ro rb bg rs):
 mj (aB T5) T5 Post 13 #[.string s,.slice co ah.length aJ,.slice ro rs.length aM,.bool sk] w0 (Dh (oN F0 V ah rs sk) w0):=by
 intro dd df a3 ds ch ar;have b:=ir (aB T5) T5 Post;refine Xe.go (own:=gp w0) ?_ (λc d=>d) ch;rw[enter_at _ Tryz.func13 Y];have a:=TM (.string s) (.slice co ah.length aJ) (.slice ro rs.length aM) (.bool sk) 40 (by decide);refine aQ b ?_;refine bp b [0,1] Y ?_;refine m6 b a aR λa=>?_;refine m6 b a (.int .i64 0) λa=>?_;refine ak b ?_;refine aQ b ?_;refine bp b [0,1,2,3,4,5,6,7,8,9] Y ?_;refine cI b a λa=>?_;refine cI b a λa=>?_;refine cI b a λa=>?_;refine cI b a λa=>?_;refine oY (vs:= #[.string s,.slice co ah.length aJ,.slice ro rs.length aM,.bool sk]) (R:=λn v w=>vq n F0 ah rs sk (.returned v) w) cW Y Y Y Y (xL (a.of Y) (a.of Y) (a.of Y) (a.of Y)) Tryz.func31 R2 Y (jY Y Y Y).symm (dK Y (by simp only[put_defers]) (by kernel_rfl)) (λn L F=>?_) λv n w u L F dl cp S g=>?_
 ·refine(p9 s F0 ah rs co cb bD aJ ro rb bg aM sk n ca hF aw a1 bv (λd=>Ue (bA d) F) (λj b4=>ni L (bx j b4)) (Pw L F cl)).mono λk w d=>⟨d.1,?_⟩
  ·rcases d.2 with⟨_,rfl⟩|⟨p,f,r,T,bi,Q,be,al,O,di,cT,nj,ae,N,bd,a7,W,c6,_,_,rfl,_⟩
   ·exact⟨_,rfl,d⟩
   ·exact⟨_,rfl,d⟩
 ·rcases cp.2 with⟨cf,k⟩|⟨p,f,r,T,bi,Q,be,al,O,di,cT,nj,ae,N,bd,a7,W,c6,J,ap,k,bB,M,bl,a5⟩
  ·have P:=YB k;subst P;have cc:jA F0 ah rs≠0:=cf;generalize cd:jA F0 ah rs=m at*;replace a:=a.put (d:=20) (by decide) (.tuple #[.pointer K,.int .i64 (m:Int)]);refine cI b a λa=>?_;refine rj b a λa=>?_;refine rj b a λa=>?_;refine gY b a λa=>?_;refine gY b a λa=>?_;refine ak b ?_;refine aQ b ?_;refine aQ b ?_;refine bp b [0,1] Y ?_;refine cI b a λa=>?_;refine dF b a Y (.bool Z) (qL (c:=Z) Y (a.of Y) Y (by simp;omega)) λa=>?_;refine ak b ?_;refine dw b Z (a.of Y) ?_;refine aQ b ?_;refine bp b [0,1,2] Y ?_;refine cI b a λa=>?_;refine m6 b a aR λa=>?_;refine gY b a λa=>?_;refine ak b ?_;refine pM b ?_;have a0:=gJ (P:=T5) Tryz.results13 (a.slot 8 _ Y) (a.slot 9 _ Y);refine jg b Y (by simp only[put_defers]) Tryz.func13 a0.1 a0.2 ?_;intro _ H h ci;have A:oN F0 V ah rs sk=([],m):=by
    unfold oN;rw[cd,if_neg cc]
   refine ar (.returned (.tuple #[aR,.int .i64 (m:Int)])) H ⟨aR,by rw[A],by rw[A];exact sJ.nil _ _,λ_=>rfl,λc e=>(h.at_ c (Ue e g.size)).trans (g.at_ c e),Uz g.size h.size⟩ ci ⟨h.tape.trans g.tape,h.os.trans g.os,h.output.trans g.output,Uz g.size h.size⟩ (n9 a3 _)
  ·have P:=YB k;subst P;have b0:=Uz F bB;replace M:=S.row.1 M;have bm:FM u p f ah rs T Q al O cT nj ae N 0 a7 W 0:=bl.kept (by rw[S.size];exact T9 _) (λc _=>MJ S);have c0:r<u.heap.size:=(Uc.1 M).1;replace a:=a.put (d:=20) (by decide) (.tuple #[(bS r),.int .i64 0]);refine cI b a λa=>?_;refine rj b a λa=>?_;refine rj b a λa=>?_;refine gY b a λa=>?_;refine gY b a λa=>?_;refine ak b ?_;refine aQ b ?_;refine aQ b ?_;refine bp b [0,1] Y ?_;refine cI b a λa=>?_;refine dF b a Y (.bool T8) (qL (c:=T8) Y (a.of Y) Y (by decide)) λa=>?_;refine ak b ?_;refine dw b T8 (a.of Y) ?_;refine ij b ?_;refine aQ b ?_;refine bp b [0] Y ?_;refine mC b (λc e=>e.elim Yr (λd=>d)) (by decide) Y Y (.cells #[aR] 26) trivial (λG=>(bS G)) (tc Y Oi) λB dE dr du E bu=>?_;replace a:=a.put (d:=12) (by decide) (bS B);refine ak b ?_;refine RR λH h=>?_;have x:RelB (gp u) u H:=⟨λc e=>(h.at_ c (.inl e)).trans (E.at_ c (.inr e)),Uz E.size h.size,h.tape.trans E.tape,h.os.trans E.os,h.output.trans E.output⟩;have av:H.heap[B]? =I (.cells #[aR] 26 (0,0)):=(h.at_ B (.inr Y)).trans bu;have cR:B<H.heap.size:=(Uc.1 av).1;refine aQ b ?_;refine aQ b ?_;refine bp b [0,1] Y ?_;refine cI b a λa=>?_;refine oY (vs:= #[(bS r)]) (R:=λn v w=>v= .func (.func 53) #[] #[(bS n.heap.size)]/\w=n.alloc (.cells #[(bS r)] 74)) cW Y Y Y Y (mv (a.of Y)) Tryz.func36 K7 Y (jY Y Y Y).symm (dK Y (by simp only[put_defers]) (by kernel_rfl)) (λn L F=>(kY r n).mono λk w ⟨ao,C⟩=>⟨by rw[C];exact(Below.refl _ _).alloc (T9 _) _,_,ao,rfl,C⟩) λv bc da a9 dq dt dp cs bs y=>?_;obtain⟨rfl,br⟩:=cs;generalize cv:bc.heap.size=ba at*;have cu:a9.heap[ba]? =I (.cells #[(bS r)] 74 (0,0)):=by
    refine bs.row.1 ?_;rw[br,<-cv];exact Ec.bh _ _
   replace a:=a.put (d:=27) (by decide) (.func (.func 53) #[] #[(bS ba)]);refine ak b ?_;refine gC b ?_;have bt:wJ p.length ah rs=Z:=by
    obtain⟨dv,dc,am,bj,_⟩:=I2 ap;rw[J] at am;cases am;exact bj
   have b2:ga s p f:=by
    rw[J] at hF;exact hF.1
   have o:RelB (gp u) u a9:=⟨λc e=>(y.at_ c (Ue e x.size)).trans (x.at_ c e),Uz x.size y.size,y.tape.trans x.tape,y.os.trans x.os,y.output.trans x.output⟩;have b6:∀l,zO T Q O cT N W f.length ah.length rs.length l->l<u.heap.size:=λl t=>by have:=(a5 l t).2;omega
   refine GJ (vv:=w0.heap.size) (Sn b2 bt aw a1 (J▸bo)) (bm.kept o.size λl t=>D4 (o.at_ l (b6 l t))) (λl t=>(a5 l t).2) b0 (by omega) (by omega) ((o.at_ r c0).trans M) ((y.at_ B cR).trans av) cu (((a.nil.cons (a.slot 10 _ Y)).cons (a.slot 12 _ Y)).cons (a.slot 27 _ Y)) (by simp only[put_defers]) λdb c9 D a8 bb b1 i=>?_;refine Kw bb b1 i.d i.c Y i.b λdO q=>?_;intro _ ab z ck;have a4:=Uz g.size (Uz o.size i.size);have cn:sx F0 V ah rs sk (λ_=>Z)=iY sk f ah rs (aX p.length (ah++rs.map cG.col)) V (λ_=>Z) 0 f.length [] 0:=by rw[J];rfl
   have A:oN F0 V ah rs sk=if (iY sk f ah rs (aX p.length (ah++rs.map cG.col)) V (λ_=>Z) 0 f.length [] 0).2.2=0 then((iY sk f ah rs (aX p.length (ah++rs.map cG.col)) V (λ_=>Z) 0 f.length [] 0).1.map VV,0) else([],(iY sk f ah rs (aX p.length (ah++rs.map cG.col)) V (λ_=>Z) 0 f.length [] 0).2.2):=by
    unfold oN;rw[if_pos ap,cn]
   generalize iY sk f ah rs (aX p.length (ah++rs.map cG.col)) V (λ_=>Z) 0 f.length [] 0=X at*;have dC:=Uz g.size (Uz o.size i.dl);have b5:∀c,c<w0.heap.size->ab.heap[c]? =w0.heap[c]? :=λc e=>(z.at_ c (Ue e (Uz a4 q.size))).trans ((q.at_ c (by omega) (by omega)).trans ((i.keep c e).trans ((o.at_ c (Ue e g.size)).trans (g.at_ c e))));have a2:=Uz a4 (Uz q.size z.size);refine ar (.returned (.tuple #[if X.2.2=0 then a8 else aR,.int .i64 (X.2.2:Int)])) ab ⟨if X.2.2=0 then a8 else aR,?_,?_,?_,b5,a2⟩ ck ⟨z.tape.trans (q.tape.trans (i.tape.trans (o.tape.trans g.tape))),z.os.trans (q.os.trans (i.os.trans (o.os.trans g.os))),z.output.trans (q.output.trans (i.output.trans (o.output.trans g.output))),a2⟩ (n9 a3 _)
   ·rw[A]
    split
    ·rename_i R;rw[R]
    ·rfl
   ·rw[A]
    split
    ·obtain⟨c8,c1,c2,c3⟩:=i.own;have a6:∀{k:Ui} {aa G:Nat} {v:U} {ad:List U},c9.ownsRow w0.heap.size k aa v G ad->ab.ownsRow w0.heap.size k aa v G ad:=λ{k aa G v ad} d=>jX d (T9 _) λan b3 ao C=>by
      refine(z.at_ an (Ue C q.size)).trans (q.at_ an C λk=>?_);obtain⟨dk,az⟩:=Ec.Gl d b3;rw[k,i.d] at az;cases az
     exact⟨c8,a6 c1,λcx l t=>by
      obtain⟨c7,c4,c5⟩:=c2 cx l t;exact⟨c7,c4,a6 c5⟩,c3⟩
    ·exact sJ.nil _ _
   ·rw[A];intro d
    split at d
    ·exact absurd Y d
    ·rename_i R;rw[if_neg R]
end
end Cc
namespace Cc
open Go Go.Conc
open Ec
def OS(s:ByteArray)(w0:F)(e:s.size<=Ur):∃b,rU s b:=by
 obtain⟨k,m,l,⟨_,a⟩,_⟩:=uB s w0 e [];rcases a with⟨f,bs,g,h,i,j,_,c,_,_,d⟩|⟨_,a⟩
 ·exact⟨I (f,bs),c,d⟩
 ·exact⟨K,a⟩
def PY(s:ByteArray)(k e cn:Int)(w0:F)(g:s.size<=Ur):∃vs,pq s k e cn vs:=by
 obtain⟨n,m,j,⟨_,a⟩,_⟩:=pL s k e cn w0 g [];rcases a with⟨a,_⟩|⟨b,rfl,d,c,l,⟨v,i,_,_,f⟩|⟨_,h⟩⟩
 ·exact⟨[],.inr ⟨rfl,.inl a⟩⟩
 ·exact⟨i,.inl ⟨b,rfl,d,c,f⟩⟩
 ·exact⟨[],.inr ⟨rfl,.inr ⟨b,rfl,h⟩⟩⟩
def Mq{s:ByteArray}{i:Fq}(w0:F)(hF:rU s i):∃V,xG i V:=by
 cases i with
 |none=>exact⟨λ_ _=>[],trivial⟩
 |some v=>
  obtain⟨p,bs⟩:=v;have o:∀e c:Nat,∃l,∀b d a,bs[e]? =I b->b.chunks[c]? =I d->p[c]? =I a->pq d.text a.1.kind a.2 (b.rows:Int) l:=λe c=>by
   cases k:bs[e]? with
   |none=>exact⟨[],λb d a h=>by cases h⟩
   |some b=>
    cases g:b.chunks[c]? with
    |none=>exact⟨[],λm d a h f=>by cases h;rw[g] at f;cases f⟩
    |some d=>
     cases n:p[c]? with
     |none=>exact⟨[],λm d a h f j=>by cases j⟩
     |some a=>
      have t:d.text.size<=Ur:=by
       obtain⟨r,rfl⟩:=UB.1 g;have:=((hF.1.1.cg b (VE k)).each c r).n;unfold Ur;omega
      obtain⟨l,u⟩:=PY d.text a.1.kind a.2 (b.rows:Int) w0 t;exact⟨l,λm w x q f j=>by
       cases q;rw[g] at f;cases f;cases j;exact u⟩
  exact⟨λe c=>Vr (o e c),λe b k c d a g n=>Uw (o e c) b d a k g n⟩
theorem DS:∀(a pre:List dz),feed (λ_=>Z) pre a=(pre++a,Z)
 | [],pre=>by simp[feed]
 |x::a,pre=>by
  rw[uw,if_pos Y,DS a (pre++[x])];simp
section
variable {bs:List Bd}{ah:List Int}{rs:List cG}{ws:List Bool}{V:Nat->Nat->List aE}
def Ns(sk:Bool)(r i:Nat)(pre:List dz)(n:Nat):iY sk bs ah rs ws V (λ_=>Z) i (r+1) pre n=if sk&&td bs rs i then iY sk bs ah rs ws V (λ_=>Z) (i+1) r pre n else if Lf bs ws V i then iY sk bs ah rs ws V (λ_=>Z) (i+1) r (pre++ix bs ah rs V i) (n+1) else(pre,n+1,3):=by
 rw[iY,DS];simp
end
end Cc
namespace Ec
open Go.RowKit Pk Pm
theorem xX:∀A B C:List UInt8,Vf A B<=0->Vf B C<=0->Vf A C<=0
 | [],B,[],_,_=>by simp[Vf]
 | [],B,_::_,_,_=>by simp[Vf]
 |_::_,[],C,b,_=>by simp[Vf] at b
 |_::_,_::_,[],_,b=>by simp[Vf] at b
 |a::A,h::B,i::C,b,c=>by
  have f:=xX A B C;simp only[Vf] at b c ⊢;have g:∀d e:UInt8,d<e↔d.toNat<e.toNat:=λd e=>UInt8.lt_iff_toNat_lt;simp only[g] at b c ⊢
  split at b
  ·split at c
   ·rw[if_pos (by omega)];omega
   ·split at c
    ·omega
    ·rw[if_pos (by omega)];omega
  ·split at b
   ·omega
   ·split at c
    ·rw[if_pos (by omega)];omega
    ·split at c
     ·omega
     ·rw[if_neg (by omega),if_neg (by omega)];exact f b c
def oV{x y z:aE}(h:fq x y<=0)(a:fq y z<=0):fq x z<=0:=by
 unfold fq at h a ⊢
 split at h
 ·split at a
  ·rw[if_pos (by omega)];omega
  ·split at a
   ·omega
   ·rw[if_pos (by omega)];omega
 ·split at h
  ·omega
  ·split at a
   ·rw[if_pos (by omega)];omega
   ·split at a
    ·omega
    ·rw[if_neg (by omega),if_neg (by omega)];exact xX _ _ _ h a
def Db (l:List aE)(b:lC):Prop:=(b=cF/\∀a∈l,a.null=Z)\/(b.there=Z/\b.least∈l/\b.least.null=T8/\b.most∈l/\b.most.null=T8/\∀a∈l,a.null=T8->fq b.least a<=0/\fq a b.most<=0)
def FB{l:List aE}{b:lC}(h:Db l b)(v:aE):Db (l++[v]) (nY b v):=by
 unfold nY;cases f:v.null with
 |true=>
  rw[if_pos Y];rcases h with⟨g,e⟩|⟨g,e,i,j,k,m⟩
  ·refine .inl ⟨g,λd a=>?_⟩;rcases U2.1 a with a|a
   ·exact e d a
   ·simp at a;rw[a];exact f
  ·refine .inr ⟨g,List.mem_append_left _ e,i,List.mem_append_left _ j,k,λd a c=>?_⟩;rcases U2.1 a with a|a
   ·exact m d a c
   ·simp at a;rw[a,f] at c;cases c
 |false=>
  rw[if_neg (by simp)];rcases h with⟨rfl,e⟩|⟨g,e,i,j,k,m⟩
  ·refine .inr ⟨rfl,?_,?_,?_,?_,λd a c=>?_⟩
   ·simp[cF]
   ·simp[cF,f]
   ·simp[cF]
   ·simp[cF,f]
   ·rcases U2.1 a with a|a
    ·rw[e d a] at c;cases c
    ·simp at a;subst a;simp[cF,vi]
  ·have p:v∈l++[v]:=by simp
   refine .inr ⟨rfl,?_,?_,?_,?_,λd a c=>?_⟩
   ·dsimp only;split
    ·exact p
    ·exact List.mem_append_left _ e
   ·dsimp only;split
    ·exact f
    ·exact i
   ·dsimp only;split
    ·exact p
    ·exact List.mem_append_left _ j
   ·dsimp only;split
    ·exact f
    ·exact k
   ·dsimp only;simp only[g,Bool.true_eq_false,false_or];rcases U2.1 a with a|a
    ·obtain⟨n,o⟩:=m d a c;constructor
     ·split
      ·rename_i h;exact oV (by omega) n
      ·exact n
     ·split
      ·rename_i h;exact oV o (by have:=mh v b.most;omega)
      ·exact o
    ·simp at a;subst a;constructor
     ·split
      ·rw[vi];omega
      ·rename_i h;have:=mh b.least d;omega
     ·split
      ·rw[vi];omega
      ·rename_i h;omega
def Qx(l:List aE):Db l (cy l):=by
 have g:∀(a l:List aE) (b:lC),Db l b->Db (l++a) (a.foldl nY b):=by
  intro a
  induction a with
  |nil=>intro l b c;simpa using c
  |cons d a f=>
   intro l b c;have:=f (l++[d]) _ (FB c d);rw[UD] at this;exact this
 exact g l [] cF (.inl ⟨rfl,λd e=>by cases e⟩)
def QY{k:Int}{l:List aE}(h:∀x∈l,VC k x):Lg k (cy l):=by
 rcases Qx l with⟨b,_⟩|⟨b,c,d,f,g,i⟩
 ·exact .inl b
 ·have e:∀x∈l,x.null=T8->VK k x:=λx m j=>by
   rcases h x m with⟨a,_⟩|a
   ·rw[j] at a;cases a
   ·exact a
  exact .inr ⟨b,e _ c d,e _ f g,by have:=(i _ c d).2;omega⟩
def sS{α:Type}{f:α->List Nat}{l:List α}(h:∀a∈l,∀x∈f a,x<256):∀x∈l.flatMap f,x<256:=λx b=>by
 obtain⟨a,c,b⟩:=List.mem_flatMap.1 b;exact h a c x b
def kx{a b:List Nat}(h1:∀x∈a,x<256)(c:∀x∈b,x<256):∀x∈a++b,x<256:=λx d=>(U2.1 d).elim (h1 x) (c x)
def I9(k:Int)(b:lC):∀x∈cr k b,x<256:=by
 unfold cr
 split
 ·exact kx (by simp) (kx (uI _ _) (uI _ _))
 ·simp
def OH(cs:List bK)(es:List Int)(i:Nat):∀x∈xZ cs es i,x<256:=by
 unfold xZ;refine kx (kT _) (kx (jB _) λx a=>?_);simp only[VN,XS,or_false] at a;rcases a with rfl|rfl<;>exact nZ _
def M4(cs:List bK)(l:List kr)(n:Nat):∀x∈fp cs l n,x<256:=by
 unfold fp;refine sS λa _=>?_;unfold o9;exact kx (kT _) (I9 _ _)
def Mi(cs:List bK)(es:List Int)(bs:List Bd):∀x∈jl cs es bs,x<256:=by
 unfold jl;refine kx (kT _) (kx (sS λa _=>OH cs es a) (kx (kT _) (sS λb _=>?_)));unfold ep;exact kx (kT _) (M4 _ _ _)
def D6:∀x∈dP,x<256:=by decide
def Pb(n:Nat):∀x∈iA n,x<256:=by
 intro x a;unfold iA at a;simp only[VN,XS,or_false] at a;omega
def Mf(cs:List bK)(es:List Int)(bs:List Bd):∀x∈vC cs es bs,x<256:=by
 unfold vC;exact kx D6 (kx (sS λa _=>sS λb _=>jB _) (kx (Mi _ _ _) (kx (Pb _) D6)))
section
variable {cs:List bK}{rows:List (List aE)}{es:List Int}{bd:Nat}
def tQ(h:m0 cs rows es bd):(cs.zip es).map Uy=cs:=List.map_fst_zip (by rw[h.FX];exact T9 _)
def IV(h:m0 cs rows es bd):(cs.zip es).map VV=es:=List.map_snd_zip (by rw[h.FX];exact T9 _)
theorem BU(rows:List (List aE)){bd:Nat}(a:0<bd):∀n,((UL n).map λj=>(bZ rows bd j).length).sum=min (n*bd) rows.length
 |0=>by simp
 |n+1=>by
  rw[XK,U1,List.sum_append,BU rows a n];simp only[Xy,List.map_nil,List.sum_cons,List.sum_nil,iu,Nat.succ_mul];omega
def xQ(h:m0 cs rows es bd)(bo:Bool):eW (bO rows cs es bo bd (b8 rows.length bd))=rows.length:=by
 unfold eW bO;rw[List.map_map];have:=BU rows h.lo (b8 rows.length bd);have c:((λb:Bd=>b.rows) ∘ λa=>gM (bZ rows bd a) cs es bo)=λa=>(bZ rows bd a).length:=rfl;rw[c,this];have e:¬b8 rows.length bd*bd<rows.length:=λd=>Nat.lt_irrefl _ ((mz (len:=rows.length) h.lo (b8 rows.length bd)).1 d);omega
def m0.vc(h:m0 cs rows es bd)(j p:Nat)(a:p<cs.length):∀x∈bH (bZ rows bd j) p,VC cs[p].kind x:=by
 intro x e;unfold bH at e;obtain⟨f,k,rfl⟩:=U8.1 e;have d:=DH k;obtain⟨m,g,l⟩:=Vw d;have c:=h.table.2.2 m g;rw[l] at c;have b:p<f.length:=by rw[c.1];exact a
 have i:=c.2 p b a;rw[Uj,Uo b];exact KW (gz h.table.1 _ (Uk a)) (h.vals f d _ (Uk b)) i
def pW(h:m0 cs rows es bd)(bo:Bool)(j:(eD cs rows es bo bd).length<=65536):ga (strOf (eD cs rows es bo bd)) (cs.zip es) (bO rows cs es bo bd (b8 rows.length bd)):=by
 refine⟨⟨⟨by rw[tQ h];exact h.table.1,by rw[tQ h,IV h];exact h.eJ⟩,λl d=>?_,by rw[xQ h bo];exact h.table.2.1⟩,by rw[kL];exact j,?_⟩
 ·rw[tQ h];unfold bO at d;obtain⟨a,g,rfl⟩:=U8.1 d;have p:=(mz (len:=rows.length) h.lo a).2 (Vu.1 g);have e:(gM (bZ rows bd a) cs es bo).rows=min bd (rows.length-a*bd):=iu;have m:=h.lo;have n:=h.hi;refine⟨by rw[e];omega,by rw[e];omega,cU _ _ _ _ _,λb o=>?_⟩;have c:b<cs.length:=by
   have:(gM (bZ rows bd a) cs es bo).chunks.length=cs.length:=cU _ _ _ _ _;omega
  have f:(gM (bZ rows bd a) cs es bo).chunks[b]=BR (bZ rows bd a) cs es bo b:=by simp[gM,ew]
  rw[f];have k:BR (bZ rows bd a) cs es bo b∈ew (bZ rows bd a) cs es bo cs.length:=U8.2 ⟨b,Vu.2 c,rfl⟩;have q:=(h.chunks bo a _ k).1;refine⟨by omega,?_⟩;have i:(cs.getD b ⟨⟨#[]⟩,0⟩).kind=cs[b].kind:=by rw[Uj,Uo c];rfl
  rw[i,h.lO bo a b c];cases bo with
  |false=>exact .inl Y
  |true=>exact QY (h.vc a b c)
 ·unfold eD;rw[nH _ (Mf _ _ _)];unfold vC;rw[<-Mh,tQ h,IV h]
end
def MZ{cs:List bK}{b:List (List aE)}{es:List Int}{a:Int}(h:iI cs b)(d:mr a es cs)(e:∀r∈b,∀x∈r,rD x):m0 cs b es a.toNat/\a=(a.toNat:Int):=by
 obtain⟨f,g,c⟩:=d;exact⟨⟨h,c,by omega,by omega,e⟩,by omega⟩
def GH{es:List Int}(a3:(∀e∈es,e=0)\/xF/\rT)(cs:List bK)(a:List (List aE))(b:Int)(bo:Bool)(aw a9 az:U)(w:F)(ae:cs.length<=Ur)(a4:a.length<=Ur)(a5:∀r∈a,r.length<=Ur)(a6:es.length<=Ur)(a8:∀r∈a,∀x∈r,rD x)
 (E:vp w aw cs) (Q:AD w a9 a) (O:rB w az es):
 bG 20 #[.agg #[aw,a9],.agg #[.int .i64 b,az,.bool bo]] w λe w'=>∃s n,e= .returned (.tuple #[.string s,.int .i64 n])/\Lr cs a b es bo s n/\aP w w':=by
 have bb:=af a3;clear a3;have bl:=E;have br:=Q;have bm:=O;obtain⟨d,bu,bD,aJ,rfl,bx,-⟩:=bl;obtain⟨l,bB,bg,aM,rfl,bA,-⟩:=br;obtain⟨h,bv,ji,bX,rfl,-,-,-⟩:=bm;have an:=af E;have bc:=af Q;have ao:=af O;have bd:=af a8;have K:X (∀c,aP w c->bG 40 #[.agg #[.slice d cs.length aJ,.slice l a.length aM]] c λe w'=>∃A,e= .returned (.bool A)/\(A=Z↔iI cs a)/\aP c w'):=λc k=>
  D2 cs a _ _ c ae a4 a5 (E.below k) (Q.below k)
 have J:X (∀c,aP w c->bG 41 #[.agg #[.int .i64 b,.slice h es.length bX,.bool bo],.slice d cs.length aJ] c λe w'=>∃A,e= .returned (.bool A)/\(A=Z↔mr b es cs)/\aP c w'):=λc k=>
  xN b es bo cs _ _ c ae a6 (E.below k) (O.lower k)
 clear E Q O ae a4 a5 a6 a8;go_enter ay.func20,Tryz.ntmps20
 go_upto_region 1 with fail
 have a1:aP w ((w.alloc (.cells #[.slice d cs.length aJ,.slice l a.length aM] 46)).alloc (.cells #[.int .i64 b,.slice h es.length bX,.bool bo] 48)):=gB _ _;have al:((w.alloc (.cells #[.slice d cs.length aJ,.slice l a.length aM] 46)).alloc (.cells #[.int .i64 b,.slice h es.length bX,.bool bo] 48)).heap[w.heap.size]? =I (.cells #[.slice d cs.length aJ,.slice l a.length aM] 46 (0,0)):=alloc_old _ (by simp) (bh w _);have am:((w.alloc (.cells #[.slice d cs.length aJ,.slice l a.length aM] 46)).alloc (.cells #[.int .i64 b,.slice h es.length bX,.bool bo] 48)).heap[w.heap.size+1]? =I (.cells #[.int .i64 b,.slice h es.length bX,.bool bo] 48 (0,0)):=jI w _ _;generalize (w.alloc (.cells #[.slice d cs.length aJ,.slice l a.length aM] 46)).alloc (.cells #[.int .i64 b,.slice h es.length bX,.bool bo] 48)=q at*;have y:=af a1;have Y:X (∀c,aP q c->(bU c w.heap.size 0 (.slice d cs.length aJ)/\bU c w.heap.size 1 (.slice l a.length aM))/\bU c (w.heap.size+1) 0 (.int .i64 b)/\bU c (w.heap.size+1) 1 (.slice h es.length bX)/\bU c (w.heap.size+1) 2 (.bool bo)):=λc k=>
  ⟨qB ((k.block _ (Uf al)).trans al),cC ((k.block _ (Uf am)).trans am)⟩
 clear a1 al am;obtain⟨⟨V,W⟩,R,S,T⟩:=Y.o q (Uq _ _);by_cases z:iI cs a
 ·have G:X (bG 40 #[.agg #[.slice d cs.length aJ,.slice l a.length aM]] q λe w'=>e= .returned (.bool Z)/\aP q w'):=pQ (K.o _ y.o) z;have M:=af z;clear K z
  go_upto_region 3 with(go_at_call 40;refine G.o.mono ?_;rintro e v ⟨rfl,C⟩)
  have o:X (aP w v):=y.o.trans (C.mono y.o.size);have N:=af C;clear V W R S T C G;obtain⟨⟨V,W⟩,R,S,T⟩:=Y.o v N.o;by_cases t:mr b es cs
  ·have H:X (bG 41 #[.agg #[.int .i64 b,.slice h es.length bX,.bool bo],.slice d cs.length aJ] v λe w'=>e= .returned (.bool Z)/\aP v w'):=pQ (J.o _ o.o) t;obtain⟨a7,a2⟩:=MZ M.o t bd.o;have g:=af a7;have ba:=af a2;have av:=af t;clear J t a7 a2
   go_upto_region 5 with(go_at_call 41;refine H.o.mono ?_;rintro e m ⟨rfl,D⟩)
   have f:X (aP w m):=o.o.trans (D.mono o.o.size);have be:X (aP q m):=N.o.trans (D.mono N.o.size);clear V W R S T D H N o;obtain⟨⟨V,W⟩,R,S,T⟩:=Y.o m be.o;have ap:X (bG 43 #[.agg #[.slice d cs.length aJ,.slice l a.length aM],.agg #[.int .i64 b,.slice h es.length bX,.bool bo]] m λe w'=>∃j i,e= .returned (.agg #[.slice d cs.length aJ,.slice h es.length bX,j])/\i.map Uy=bO a cs es bo b.toNat (b8 a.length b.toNat)/\ja w' m.heap.size j i/\aP m w'):=by
    have k:=F3 bb.o a cs b.toNat bo (.slice l a.length aM) (.slice d cs.length aJ) (.slice h es.length bX) m g.o.lo g.o.hi g.o.table.2.1 g.o.len g.o.vals g.o.table.1.2.1 g.o.FX (bc.o.below f.o) (an.o.below f.o) (ao.o.lower f.o);rw[<-ba.o] at k;exact k
   have ar:X (∀c j i,aP w c->i.map Uy=bO a cs es bo b.toNat (b8 a.length b.toNat)->(∃base,ja c base j i)->bG 42 #[.agg #[.slice d cs.length aJ,.slice h es.length bX,j]] c λe w'=>e= .returned (.string (strOf (eD cs a es bo b.toNat)))/\aP c w'):=λc j i a0 B aa=>by
    obtain⟨base,aa⟩:=aa;exact Mw cs es (bO a cs es bo b.toNat (b8 a.length b.toNat)) _ _ j c g.o.table.1.2.1 g.o.FX (vJ g.o.table.1) (gz g.o.table.1) (by rw[je];exact g.o.nb) (g.o.cg bo _) (g.o.pos bo) (g.o.body bo) (an.o.below a0) (ao.o.lower a0) ⟨base,i,B,aa⟩
   have L:X ((strOf (eD cs a es bo b.toNat)).size=(eD cs a es bo b.toNat).length):=kL _;by_cases P:65536<(eD cs a es bo b.toNat).length
   ·have p:X (Lr cs a b es bo ⟨#[]⟩ 6):=.inr (.inr (.inl ⟨M.o,av.o,P,rfl,rfl⟩));have bi:decide (65536<((strOf (eD cs a es bo b.toNat)).size:Int))=Z:=by rw[L.o];simp;omega
    clear P L;generalize strOf (eD cs a es bo b.toNat)=bj at*
    go_wp2_with (first|(go_at_call 43;refine ap.o.mono ?_;rintro e bs ⟨j,i,rfl,B,ad,u⟩)|(go_at_call 42;refine(ar.o _ j i ?_ B ⟨_,ad⟩).mono ?_;(exact f.o.trans (u.mono f.o.size));rintro e bt ⟨rfl,ab⟩))
    go_ret2
    exact⟨_,_,rfl,p.o,(f.o.trans (u.mono f.o.size)).trans (ab.mono (f.o.trans (u.mono f.o.size)).size)⟩
   ·have p:X (Lr cs a b es bo (strOf (eD cs a es bo b.toNat)) 0):=.inr (.inr (.inr ⟨M.o,av.o,P,rfl,rfl⟩));have bi:decide (65536<((strOf (eD cs a es bo b.toNat)).size:Int))=T8:=by rw[L.o];simp;omega
    clear P L;generalize strOf (eD cs a es bo b.toNat)=bj at*
    go_wp2_with (first|(go_at_call 43;refine ap.o.mono ?_;rintro e bs ⟨j,i,rfl,B,ad,u⟩)|(go_at_call 42;refine(ar.o _ j i ?_ B ⟨_,ad⟩).mono ?_;(exact f.o.trans (u.mono f.o.size));rintro e bt ⟨rfl,ab⟩))
    go_ret2
    exact⟨_,_,rfl,p.o,(f.o.trans (u.mono f.o.size)).trans (ab.mono (f.o.trans (u.mono f.o.size)).size)⟩
  ·have H:X (bG 41 #[.agg #[.int .i64 b,.slice h es.length bX,.bool bo],.slice d cs.length aJ] v λe w'=>e= .returned (.bool T8)/\aP v w'):=n8 (J.o _ o.o) t;have p:X (Lr cs a b es bo ⟨#[]⟩ 2):=.inr (.inl ⟨M.o,t,rfl,rfl⟩);clear J t
   go_wp2_with (go_at_call 41;refine H.o.mono ?_;rintro e m ⟨rfl,D⟩)
   go_ret2
   exact⟨_,_,rfl,p.o,o.o.trans (D.mono o.o.size)⟩
 ·have G:X (bG 40 #[.agg #[.slice d cs.length aJ,.slice l a.length aM]] q λe w'=>e= .returned (.bool T8)/\aP q w'):=n8 (K.o _ y.o) z;have p:X (Lr cs a b es bo ⟨#[]⟩ 1):=.inl ⟨z,rfl,rfl⟩;clear K z
  go_wp2_with (go_at_call 40;refine G.o.mono ?_;rintro e v ⟨rfl,C⟩)
  go_ret2
  exact⟨_,_,rfl,p.o,y.o.trans (C.mono y.o.size)⟩
end Ec
namespace Cc
open Go Go.Conc
open Go.RowKit (Below)
open Ec
def Am{cs:List bK}{b:List (List aE)}{es:List Int}{a:Nat}{bo:Bool}(h:m0 cs b es a){V:Nat->Nat->List aE}(r:xG (I (cs.zip es,bO b cs es bo a (b8 b.length a))) V):∀j,j<b8 b.length a->∀p,p<cs.length->V j p=bH (bZ b a j) p:=by
 intro j u p c;have n:(bO b cs es bo a (b8 b.length a))[j]? =I (gM (bZ b a j) cs es bo):=by simp[bO,u]
 have o:(gM (bZ b a j) cs es bo).chunks[p]? =I (BR (bZ b a j) cs es bo p):=by simp[gM,ew,c]
 have m:p<es.length:=by rw[h.FX];exact c
 have q:(cs.zip es)[p]? =I (cs[p],es[p]):=by simp[List.getElem?_zip_eq_some,c,m]
 have f:=r j _ n p _ _ o q;have k:es.getD p 0=es[p]:=by rw[Uj,Uo m];rfl
 rw[h.lO bo j p c,k] at f;have w:((gM (bZ b a j) cs es bo).rows:Int)=((bH (bZ b a j) p).length:Int):=by rw[gb];rfl
 rw[w] at f;have z:=h.cut j p;have l:=h.eJ.2 p c;rw[k] at l;have s:jD ((bH (bZ b a j) p).length:Int) cs[p].kind es[p]=0:=by
  unfold jD;rw[if_neg (by omega),l];rfl
 have i:=Pk.nH _ (ya cs[p].kind es[p] (bH (bZ b a j) p));rcases f with⟨g,d,x,y,t⟩|⟨_,d|⟨g,d,v⟩⟩
 ·have e:(bH (bZ b a j) p).length=g:=by omega
  exact(t.IN _ e (h.vc j p c) (eP i.symm)).symm
 ·exact absurd s d
 ·have e:(bH (bZ b a j) p).length=g:=by omega
  exact absurd i.symm (v _ e (h.vc j p c))
end Cc
namespace Cc
open Go Go.Conc
open Go.RowKit (Below)
section
variable {P0 P:Ug}{Post:U->F->Prop}{cs:List Uu}{w:F}{b:Uu}{a:V7}{k:List WO}
def RQ(h:Twins P0 P){c:WX}{Q:F->V7->F->Prop}(E:∀s,Item.code (.refuse s)∉k)(K:eO P0 (b.at a (.code c::k)) [])
 (G:∀W,(∀(b:Nat) o,w.heap[b]? =I o->bk P0 o->W.heap[b]? =I o)->w.heap.size<=W.heap.size->c.wp P0 (λe a' W'=>e= .normal/\aP W W'/\Q W a' W') a W)
 (C:∀a' W W' w',(∀(b:Nat) o,w.heap[b]? =I o->bk P0 o->W.heap[b]? =I o)->w.heap.size<=W.heap.size->aP W W'->Q W a' W'->Un W' w'->RelB (gp w) w w'->Xe P0 P Post (gp w') (b.at a' k) cs w'):Xe P0 P Post (gp w) (b.at a (.code c::k)) cs w:=by
 intro O N d H;refine Ir h (Q:=λg e a' W'=>e= .normal/\∃W,W.heap=g.heap/\aP W W'/\Q W a' W') (λg j m=>?_) E (λg id a w f=>by cases f.1) (λg R a w f=>by cases f.1) (λg a w f=>by cases f.1) (λg e a' x w' m A j f i t=>?_) K H
 ·intro y M z;obtain⟨e,a',w',⟨n,i,B⟩,D⟩:=G (sh m 0 g) (λb o l q=>j.at_ b o ((d.at_ b (Uc.1 l).1).trans l) q) (by show w.heap.size<=g.heap.size;rw[<-j.un.size];exact d.size) y M z;exact⟨e,a',w',⟨n,sh m 0 g,rfl,i,B⟩,D⟩
 ·obtain⟨rfl,W,r,p,f⟩:=f;have L:W.heap.size<=w'.heap.size:=by rw[i.un.size];exact p.size
  have u:W.heap.size=N.heap.size:=by rw[r,j.un.size]
  have hrel:RelB (gp w) w w':=⟨λb v=>by
   have n:x.heap[b]? =W.heap[b]? :=p.block b (by rw[u];exact Ue v d.size);exact(i.same j.un (by rw[n,r])).trans (d.at_ b v),Uz d.size (by rw[<-u];exact L),t.tape.trans d.tape,t.os.trans d.os,t.output.trans d.output⟩
  intro _ J;exact Xe.go (C a' W (sh m A x) w' (λb o l q=>by rw[r];exact j.at_ b o ((d.at_ b (Uc.1 l).1).trans l) q) (by rw[u];exact d.size) p f ⟨i.un.size,i.un.at_,i.un.os,i.un.output⟩ hrel) (λb h=>h) J
end
end Cc
namespace Cc
open Go Go.Conc
open Go.RowKit (Below)
open Ec
open Pk
def Q5{a:V7}{n:Nat}(h:a.tmps.size=n)(c:a.defers=[]):a=⟨((UL n).map (aV a)).toArray,[]⟩:=by
 obtain⟨f,e⟩:=a;simp only at h c;subst c;congr 1;apply Array.ext_getElem?;intro d;simp only[List.getElem?_toArray,List.getElem?_map,List.getElem?_range];rcases Vz d n with b|b
 ·simp[b,aV,h]
 ·simp[b,h]
end Cc
namespace Ec
open Go.RowKit Pk Pm
def Tn(W:F)(v:Nat->U):(Td Wd).wp (aB T5) (λe a' W'=>e= .normal/\W'=W.alloc (.cells #[aR,aR,.int .i64 0,aR,.bool T8] 50)/\Cc.Knows a' 156 [(0,v 0),(1,v 1),(2,v 2),(3,v 3),(4,v 4),(10,(bS W.heap.size))]/\a'.defers=[]) (pX v) W:=by
 unfold Td Wd pX;dsimp only
 go_wp2_with fail
 exact(((((An Y Y).cons Y).cons Y).cons Y).cons Y).cons Y
def To(W:F)(v:Nat->U):(Te Wd).wp (aB T5) (λe a' W'=>e= .normal/\W'=W.alloc (.cells #[aR,aR,.int .i64 0,aR,.bool T8] 50)/\Cc.Knows a' 156 [(0,v 0),(1,v 1),(2,v 2),(3,v 3),(4,v 4),(10,v 10),(11,(bS W.heap.size))]/\a'.defers=[]) (pX v) W:=by
 unfold Te Wd pX;dsimp only
 go_wp2_with fail
 exact((((((An Y Y).cons Y).cons Y).cons Y).cons Y).cons Y).cons Y
def pY{a:V7}(h:a.tmps.size=156)(b:a.defers=[]):a=pX (Cc.aV a):=Cc.Q5 h b
def MM(w:F):eN w ((w.alloc (.cells #[aR,aR,.int .i64 0,aR,.bool T8] 50)).alloc (.cells #[aR,aR,.int .i64 0,aR,.bool T8] 50)) (w.heap.size+1) aR [] aR [] 0 aR [] T8:=
 ⟨alloc_old _ (by simp) (bh w _),jI w _ _,Vq _ _ _ _,Vq _ _ _ _,λb a=>absurd a (by simp),Vq _ _ _ _,gB _ _,by omega⟩
def MK(kinds:List Int)(raw:List aE)(dV:List Int)(m:Int)(bo:Bool)(q:Option UK)(kb gN fG:Nat)(ro:Option UK)(rb bg aM:Nat)(co:Option UK)(s bD r:Nat)(w:F)(az:kinds.length<=Ur)(a0:raw.length<=Ur)(aw:dV.length<=Ur)
 (ap:(0<kinds.length->q=I ⟨kb,gN,K⟩)/\(0<kinds.length->kb<w.heap.size)/\∀j,j<kinds.length->bU w kb (gN+j) (.int .i64 (kinds.getD j 0))) (a2:sK w ro rb bg raw) (ae:(0<dV.length->co=I ⟨s,bD,K⟩)/\(0<dV.length->s<w.heap.size)/\∀j,j<dV.length->bU w s (bD+j) (.int .i64 (dV.getD j 0)))
 (an:∀x∈kinds,lQ x) (am:∀x∈dV,lQ x) (ao:∀x∈raw,rD x/\x.s.size<=Ur) (ad:lQ m):
 bG 19 #[.slice q kinds.length fG,.slice ro raw.length aM,.slice co dV.length r,.int .i64 m,.bool bo] w (TG w raw.length bo):=by
 refine calls_of_wp ay.func19 Pn ?_;have a:=Cc.TN (.slice q kinds.length fG) (.slice ro raw.length aM) (.slice co dV.length r) (.int .i64 m) (.bool bo) 156 (by decide);generalize T:(#[.slice q kinds.length fG,.slice ro raw.length aM,.slice co dV.length r,.int .i64 m,.bool bo]++U4 (156-5) Vl:Array U)=a6 at a;have a3:({tmps:= #[.slice q kinds.length fG,.slice ro raw.length aM,.slice co dV.length r,.int .i64 m,.bool bo]++U4 (Wd.ntmps-5) Vl,defers:=[]}:V7)=⟨a6,[]⟩:=by rw[<-T];rfl
 show Code.wp _ _ _ {tmps:= #[.slice q kinds.length fG,.slice ro raw.length aM,.slice co dV.length r,.int .i64 m,.bool bo]++U4 (Wd.ntmps-5) Vl,defers:=[]} w;rw[a3,pY a.size Y];refine wp_seq (Yg ?_ (Tn w _));rintro o G bc ⟨rfl,rfl,l,P⟩;show Code.wp _ _ _ G _;rw[pY l.size P];refine wp_seq (Yg ?_ (To _ _));rintro o H E ⟨rfl,rfl,i,Q⟩;have S:=(i.slot 0 _ Y).trans ((l.slot 0 _ Y).trans (a.slot 0 _ Y));have h:=(i.slot 1 _ Y).trans ((l.slot 1 _ Y).trans (a.slot 1 _ Y));have p:=(i.slot 2 _ Y).trans ((l.slot 2 _ Y).trans (a.slot 2 _ Y));have d:=(i.slot 3 _ Y).trans ((l.slot 3 _ Y).trans (a.slot 3 _ Y));have e:=(i.slot 4 _ Y).trans ((l.slot 4 _ Y).trans (a.slot 4 _ Y));have c:=(i.slot 10 _ Y).trans (l.slot 10 _ Y);have b:_=Value.pointer (I ⟨w.heap.size+1,0,K⟩):=(i.slot 11 _ Y).trans (by simp);have f:=MM w;generalize (w.alloc (.cells #[aR,aR,.int .i64 0,aR,.bool T8] 50)).alloc (.cells #[aR,aR,.int .i64 0,aR,.bool T8] 50)=E at*;show Code.wp _ _ _ H _;rw[pY i.size Q];refine wp_seq (Yg ?_ (Po w _ _ _ kinds q kb gN fG S b az ap an f));rintro o J bd ⟨rfl,n,k,X,Z,f,a,g⟩;replace h:=(a.slot 1 _ Y).trans h;replace p:=(a.slot 2 _ Y).trans p;replace d:=(a.slot 3 _ Y).trans d;replace e:=(a.slot 4 _ Y).trans e;replace c:=(a.slot 10 _ Y).trans c;replace b:=(a.slot 11 _ Y).trans b;show Code.wp _ _ _ J _;rw[pY a.size g];refine wp_seq (Yg ?_ (Ts w _ _ _ n k b X Z f));rintro o L be ⟨rfl,n,k,A,f,a,g⟩;replace h:=(a.slot 1 _ Y).trans h;replace p:=(a.slot 2 _ Y).trans p;replace d:=(a.slot 3 _ Y).trans d;replace e:=(a.slot 4 _ Y).trans e;replace c:=(a.slot 10 _ Y).trans c;replace b:=(a.slot 11 _ Y).trans b;show Code.wp _ _ _ L _;rw[pY a.size g];refine wp_seq (Yg ?_ (Tq w _ _ _ n k b f));rintro o M bi ⟨rfl,rfl,a,g⟩;replace h:=(a.slot 1 _ Y).trans h;replace p:=(a.slot 2 _ Y).trans p;replace d:=(a.slot 3 _ Y).trans d;replace e:=(a.slot 4 _ Y).trans e;replace c:=(a.slot 10 _ Y).trans c;replace b:=(a.slot 11 _ Y).trans b;have t:=a.slot 13 _ Y;show Code.wp _ _ _ M _;rw[pY a.size g];refine wp_seq (Yg ?_ (Pp w _ _ _ dV co s bD r n k p b t aw ae am A f));rintro o N bj ⟨rfl,y,u,al,f,a,g⟩;replace h:=(a.slot 1 _ Y).trans h;replace d:=(a.slot 3 _ Y).trans d;replace e:=(a.slot 4 _ Y).trans e;replace c:=(a.slot 10 _ Y).trans c;replace b:=(a.slot 11 _ Y).trans b;replace t:=(a.slot 13 _ Y).trans t;show Code.wp _ _ _ N _;rw[pY a.size g];refine wp_seq (Yg ?_ (Pq w _ _ _ raw ro rb bg aM n k y u h b t a0 a2 ao A f));rintro o O bl ⟨rfl,C,B,f,aa,a1,ar,a,g⟩;replace d:=(a.slot 3 _ Y).trans d;replace e:=(a.slot 4 _ Y).trans e;replace c:=(a.slot 10 _ Y).trans c;replace b:=(a.slot 11 _ Y).trans b;show Code.wp _ _ _ O _;rw[pY a.size g];refine Yg ?_ (Pr w _ _ _ k n B C u y m bo d e c b ad f λv V W=>ML A al aa ar V W);rintro o br bm ⟨rfl,⟨v,a5,av,ab,a4⟩,D,R⟩;refine⟨R,.agg #[k,B,.int .i64 (v:Int),u,.bool bo],?_,ab,k,n,B,C,u,y,v,rfl,av,a4,a1⟩;obtain⟨⟨a7,a8,a9,ba,bb⟩,-⟩:=fh a5;have z:=D.slot 10 _ Y;unfold Cc.aV at z;rw[UE] at z;simp[UY,Tryz.results19,go_sem,z,a7,a8,a9,ba,bb]
def Jj(k e:Int)(l:List aE)(h:∀x∈l,pu x)(j:l.length<=100):(bJ k e l).length<=54*l.length+11:=by
 have o:=lX l;have b:=oM (l.map nM).length (l.map nM);have d:(dW k e (there l)).length<=43*(there l).length+11:=by
  have a:∀x∈there l,pu x:=λx a=>h x (va a);generalize there l=l at*;unfold dW
  split
  ·have:=nJ 0 l;omega
  ·split
   ·unfold ez;have c:=pR l l.length (T9 _);rw[Vh] at c;obtain⟨b,d,i,f⟩:=c;have n:=gd k (dfold l).1 (λx g=>a x (f x g));have p:=cq 10 (dfold l).1.length;have m:(dfold l).2.length*wid (dfold l).1.length<=(dfold l).2.length*7:=Wt (T9 _) (vm _);rw[Ub,Ub,fc];unfold aL;omega
   ·split
    ·have:=oM (l.map aE.n).length (l.map aE.n);unfold cz;rw[UH] at this ⊢;omega
    ·have:=gd k l a;omega
 unfold bJ cz;rw[UH] at b;rw[Ub,UH];omega
section
variable {cs:List bK}{rows:List (List aE)}{es:List Int}{bd:Nat}
def P8(h:m0 cs rows es bd)(bo:Bool)(j:Nat):(cw (gM (bZ rows bd j) cs es bo).chunks).length<=cs.length*(54*(bZ rows bd j).length+11):=by
 have:=lS (λc:kr=>bytesOf c.text) (54*(bZ rows bd j).length+11) (gM (bZ rows bd j) cs es bo).chunks (λc d=>by
  obtain⟨a,b,rfl⟩:=U8.1 d;have b:a<cs.length:=by simpa using b
  rw[h.lO bo j a b,nH _ (ya _ _ _)];have:=Jj cs[a].kind (es.getD a 0) (bH (bZ rows bd j) a) (λf e=>(h.col j a b f e).2) (h.cut j a);rw[gb] at this;exact this)
 rwa [show(gM (bZ rows bd j) cs es bo).chunks.length=cs.length from cU _ _ _ _ _] at this
theorem H6(h:m0 cs rows es bd)(bo:Bool):∀n,(bQ (bO rows cs es bo bd n)).length<=cs.length*(54*((UL n).map λj=>(bZ rows bd j).length).sum+11*n)
 |0=>UF _
 |n+1=>by
  have b:=H6 h bo n;have c:=P8 h bo n;rw[vu,XK,U1,List.sum_append];unfold bQ at b ⊢;rw[List.flatMap_append,List.flatMap_singleton,Ub];have a:cs.length*(54*(((UL n).map λj=>(bZ rows bd j).length).sum+([n].map λj=>(bZ rows bd j).length).sum)+11*(n+1))=cs.length*(54*((UL n).map λj=>(bZ rows bd j).length).sum+11*n)+cs.length*(54*(bZ rows bd n).length+11):=by
   rw[<-Yf];congr 1;simp;omega
  rw[a];omega
def OU(h:m0 cs rows es bd)(bo:Bool)(n:Nat):(jl cs es (bO rows cs es bo bd n)).length<=20+cs.length*28+n*(10+cs.length*95):=by
 have r:(iT cs es cs.length).length<=cs.length*28:=by
  have:=lS (xZ cs es) 28 (UL cs.length) (λc a=>by
   have a:c<cs.length:=by simpa using a
   have w:=vJ h.table.1 cs[c] (Uk a);have i:=cq 10 cs[c].name.size;unfold xZ aL;rw[Uj,Uo a];simp only[V3,Ub,aj,VJ,XJ];omega)
  rwa [List.length_range] at this
 have s:(cS cs (bO rows cs es bo bd n)).length<=n*(10+cs.length*95):=by
  have:=lS (ep cs) (10+cs.length*95) (bO rows cs es bo bd n) (λb g=>by
   obtain⟨d,v,rfl⟩:=U8.1 g;have l:=h.chunks bo d;have e:(gM (bZ rows bd d) cs es bo).chunks.length=cs.length:=cU _ _ _ _ _;have o:=lS (o9 cs (gM (bZ rows bd d) cs es bo).chunks) 95 (UL (gM (bZ rows bd d) cs es bo).chunks.length) (λc a=>by
    have a:c<(gM (bZ rows bd d) cs es bo).chunks.length:=by simpa using a
    obtain⟨p,j,k,q⟩:=l _ (Uk a);have i:=cq 10 (gM (bZ rows bd d) cs es bo).chunks[c].text.size;unfold o9 aL;rw[Uj,Uo a];simp only[V3,Ub];have g:∀(f:Int) (b:lC),pu b.least->pu b.most->(cr f b).length<=85:=λf b e m=>by
     have x:=gS f b.least e.sz;have y:=gS f b.most m.sz;unfold cr
     split
     ·simp only[Ub,VJ,XJ];omega
     ·simp
    have:=g (cs.getD c ⟨⟨#[]⟩,0⟩).kind _ j k;simp only[Uj] at this ⊢;omega)
   rw[List.length_range,e] at o;have i:=cq 10 (gM (bZ rows bd d) cs es bo).rows;unfold ep fp aL;rw[Ub,e];omega)
  rwa [je] at this
 have t:=cq 10 cs.length;have u:=cq 10 (bO rows cs es bo bd n).length;unfold jl aL;simp only[Ub];omega
def GM(h:m0 cs rows es bd)(bo:Bool)(d:rows.length*cs.length<=100):(eD cs rows es bo bd).length<=65536:=by
 have n:1<=cs.length/\cs.length<=8:=⟨h.table.1.1,h.table.1.2.1⟩;have o:rows.length<=100:=Uz (Nat.le_mul_of_pos_right _ (by omega)) d;have c:b8 rows.length bd<=rows.length:=by
  rcases Vz rows.length (b8 rows.length bd) with a|a
  ·have:=(mz (len:=rows.length) h.lo rows.length).2 a;have:=Nat.le_mul_of_pos_right rows.length h.lo;omega
  ·exact a
 have b:=H6 h bo (b8 rows.length bd);rw[BU rows h.lo] at b;have m:=OU h bo (b8 rows.length bd);have i:cs.length*(54*min (b8 rows.length bd*bd) rows.length+11*b8 rows.length bd)<=cs.length*(65*rows.length):=Wt (T9 _) (by omega);have j:cs.length*(65*rows.length)=65*(rows.length*cs.length):=by rw[Nat.mul_left_comm,Xz cs.length]
 have k:b8 rows.length bd*(10+cs.length*95)<=rows.length*(10+cs.length*95):=Wt c (T9 _);have l:rows.length*(10+cs.length*95)=rows.length*10+95*(rows.length*cs.length):=by rw[Yf,<-Nat.mul_assoc,Xz 95]
 unfold eD vC;simp only[Ub];have e:dP.length=4:=rfl;have f:∀g,(iA g).length=4:=λ_=>rfl;rw[e,f];omega
end
end Ec
namespace Cc
open Go Go.Conc
open Go.RowKit (Below)
open Ec
section
variable {P0 P:Ug}{S own:Nat->Prop}{w:F}{a:V7}{o:Vv}
end
section
variable {P0 P:Ug}{Post:U->F->Prop}{cs:List Uu}{w:F}{b:Uu}{a:V7}{k:List WO}
def nE(h:Twins P0 P){n:Nat}{l:List (Nat×U)}(d:Knows a n l)(i:a.defers=[])(c:WX)(Q:F->V7->F->Prop)(j:∀s,Item.code (.refuse s)∉k)(q:eO P0 (b.at a (.code c::k)) [])
 (m:∀v W,(∀s x,l.lookup s=I x->v s=x)->(∀(b:Nat) o,w.heap[b]? =I o->bk P0 o->W.heap[b]? =I o)->w.heap.size<=W.heap.size->c.wp P0 (λe a' W'=>e= .normal/\aP W W'/\Q W a' W') ⟨((UL n).map v).toArray,[]⟩ W)
 (f:∀a' W W' w',(∀(b:Nat) o,w.heap[b]? =I o->bk P0 o->W.heap[b]? =I o)->w.heap.size<=W.heap.size->aP W W'->Q W a' W'->Un W' w'->RelB (gp w) w w'->Xe P0 P Post (gp w') (b.at a' k) cs w'):Xe P0 P Post (gp w) (b.at a (.code c::k)) cs w:=
 RQ h j q (λW g p=>by
  have:=m (aV a) W d.slot g p;rwa [<-Q5 d.size i] at this) f
end
def Pu{c:WX}(hc:∀s,c≠.refuse s):∀s,Item.code (.refuse s)∉[Item.code c]:=λs d=>by
 simp only[WJ,Item.code.injEq] at d;exact hc s d.symm
def sJ.like{P0:Ug}{w W:F}{base:Nat}{v:U}{n:List (List aE)}(h:sJ w base v n)(x:∀(b:Nat) o,w.heap[b]? =I o->bk P0 o->W.heap[b]? =I o):sJ W base v n:=by
 have p:∀{e:Ui} {i g:Nat} {v:U} {j:List U},w.ownsRow base e i v g j->W.ownsRow base e i v g j:=λ{e i g v j} h=>by
  obtain⟨m,⟨c,d⟩|⟨l,s,t,c,d,f,u⟩⟩:=h
  ·exact⟨m,.inl ⟨c,d⟩⟩
  ·exact⟨m,.inr ⟨l,s,t,c,d,x l _ f trivial,u⟩⟩
 obtain⟨B,c,d,f⟩:=h;exact⟨B,p c,λz C y=>by
  obtain⟨A,q,r⟩:=d z C y;exact⟨A,q,p r⟩,f⟩
def Oj:(VU.name == "runtime.NumGoroutine")=T8:=by kernel_rfl
end Cc
namespace Ec
open Go.RowKit Pk
def Sk (x y:bK):Bool:=(x.name.toList==y.name.toList)&&(x.kind==y.kind)
def H9{x y:bK}:Sk x y=Z↔x=y:=by
 obtain⟨b,c⟩:=x;obtain⟨d,e⟩:=y;unfold Sk;simp only[Ux,beq_iff_eq,bK.mk.injEq];exact⟨λa=>⟨toList_inj a.1,a.2⟩,λa=>⟨by rw[a.1],a.2⟩⟩
def EC(w:F)(x y:bK):(binOp .neq 63 (.agg #[.string x.name,.int .i64 x.kind]) (.agg #[.string y.name,.int .i64 y.kind])).run (aB T5) w= .ok (.bool (!Sk x y)) w:=by
 go_simp;unfold Sk;by_cases a:x.name.toList=y.name.toList<;>by_cases b:x.kind=y.kind<;>simp[a,b]
def wT(c d:List bK)(v bo:Option UK)(b off cap b2 t G:Nat)(w:F)(H:c.length<=Ur)(I:d.length<=Ur)
 (h1:xC w v b off c) (m:xC w bo b2 t d):
 bG 22 #[.slice v c.length cap,.slice bo d.length G] w λe w'=>∃b,e= .returned (.bool b)/\(b=Z↔c=d)/\∃n,w'=w.drewN n:=by
 unfold Ur at H I;by_cases k:c.length=d.length
 ·have x:((c.length:Int) !=(d.length:Int))=T8:=by simp[k]
  have u:=af k;clear k;go_enter ay.func22,Tryz.ntmps22
  go_wp2_with fail
  clear x
  go_loopw [5] (λs wr=>∃a:Nat,a<=c.length/\s= .int .i64 a/\c.take a=d.take a/\∃n,wr=w.drewN n) (λs _=>c.length-(UT s).toNat)
  case atStart=>exact⟨0,UF _,rfl,rfl,0,rfl⟩
  case round=>
   obtain⟨a,J,rfl,z,n,f⟩:=hrel;have p:=af z;clear z;by_cases o:a<c.length
   ·have r:a<d.length:=by rw[<-u.o];exact o
    obtain rfl:=h1.addr (by omega);obtain rfl:=m.addr (by omega);have K:bU wr b (off+a*2) (.string c[a].name):=by rw[f];exact h1.c0 a o
    have L:bU wr b (off+a*2+1) (.int .i64 c[a].kind):=by rw[f];exact h1.c1 a o
    have M:bU wr b2 (t+a*2) (.string d[a].name):=by rw[f];exact m.c0 a r
    have N:bU wr b2 (t+a*2+1) (.int .i64 d[a].kind):=by rw[f];exact m.c1 a r
    have l:=af f;have h:X (c[a]≠d[a]->c≠d):=λi e=>i (by subst e;rfl);have q:X (c[a]=d[a]->c.take (a+1)=d.take (a+1)):=λi=>by rw[Up o,Up r,p.o,i]
    have y:=λw=>EC w c[a] d[a];clear f h1 m p;generalize c[a]=A at*;generalize d[a]=B at*;by_cases g:A=B
    ·have j:=H9.2 g;have E:=af (q.o g);rw[j] at y;clear q h g j
     go_wp2_with fail
     go_quiet (fail)
     go_wp2
     go_roundw
     case rel=>exact⟨a+1,by omega,by go_num,E.o,n+nq,by rw[l.o];exact Xj _ _ _⟩
     case measure=>simp[UT];omega
    ·have j:Sk A B=T8:=by rw[Bool.eq_false_iff];intro i;exact g (H9.1 i)
     have D:=af (h.o g);rw[j] at y;clear q h g j
     go_wp2_with fail
     go_quiet (fail)
     go_wp2;go_ret;exact⟨T8,rfl,by simp only[UC,false_iff];exact D.o,n+nq,by rw[l.o];exact Xj _ _ _⟩
   ·have C:X (c=d):=by
     have:=p.o;rw[UP (by omega),UP (by have:=u.o;omega)] at this;exact this
    have l:=af f;clear f;go_wp2;go_ret;exact⟨Z,rfl,by simp only[true_iff];exact C.o,n,l.o⟩
 ·have x:((c.length:Int) !=(d.length:Int))=Z:=by simp;omega
  have h:X (c≠d):=λe=>k (by rw[e]);clear k;go_enter ay.func22,Tryz.ntmps22;go_wp2;go_ret;exact⟨T8,rfl,by simp only[UC,false_iff];exact h.o,0,rfl⟩
def Jt{Q:Prop}{P:Ug}{f:Nat}{args:Array U}{w:F}(h:Calls P f args w λe w'=>∃b,e= .returned (.bool b)/\(b=Z↔Q)/\∃n,w'=w.drewN n)(d:Q):Calls P f args w λe w'=>e= .returned (.bool Z)/\∃n,w'=w.drewN n:=
 h.mono (by rintro e w' ⟨g,rfl,c,a⟩;rw[c.2 d];exact⟨rfl,a⟩)
def FU{Q:Prop}{P:Ug}{f:Nat}{args:Array U}{w:F}(h:Calls P f args w λe w'=>∃b,e= .returned (.bool b)/\(b=Z↔Q)/\∃n,w'=w.drewN n)(g:¬Q):Calls P f args w λe w'=>e= .returned (.bool T8)/\∃n,w'=w.drewN n:=
 h.mono (by
  rintro e w' ⟨a,rfl,d,c⟩;cases a
  ·exact⟨rfl,c⟩
  ·exact absurd (d.1 Y) g)
def CE(c d:List (List aE))(G bo:Option UK)(b off cap b2 Q aa:Nat)(w:F)(ab:c.length<=Ur)(ad:d.length<=Ur)(L:∀r∈c,r.length<=Ur)(M:∀r∈d,r.length<=Ur)
 (h1:Dg w G b off c) (x:Dg w bo b2 Q d):
 bG 14 #[.slice G c.length cap,.slice bo d.length aa] w λe w'=>∃b,e= .returned (.bool b)/\(b=Z↔c=d)/\∃n,w'=w.drewN n:=by
 have S:=af L;have T:=af M;unfold Ur at ab ad;clear L M;by_cases i:c.length=d.length
 ·have K:((c.length:Int) !=(d.length:Int))=T8:=by simp[i]
  have C:=af i;clear i;go_enter ay.func14,Tryz.ntmps14
  go_wp2_with fail
  clear K
  go_loopw [5] (λz wr=>∃a:Nat,a<=c.length/\z= .int .i64 a/\c.take a=d.take a/\∃n,wr=w.drewN n) (λz _=>c.length-(UT z).toNat)
  case atStart=>exact⟨0,UF _,rfl,rfl,0,rfl⟩
  case round=>
   obtain⟨a,ap,rfl,N,n,f⟩:=hrel;have t:=af N;clear N;by_cases l:a<c.length
   ·have y:a<d.length:=by rw[<-C.o];exact l
    obtain rfl:=h1.addr (by omega);obtain rfl:=x.addr (by omega);obtain⟨am,D,W⟩:=h1.c a l;obtain⟨an,E,Y⟩:=x.c a y;have av:bU wr b (off+a) am:=by rw[f];exact D
    have aw:bU wr b2 (Q+a) an:=by rw[f];exact E
    have k:=af f;have h:X (c[a]≠d[a]->c≠d):=λv e=>v (by subst e;rfl);have u:X (c[a]=d[a]->c.take (a+1)=d.take (a+1)):=λv=>by rw[Up l,Up y,t.o,v]
    have I:=S.o c[a] (Uk l);have J:=T.o d[a] (Uk y);have ar:(a:Int)<(d.length:Int):=by omega
    obtain⟨q,ao,kq,gQ,rfl,O⟩:=W;obtain⟨p,ae,al,o,rfl,P⟩:=Y;have j:X (∀m,bG 29 #[.slice q c[a].length gQ,.slice p d[a].length o] (wr.drewN m) λe w'=>∃b,e= .returned (.bool b)/\(b=Z↔c[a]=d[a])/\∃n,w'=(wr.drewN m).drewN n):=λm=>by
     have H:aP w (wr.drewN m):=by rw[f];exact below_drewN (below_drewN (Uq _ _) n) m
     exact zk c[a] d[a] q p ao kq gQ ae al o _ I J (O.below H) (P.below H)
    clear f h1 x t D E O P I J;generalize c[a]=A at*;generalize d[a]=B at*;by_cases g:A=B
    ·have V:=af (u.o g);have s:X (∀m,bG 29 #[.slice q A.length gQ,.slice p B.length o] (wr.drewN m) λe w'=>e= .returned (.bool Z)/\∃n,w'=(wr.drewN m).drewN n):=λm=>Jt (j.o m) g;clear u h g j
     go_wp2_with fail
     go_quiet ((go_at_call 29;exact Calls.quiet_of (s.o _)))
     go_wp2
     go_roundw
     case rel=>exact⟨a+1,by omega,by go_num,V.o,n+nq,by rw[k.o];exact Xj _ _ _⟩
     case measure=>simp[UT];omega
    ·have U:=af (h.o g);have s:X (∀m,bG 29 #[.slice q A.length gQ,.slice p B.length o] (wr.drewN m) λe w'=>e= .returned (.bool T8)/\∃n,w'=(wr.drewN m).drewN n):=λm=>FU (j.o m) g;clear u h g j
     go_wp2_with fail
     go_quiet ((go_at_call 29;exact Calls.quiet_of (s.o _)))
     go_wp2;go_ret;exact⟨T8,rfl,by simp only[UC,false_iff];exact U.o,n+nq,by rw[k.o];exact Xj _ _ _⟩
   ·have R:X (c=d):=by
     have:=t.o;rw[UP (by omega),UP (by have:=C.o;omega)] at this;exact this
    have k:=af f;clear f;go_wp2;go_ret;exact⟨Z,rfl,by simp only[true_iff];exact R.o,n,k.o⟩
 ·have K:((c.length:Int) !=(d.length:Int))=Z:=by simp;omega
  have h:X (c≠d):=λe=>i (by rw[e]);clear i;go_enter ay.func14,Tryz.ntmps14;go_wp2;go_ret;exact⟨T8,rfl,by simp only[UC,false_iff];exact h.o,0,rfl⟩
end Ec
namespace Ec
open Go.RowKit Pk Pm
def OR(a:Option UK)(n cap:Nat)(w:F)(g:n<=Ur)(hc:n<=cap)(f:0<n->∃b off,a=I ⟨b,off,K⟩):
 bG 8 #[.slice a n cap] w λe w'=>(∃d,min n 16<=d/\e= .returned (.slice a (min n 16) d))/\w'=w:=by
 unfold Ur at g;by_cases h:16<n
 ·obtain⟨b,off,rfl⟩:=f (by omega);have c:min n 16=16:=by omega
  rw[c];go_enter ay.func8,Tryz.ntmps8;go_wp2;go_ret;exact⟨⟨_,by omega,rfl⟩,rfl⟩
 ·have c:min n 16=n:=by omega
  rw[c];go_enter ay.func8,Tryz.ntmps8;go_wp2;go_ret;exact⟨⟨_,hc,rfl⟩,rfl⟩
def Af(a:Option UK)(n cap:Nat)(w:F)(g:n<=Ur)(hc:n<=cap)(f:0<n->∃b off,a=I ⟨b,off,K⟩):
 bG 9 #[.slice a n cap] w λe w'=>(∃d,min n 16<=d/\e= .returned (.slice a (min n 16) d))/\w'=w:=by
 unfold Ur at g;by_cases h:16<n
 ·obtain⟨b,off,rfl⟩:=f (by omega);have c:min n 16=16:=by omega
  rw[c];go_enter ay.func9,Tryz.ntmps9;go_wp2;go_ret;exact⟨⟨_,by omega,rfl⟩,rfl⟩
 ·have c:min n 16=n:=by omega
  rw[c];go_enter ay.func9,Tryz.ntmps9;go_wp2;go_ret;exact⟨⟨_,hc,rfl⟩,rfl⟩
end Ec
namespace Cc
open Go Go.Conc
open Go.RowKit
open Ec
open Pk
section
variable {P0 P:Ug}{Post:U->F->Prop}{cs:List Uu}{w:F}{b:Uu}{a:V7}{k:List WO}
def IS(h:Twins P0 P){n:Nat}{l:List (Nat×U)}(A:Knows a n l)(M:a.defers=[])(c:WX)(Q:F->V7->F->Prop)(N:∀s,Item.code (.refuse s)∉k)(T:eO P0 (b.at a (.code c::k)) [])
 (O:∀v W,(∀s x,l.lookup s=I x->v s=x)->(∀(b:Nat) o,w.heap[b]? =I o->bk P0 o->W.heap[b]? =I o)->w.heap.size<=W.heap.size->c.wp P0 (λe a' W'=>e= .ret/\aP W W'/\Q W a' W') ⟨((UL n).map v).toArray,[]⟩ W)
 (K:∀a' W W' w' todo,(∀(b:Nat) o,w.heap[b]? =I o->bk P0 o->W.heap[b]? =I o)->w.heap.size<=W.heap.size->aP W W'->Q W a' W'->Un W' w'->RelB (gp w) w w'->Xe P0 P Post (gp w') {b.at a' todo with mode:=.returning} cs w'):Xe P0 P Post (gp w) (b.at a (.code c::k)) cs w:=by
 intro Z Y d R;refine Ir h (Q:=λg e a' W'=>e= .ret/\∃W,W.heap=g.heap/\aP W W'/\Q W a' W') (λg j p=>?_) N (λg id a w f=>by cases f.1) (λg l a w f=>by cases f.1) (λg a w f=>by cases f.1) (λg e a' D w' p H j f i y=>?_) T R
 ·intro E X G;have B:=O (aV a) (sh p 0 g) A.slot (λb o m t=>j.at_ b o ((d.at_ b (Uc.1 m).1).trans m) t) (by show w.heap.size<=g.heap.size;rw[<-j.un.size];exact d.size);rw[<-Q5 A.size M] at B;obtain⟨e,a',w',⟨q,i,J⟩,L⟩:=B E X G;exact⟨e,a',w',⟨q,sh p 0 g,rfl,i,J⟩,L⟩
 ·obtain⟨rfl,W,u,r,f⟩:=f;have V:W.heap.size<=w'.heap.size:=by rw[i.un.size];exact r.size
  have z:W.heap.size=Y.heap.size:=by rw[u,j.un.size]
  have hrel:RelB (gp w) w w':=⟨λb C=>by
   have q:D.heap[b]? =W.heap[b]? :=r.block b (by rw[z];exact Ue C d.size);exact(i.same j.un (by rw[q,u])).trans (d.at_ b C),Uz d.size (by rw[<-z];exact V),y.tape.trans d.tape,y.os.trans d.os,y.output.trans d.output⟩
  intro todo _ S;exact Xe.go (K a' W (sh p H D) w' todo (λb o m t=>by rw[u];exact j.at_ b o ((d.at_ b (Uc.1 m).1).trans m) t) (by rw[z];exact d.size) r f ⟨i.un.size,i.un.at_,i.un.os,i.un.output⟩ hrel) (λb h=>h) S
end
end Cc
namespace Cc
open Go Go.Conc
open Go.RowKit (Below)
open Ec
def ei{w0 a b:F}(h:RelB (gp w0) w0 a)(c:RelB (gp a) a b):RelB (gp w0) w0 b:=h.trans (c.mono λe d=>Ue d h.size)
def Eu{w0 a c:F}(h:RelB (gp w0) w0 a)(e:∀b,b<a.heap.size->c.heap[b]? =a.heap[b]?)(f:a.heap.size<=c.heap.size)(d:Sm a c):RelB (gp w0) w0 c:=ei h ⟨e,f,d.tape,d.os,d.output⟩
def Nj{w0 c:F}(h:RelB (gp w0) w0 c):∀(b:Nat) o,w0.heap[b]? =I o->bk (aB T5) o->c.heap[b]? =I o:=λb o a _=>(h.at_ b (Uc.1 a).1).trans a
def sJ.TP{W:F}{base:Nat}{v:U}{a:List (List aE)}(h:sJ W base v a):AD W v a/\a.length<=Ur/\∀r∈a,r.length<=Ur:=by
 obtain⟨H,d,l,-⟩:=h;have n:∀{j:Ui} {t f:Nat} {v:U} {u:List U},W.ownsRow base j t v f u->f<=Ur:=λ{j t f v u} h=>by
  rcases h.2 with⟨_,k⟩|⟨b,i,w,_,_,_,o,x,_⟩
  ·omega
  ·omega
 refine⟨?_,n d,λr B=>?_⟩
 ·have C:=d;rcases d.2 with⟨rfl,k⟩|⟨b,i,w,rfl,D,y,o,x,E,G⟩
  ·have:a=[]:=Vi k;subst this;exact⟨K,0,0,0,rfl,T9 _,λh=>by simp at h,λh=>by simp at h,λc h=>by simp at h⟩
  ·refine⟨I ⟨b,0,K⟩,b,0,i,rfl,o,λ_=>rfl,λ_=>(Uc.1 y).1,λc A=>?_⟩;obtain⟨g,p,e⟩:=l c a[c] (Uo A);have m:=C.cells (g:=b) Y c g p;rw[Xf] at m;exact⟨g,m,rZ.bN e⟩
 ·obtain⟨q,z,rfl⟩:=Vw B;obtain⟨g,p,e⟩:=l q a[q] (Uo z);exact n e
def dD.take{w:F}{f:Option UK}{b off:Nat}{l:List cG}(h:dD w f b off l)(n:Nat):dD w f b off (l.take n):=by
 have d:∀a,a<(l.take n).length->a<l.length:=λa c=>by simp at c;omega
 exact⟨λe=>h.addr (d 0 e),λe=>h.lt (d 0 e),λa c=>by rw[VG];exact h.c0 a (d a c),λa c=>by rw[VG];exact h.c1 a (d a c),λa c=>by rw[VG];exact h.c2 a (d a c),λa c=>by rw[VG];exact h.c3 a (d a c),λa c=>by rw[VG];exact h.c4 a (d a c),λa c=>by rw[VG];exact h.c5 a (d a c),λa c=>by rw[VG];exact h.c6 a (d a c)⟩
def SL:(Tryz.f8.name == "runtime.NumGoroutine")=T8:=by kernel_rfl
def Ff:(Tryz.f9.name == "runtime.NumGoroutine")=T8:=by kernel_rfl
def QJ{Post:U->F->Prop}{b:Uu}{a:V7}{todo:List WO}{w:F}{fn:WD}{v:U}(q:T5.inits.idxOf? b.fn=K)(n:b.kind= .normal)(o:a.defers=[])(i:T5.funcs[b.fn]? =I fn)(j:(∀w,(UY fn a.tmps).run T5 w= .ok v w)/\∀w,(UY fn a.tmps).events T5 w #[]=#[])(r:∀c,RelB (gp w) w c->Post v c):Xe (aB T5) T5 Post (gp w) {b.at a todo with mode:=.returning} [] w:=by
 intro u c t x;refine Gh (v:=v) q (λy k=>⟨rfl,o,n,fn,i,j.1 _⟩) (λd f e p l g=>?_) (λd f=>?_)
 ·have:e=fn:=Yl (p.symm.trans i);subst this;rw[Sem.runT_eq] at g;have m:=j.2 d;have h:l∈(UY e a.tmps).events T5 d #[]:=g;rw[m] at h;simp at h
 ·obtain⟨k,rfl⟩:=f;exact r _ (t.trans (RelB.at _ _ _))
section
variable {Post:U->F->Prop}{s:ByteArray}{ah:List Int}{rs:List cG}{co:Option UK}{cb bD aJ:Nat}{ro:Option UK}{rb bg aM:Nat}{w0:F}
end
end Cc
namespace Ec
open Go.RowKit Pk Pm
def Ce (w W:F):Prop:=(∀(a:Nat) b c f,w.heap[a]? =I (.cells b c f)->W.heap[a]? =I (.cells b c f))/\w.heap.size<=W.heap.size
def Ce.trans{w W W':F}(h:Ce w W)(a:Ce W W'):Ce w W':=⟨λc d e f b=>a.1 _ _ _ _ (h.1 _ _ _ _ b),Uz h.2 a.2⟩
def LK{w W:F}(h:aP w W):Ce w W:=⟨λb c d f a=>(h.block b (Uf a)).trans a,h.size⟩
def iq{w W:F}(h:Cc.RelB (Cc.gp w) w W):Ce w W:=⟨λb c d f a=>(h.at_ b (Uf a)).trans a,h.size⟩
def nh{P0:Ug}{w W:F}(h:∀(b:Nat) o,w.heap[b]? =I o->Cc.bk P0 o->W.heap[b]? =I o)(c:w.heap.size<=W.heap.size):Ce w W:=⟨λb d e f a=>h b _ a trivial,c⟩
def AO{w W:F}(h:Cc.Un w W):Ce w W:=⟨λb c d f a=>h.row.1 a,Nat.le_of_eq h.size.symm⟩
def Ce.cell{w W:F}(h:Ce w W){p:UK}{v:U}(a:w.cell? p=I v):W.cell? p=I v:=by
 unfold Ut at a ⊢;cases b:w.heap[p.block]? with
 |none=>rw[b] at a;cases a
 |some c=>
  rw[b] at a;cases c<;>first|(cases a;done)|skip
  rw[h.1 _ _ _ _ b];exact a
def Ce.own{w W:F}(m:Ce w W){base:Nat}{e:Ui}{f n:Nat}{v:U}{g:List U}(h:w.ownsRow base e f v n g):W.ownsRow base e f v n g:=by
 obtain⟨d,⟨a,b⟩|⟨c,i,j,a,b,k,l⟩⟩:=h
 ·exact⟨d,.inl ⟨a,b⟩⟩
 ·exact⟨d,.inr ⟨c,i,j,a,b,m.1 c _ _ _ k,l⟩⟩
def Ce.Sw{w W:F}(d:Ce w W){e:Option UK}{b off:Nat}{l:List cG}(h:dD w e b off l):dD W e b off l:=
 ⟨h.addr,λf=>Ue (h.lt f) d.2,λc a=>d.cell (h.c0 c a),λc a=>d.cell (h.c1 c a),λc a=>d.cell (h.c2 c a),λc a=>d.cell (h.c3 c a),λc a=>d.cell (h.c4 c a),λc a=>d.cell (h.c5 c a),λc a=>d.cell (h.c6 c a)⟩
def Ce.R9{w W:F}(a:Ce w W){base:Nat}{b:U}{cs:List bK}{d:U}{L:List (List aE×U)}{c:U}{es:List Int}(h:Ll w base b cs d L c es):Ll W base b cs d L c es:=
 ⟨a.own h.ah,a.own h.rows,λf e=>a.own (h.each f e),a.own h.eJ⟩
def nL (v:Nat->U):V7:=⟨#[v 0,v 1,v 2,v 3,v 4,v 5,v 6,v 7,v 8,v 9,v 10,v 11,v 12,v 13,v 14,v 15,v 16,v 17,v 18,v 19,v 20,v 21,v 22,v 23,v 24,v 25,v 26,v 27,v 28,v 29,v 30,v 31,v 32,v 33,v 34,v 35,v 36,v 37,v 38,v 39,v 40,v 41,v 42,v 43,v 44,v 45,v 46,v 47,v 48,v 49,v 50,v 51,v 52,v 53,v 54,v 55,v 56,v 57,v 58,v 59,v 60,v 61,v 62,v 63,v 64,v 65,v 66,v 67,v 68,v 69,v 70,v 71,v 72,v 73,v 74,v 75,v 76,v 77,v 78,v 79,v 80,v 81,v 82,v 83,v 84,v 85,v 86,v 87,v 88,v 89,v 90,v 91,v 92,v 93,v 94,v 95,v 96,v 97,v 98,v 99,v 100,v 101,v 102,v 103,v 104,v 105,v 106,v 107,v 108,v 109,v 110,v 111,v 112,v 113,v 114,v 115,v 116,v 117,v 118,v 119,v 120,v 121,v 122,v 123,v 124,v 125,v 126,v 127,v 128,v 129,v 130,v 131,v 132,v 133,v 134,v 135,v 136,v 137,v 138,v 139,v 140,v 141,v 142,v 143,v 144,v 145,v 146,v 147,v 148,v 149,v 150,v 151,v 152,v 153,v 154,v 155,v 156,v 157,v 158,v 159,v 160,v 161,v 162,v 163,v 164,v 165,v 166,v 167,v 168,v 169,v 170,v 171,v 172,v 173,v 174,v 175,v 176,v 177,v 178,v 179,v 180,v 181,v 182,v 183,v 184,v 185,v 186,v 187,v 188,v 189,v 190,v 191,v 192,v 193,v 194,v 195,v 196,v 197,v 198,v 199,v 200,v 201,v 202,v 203,v 204,v 205,v 206,v 207,v 208,v 209,v 210,v 211,v 212,v 213,v 214,v 215,v 216,v 217,v 218,v 219,v 220,v 221,v 222,v 223,v 224,v 225,v 226],[]⟩
def ql:Nat->WX->WX
 |0,.seq a _=>a
 |n+1,.seq _ b=>ql n b
 |_,a=>a
def kp (n:Nat)(fn:WD):WX:=match fn.body with
 |some a=>ql n a
 |none=>.skip
structure KM(W:F)(gm base:Nat)(cv:U)(cs:List bK)(rv:U)(L:List (List aE×U))(ev:U)(es:List Int)(bd:Nat)(bo:Bool):Prop where
 box:W.heap[gm]? =I (.cells #[cv,rv,.int .i64 (bd:Int),ev,.bool bo] 50 (0,0))
 md:Ll W base cv cs rv L ev es
def KM.ce{w W:F}{gm base:Nat}{cv:U}{cs:List bK}{rv:U}{L:List (List aE×U)}{ev:U}{es:List Int}{bd:Nat}{bo:Bool}(h:KM w gm base cv cs rv L ev es bd bo)(a:Ce w W):KM W gm base cv cs rv L ev es bd bo:=⟨a.1 _ _ _ _ h.box,a.R9 h.md⟩
def O6(W:F)(v:Nat->U)(n:Nat)(bo:Bool)(j:bG 19 #[v 0,v 1,v 2,v 3,v 4] W (TG W n bo)):(kp 3 VY).wp (aB T5) (λe a' W'=>e= .normal/\aP W W'/\(∃gm base cv cs rv L ev es bd,KM W' gm base cv cs rv L ev es bd bo/\m0 cs (L.map Uy) es bd/\L.length*cs.length<=n/\Cc.Knows a' 227 [(1,v 1),(5,v 5),(6,v 6),(15,(bS gm))])/\a'.defers=[]) (nL v) W:=by
 have f:=af j;unfold kp VY nL;dsimp only;simp only[ql]
 go_wp2_with (go_at_call 19;refine f.o.mono ?_;rintro e c ⟨i,cv,cs,rv,L,ev,es,bd,rfl,a,h,k⟩;obtain⟨l,aJ,rfl⟩:=bz a.ah;obtain⟨o,aM,rfl⟩:=bz a.rows;obtain⟨m,bX,rfl⟩:=bz a.eJ;have b:=af i;have d:=af a;have g:=af h)
 refine⟨b.o.trans ((Uq _ _).alloc b.o.size _),c.heap.size,W.heap.size,_,cs,_,L,_,es,bd,⟨bh c _,(LK ((Uq _ _).alloc (T9 _) _)).R9 d.o⟩,g.o,k,?_⟩;exact(((An Y Y).cons Y).cons Y).cons Y
section
variable {W:F}{gm base:Nat}{cv:U}{cs:List bK}{rv:U}{L:List (List aE×U)}{ev:U}{es:List Int}{bd:Nat}{bo:Bool}
def MN(b:Ll W base cv cs rv L ev es)(c:m0 cs (L.map Uy) es bd):bG 20 #[.agg #[cv,rv],.agg #[.int .i64 (bd:Int),ev,.bool bo]] W λe w'=>∃s n,e= .returned (.tuple #[.string s,.int .i64 n])/\(65536<(eD cs (L.map Uy) es bo bd).length/\s=⟨#[]⟩/\n=6\/(eD cs (L.map Uy) es bo bd).length<=65536/\s=strOf (eD cs (L.map Uy) es bo bd)/\n=0)/\aP W w':=by
 refine(GH (es:=es) (.inr ⟨xM,wI⟩) cs (L.map Uy) (bd:Int) bo cv rv ev W (nA b.ah) (by rw[UH];exact nA b.rows) (λl h=>?_) (nA b.eJ) c.vals (vp.bN b.ah) (vU b.rows b.each) (rB.bN b.eJ)).mono ?_
 ·obtain⟨i,g,rfl⟩:=U8.1 h;exact nA (b.each i g)
 ·rintro e w' ⟨s,n,rfl,a,f⟩;refine⟨s,n,rfl,?_,f⟩;have j:=c.lo;have k:=c.hi;rcases a with⟨a,_⟩|⟨_,a,_⟩|⟨_,_,a,d⟩|⟨_,_,a,d⟩
  ·exact absurd c.table a
  ·exact absurd ⟨by omega,by omega,c.eJ⟩ a
  ·exact .inl ⟨a,d⟩
  ·exact .inr ⟨Nat.le_of_not_lt a,d⟩
def MG(v:Nat->U)(c:v 15=(bS gm))(a:KM W gm base cv cs rv L ev es bd bo)(d:m0 cs (L.map Uy) es bd):(kp 4 VY).wp (aB T5) (λe a' W'=>e= .normal/\aP W W'/\(∃s n,(65536<(eD cs (L.map Uy) es bo bd).length/\s=⟨#[]⟩/\n=6\/(eD cs (L.map Uy) es bo bd).length<=65536/\s=strOf (eD cs (L.map Uy) es bo bd)/\n=0)/\Cc.Knows a' 227 [(1,v 1),(5,v 5),(6,v 6),(15,v 15),(16,.string s),(17,.int .i64 n)])/\a'.defers=[]) (nL v) W:=by
 obtain⟨j,aJ,rfl⟩:=bz a.md.ah;obtain⟨l,aM,rfl⟩:=bz a.md.rows;obtain⟨k,bX,rfl⟩:=bz a.md.eJ;have i:X _:=MN (bo:=bo) a.md d;obtain⟨⟨m,o,p,q,r⟩,-⟩:=fh a.box;unfold nL;rw[c];clear a d c;unfold kp VY;dsimp only;simp only[ql]
 go_wp2_with (go_at_call 20;refine Calls.mono i.o ?_;rintro e t ⟨s,n,rfl,b,f⟩;have h:=af b;have g:=af f;clear b f)
 refine⟨g.o,s,n,h.o,?_⟩;exact(((((An Y Y).cons Y).cons Y).cons Y).cons Y).cons Y
def O5(W:F)(v:Nat->U)(n:Nat)(ro:Option UK)(aM:Nat)(h1:v 1= .slice ro n aM)(a:v 16= .string ⟨#[]⟩)(b:v 17= .int .i64 6)(d:100<n)(c:n<=Ur):(kp 5 VY).wp (aB T5) (λe a' W'=>e= .ret/\aP W W'/\Cc.Knows a' 227 [(14,.bool Z)]/\a'.defers=[]) (nL v) W:=by
 unfold nL Ur at*;have f:(100:Int)<(n:Int):=by omega
 rw[h1,a,b];unfold kp VY;dsimp only;simp only[ql];go_wp2;exact⟨Uq _ _,An Y Y⟩
def ME(W:F)(v:Nat->U)(a:v 17= .int .i64 0):(kp 5 VY).wp (aB T5) (λe a' W'=>e= .normal/\aP W W'/\Cc.Knows a' 227 [(5,v 5),(6,v 6),(15,v 15),(16,v 16),(17,.int .i64 0)]/\a'.defers=[]) (nL v) W:=by
 unfold nL;rw[a];unfold kp VY;dsimp only;simp only[ql];go_wp2;exact⟨Uq _ _,((((An Y Y).cons Y).cons Y).cons Y).cons Y⟩
def O7(v:Nat->U)(d:v 15=(bS gm))(a:KM W gm base cv cs rv L ev es bd bo){b2:Nat}(f:W.ownsRow b2 63 2 (v 18) cs.length (eI cs)):(kp 7 VY).wp (aB T5) (λe a' W'=>e= .normal/\aP W W'/\Cc.Knows a' 227 [(5,v 5),(6,v 6),(15,v 15),(16,v 16),(17,v 17),(19,v 19),(20,v 20),(21,.bool Z)]/\a'.defers=[]) (nL v) W:=by
 obtain⟨⟨u,-⟩,-⟩:=fh a.box;obtain⟨n,m,bD,aJ,g,-,h⟩:=vp.bN a.md.ah;obtain⟨q,o,r,p,i,-,j⟩:=vp.bN f;have l:X (bG 22 #[v 18,cv] W λe c=>aP W c/\e= .returned (.bool Z)):=by
  show bG 22 #[v 18,cv] W λe c=>aP W c/\e= .returned (.bool Z);rw[i,g];refine(wT cs cs q n o r p m bD aJ W (nA a.md.ah) (nA a.md.ah) j h).mono ?_;rintro e c ⟨t,rfl,b,s,rfl⟩;exact⟨Pk.below_drewN (Uq _ _) s,by rw[b.2 Y]⟩
 unfold nL;rw[d];clear a d g i h j f;unfold kp VY;dsimp only;simp only[ql]
 go_wp2_with (go_at_call 22;refine l.o.mono ?_;rintro e w ⟨b,rfl⟩;have k:=af b;clear b)
 refine⟨k.o,?_⟩;exact(((((((An Y Y).cons Y).cons Y).cons Y).cons Y).cons Y).cons Y).cons Y
def O9(v:Nat->U)(b:v 15=(bS gm))(a:KM W gm base cv cs rv L ev es bd bo)(c:v 17= .int .i64 0)(d:v 19= .int .i64 (L.length:Int))(f:v 20= .int .i64 0)(g:v 21= .bool Z):(kp 8 VY).wp (aB T5) (λe a' W'=>e= .normal/\aP W W'/\Cc.Knows a' 227 [(5,v 5),(6,v 6),(15,v 15),(16,v 16)]/\a'.defers=[]) (nL v) W:=by
 obtain⟨⟨-,i,-⟩,-⟩:=fh a.box;obtain⟨h,aM,rfl⟩:=bz a.md.rows;unfold nL;rw[b,c,d,f,g];unfold kp VY;dsimp only;simp only[ql];go_wp2;exact⟨Uq _ _,(((An Y Y).cons Y).cons Y).cons Y⟩
end
section
variable {W:F}{gm base:Nat}{cv:U}{cs:List bK}{rv:U}{L:List (List aE×U)}{ev:U}{es:List Int}{bd:Nat}{bo:Bool}
def MD(v:Nat->U)(ah:List Int)(co:Option UK)(cb bD aJ:Nat)(R:v 5= .slice co ah.length aJ)(P:v 15=(bS gm))(Q:v 22=aR)(m:KM W gm base cv cs rv L ev es bd bo)(be:1<=cs.length/\cs.length<=8)(bi:ah.length<=16)(V:(0<ah.length->co=I ⟨cb,bD,K⟩)/\(0<ah.length->cb<W.heap.size)/\∀j,j<ah.length->bU W cb (bD+j) (.int .i64 (ah.getD j 0)))(ad:∀x∈ah,lQ x):
 (kp 10 VY).wp (aB T5) (λe a' W'=>e= .normal/\aP W W'/\(∃J a,W'.ownsRow W.heap.size 3 1 J a.length (bw a)/\a.length=ah.length/\(∀k∈a,0<=k/\k<(cs.length:Int))/\Cc.Knows a' 227 [(6,v 6),(15,v 15),(16,v 16),(22,J)])/\a'.defers=[]) (nL v) W:=by
 obtain⟨bb,a5,a8,a9,ba⟩:=Vg ay.vE;have r:=af V;have an:=af ad;obtain⟨⟨am,-⟩,-⟩:=fh m.box;obtain⟨N,M,rfl⟩:=bz m.md.ah;have a3:=Uf m.box;have av:=af am;unfold nL;rw[R,P,Q];clear R P Q m V ad am;unfold kp VY;dsimp only;simp only[ql]
 go_wp2_with fail
 go_loopw [22,23] (λaw y wr=>∃a:List Int,y= .int .i64 (a.length:Int)/\a.length<=ah.length/\wr.ownsRow W.heap.size 3 1 aw a.length (bw a)/\(∀k∈a,0<=k/\k<(cs.length:Int))/\aP W wr) (λ_ y _=>ah.length-(UT y).toNat)
 case atStart=>exact⟨[],rfl,UF _,Vq _ _ _ _,λk h=>absurd h (by simp),Uq _ _⟩
 case round=>
  obtain⟨a,rfl,bj,u,f,n⟩:=hrel;have D:=af f;obtain⟨H,G,rfl⟩:=bz u;have i:=af u;have d:=af n;clear f u;by_cases o:a.length<ah.length
  ·obtain rfl:=r.o.1 (by omega);have a1:=r.o.2.1 (by omega);have s:X (lQ (ah.getD a.length 0)):=an.o _ (by rw[Uj,Uo o];exact Uk o);have Z:=r.o.2.2 _ o;generalize ah.getD a.length 0=q at*;have l:X (∀W',aP W W'->(λW':F=>bU W' cb (bD+a.length) (.int .i64 q)/\bU W' gm 0 (.slice N cs.length M)) W'):=λW' S=>⟨(S.cell (p:=⟨cb,_,K⟩) a1).trans Z,(S.cell (p:=⟨gm,0,K⟩) a3).trans av.o⟩;have E:X (∀W:F,bG 23 #[.int .i64 q,.int .i64 (cs.length:Int)] W λe bc=>bc=W/\∃b,e= .returned (.int .i64 b)/\0<=b/\b<(cs.length:Int)):=λW=>qd q cs.length W (by omega) (by omega) s.o.1 s.o.2;have p:=n.size;clear Z s n
   go_upto_region 15 with fail
   refine Un.open_ (λW':F=>bU W' cb (bD+a.length) (.int .i64 q)/\bU W' gm 0 (.slice N cs.length M)) 12 (λ_ _ _ _ _ h=>absurd (And.left h) (λh=>by cases h)) λbl=>?_;replace d:X (aP W wr.drew):=d.o.trans (((Uq _ _).drew).mono p);replace i:X (wr.drew.ownsRow W.heap.size 3 1 (.slice H a.length G) a.length (bw a)):=aK i.o ((Uq _ _).drew);have a0:=l.o _ d.o;replace p:=d.o.size;generalize wr.drew=br at*;refine Un.pk 0 ?_;refine Un.pk 1 ?_;refine Un.pk 2 ?_;refine Un.pk 3 ?_;refine Un.ld [12] 4 ?_;refine Un.pk 5 ?_;refine Un.pk 6 ?_;refine Un.ld [12] 7 ?_;refine Un.pk 8 ?_;refine Un.on 9 λg c=>?_;go_simp;go_at_call 23;refine(E.o _).mono ?_;rintro e z ⟨rfl,b,rfl,a6,a7⟩;refine c.o _ _ (λ_=>l.o _ d.o) ?_;clear c g a0 E
   try simp only[UX,Ud,Um,Ul]
   refine Un.on 10 λg c=>?_;go_simp;have B:X (aP W (z.alloc (.cells #[.int .i64 b] 3))):=d.o.trans ((Uq _ _).alloc p _);refine c.o _ _ (λ_=>l.o _ B.o) ?_;clear c g
   try simp only[UX,Ud,Um,Ul]
   refine Un.one (i:=11) (by kernel_rfl) Y (λg c=>?_);have w:=i.o;refine WL _ (by rfl) _ _ 22 (by rfl) W.heap.size 3 bb _ 1 8 ay.underlying22 a5 a8 a9 ba Y (by decide) (.slice H a.length G) a.length _ (by rfl) (w.alloc _) ⟨z.heap.size,0,K⟩ 1 1 [.int .i64 b] (by rfl) Y (VL (bh z _)) (by intro bm al;simp at al;subst al;rfl) (by decide) (by unfold Ur;omega) (by omega) (by simp;omega) _ Y ?_;intro O t A ae ab T a4;have aa:=aO.jm (n:=a.length+1) (cap:=t) ab T;have ar:X (A.ownsRow W.heap.size 3 1 (.slice (I ⟨O,0,K⟩) (a.length+1) t) (a++[b]).length (bw (a++[b]))):=by
    show A.ownsRow W.heap.size 3 1 (.slice (I ⟨O,0,K⟩) (a.length+1) t) (a++[b]).length (bw (a++[b]));rw[<-eT,Ub];exact ae
   have C:X (aP W A):=d.o.trans (aa.below (λaz a2=>(w.lt az a2).1) p);refine c.o _ _ (λ_=>l.o _ C.o) ?_;clear c g w ae ab T a4 aa
   try simp only[UX,Ud,Um,Ul]
   refine Un.on 12 λg c=>?_;go_simp;refine c.o _ _ (λh=>absurd h (by decide)) ?_;clear c g;refine Un.done (by kernel_rfl) ?_ _
   try simp only[UX,Ud,Um,Ul]
   clear d B i l;have ao:X (∀k∈a++[b],0<=k/\k<(cs.length:Int)):=λk f=>by
    rcases U2.1 f with f|f
    ·exact D.o k f
    ·simp only[WJ] at f;subst f;exact⟨a6,a7⟩
   go_wp2_with fail
   go_roundw
   case rel=>exact⟨a++[b],by rw[Ub];go_num,by rw[Ub];exact o,ar.o,ao.o,C.o⟩
   case measure=>simp[UT];omega
  ·have ap:X (a.length=ah.length):=by
    show a.length=ah.length;omega
   clear n
   go_wp2_with fail
   exact⟨d.o,_,a,i.o,ap.o,D.o,(((An Y Y).cons Y).cons Y).cons Y⟩
def Ln (cs:List bK)(r:cG):Prop:=∃(a:Nat) (b:a<cs.length),r.col=(a:Int)/\VC cs[a].kind r.low/\VC cs[a].kind r.high
def KB(a:Int)(b:Bool)(c:Int)(d:ByteArray)(e:Bool)(f:Int)(g:ByteArray):∀u∈[VZ .i64 a,.bool b,.int .i64 c,.string d,.bool e,.int .i64 f,.string g],u.oneCell'=Z:=by
 intro u h;simp at h;rcases h with rfl|rfl|rfl|rfl|rfl|rfl|rfl<;>rfl
def Ap(a b:List cG):dM (a++b)=dM a++dM b:=by simp[dM]
def JJ(v:Nat->U)(rs:List cG)(ro:Option UK)(rb bg aM:Nat)(bj:v 6= .slice ro rs.length aM)(be:v 15=(bS gm))(bi:v 24=aR)(D:KM W gm base cv cs rv L ev es bd bo)(c4:1<=cs.length/\cs.length<=8)(y:∀c∈cs,c.kind=1\/c.kind=2\/c.kind=3)(c5:rs.length<=16)(l:dD W ro rb bg rs)(bt:∀x∈rs,lQ x.col/\(rD x.low/\x.low.s.size<=Ur)/\rD x.high/\x.high.s.size<=Ur):
 (kp 12 VY).wp (aB T5) (λe a' W'=>e= .normal/\aP W W'/\(∃a4 q,W'.ownsRow W.heap.size 61 7 a4 q.length (dM q)/\q.length=rs.length/\(∀r∈q,Ln cs r)/\Cc.Knows a' 227 [(15,v 15),(16,v 16),(22,v 22),(24,a4)])/\a'.defers=[]) (nL v) W:=by
 obtain⟨co,cf,ci,ck,cl⟩:=Vg ay.Ms;have b2:=af l;have bB:=af bt;have b0:=af y;obtain⟨⟨J,-⟩,-⟩:=fh D.box;obtain⟨cR,C,cn,Q,rfl,-,E⟩:=vp.bN D.md.ah;have cd:cn=0:=by
  rcases D.md.ah.2 with⟨e,c1⟩|⟨c0,cu,cx,e,_⟩
  ·omega
  ·have R:=E.addr (by omega);simp only[VB] at e;rw[e.1] at R;simp only[U9,Wi] at R;exact R.2.1.symm
 subst cd;obtain rfl:=E.addr (by omega);have bA:X (∀(a:Nat) (f:a<cs.length) W',aP W W'->bU W' C (a*2+1) (.int .i64 cs[a].kind)):=λa f W' k=>by
  have:=E.c1 a f;rw[UU] at this;exact(k.cell (p:=⟨C,_,K⟩) (E.lt (by omega))).trans this
 have cb:=Uf D.box;have a3:X (∀W',aP W W'->bU W' gm 0 (.slice (I ⟨C,0,K⟩) cs.length Q)):=λW' k=>(k.cell (p:=⟨gm,0,K⟩) cb).trans J;unfold nL;rw[bj,be,bi];clear bj be bi D E l bt y J;unfold kp VY;dsimp only;simp only[ql]
 go_wp2_with fail
 go_loopw [24,25,26,27] (λb5 ae _ _ wr=>∃q:List cG,ae= .int .i64 (q.length:Int)/\q.length<=rs.length/\wr.ownsRow W.heap.size 61 7 b5 q.length (dM q)/\(∀r∈q,Ln cs r)/\aP W wr) (λ_ ae _ _ _=>rs.length-(UT ae).toNat)
 case atStart=>exact⟨[],rfl,UF _,Vq _ _ _ _,λa f=>absurd f (by simp),Uq _ _⟩
 case round=>
  obtain⟨q,rfl,c7,ab,bu,H⟩:=hrel;have aw:=af bu;obtain⟨O,N,rfl⟩:=bz ab;have s:=af ab;have i:=af H;clear bu ab;by_cases n:q.length<rs.length
  ·have l:=b2.o;obtain rfl:=l.addr (by omega);have u:=l.lt (by omega);have p:=af (bB.o rs[q.length] (Uk n));have a5:=l.c0 _ n;have a6:=l.c1 _ n;have a7:=l.c2 _ n;have a8:=l.c3 _ n;have a9:=l.c4 _ n;have ba:=l.c5 _ n;have bb:=l.c6 _ n;generalize rs[q.length]=d at*;have M:X (∀W',aP W W'->(λW':F=>bU W' rb (bg+q.length*7) (.int .i64 d.col)/\bU W' gm 0 (.slice (I ⟨C,0,K⟩) cs.length Q)) W'):=λW' k=>⟨(k.cell (p:=⟨rb,_,K⟩) u).trans a5,a3.o W' k⟩;have o:X (∀W',aP W W'->(λW':F=>(bU W' rb (bg+q.length*7+1) (.bool d.low.null)/\bU W' rb (bg+q.length*7+1+1) (.int .i64 d.low.n)/\bU W' rb (bg+q.length*7+1+2) (.string d.low.s))/\bU W' rb (bg+q.length*7+4) (.bool d.high.null)/\bU W' rb (bg+q.length*7+4+1) (.int .i64 d.high.n)/\bU W' rb (bg+q.length*7+4+2) (.string d.high.s)) W'):=λW' k=>⟨⟨(k.cell (p:=⟨rb,_,K⟩) u).trans a6,(k.cell (p:=⟨rb,_,K⟩) u).trans a7,(k.cell (p:=⟨rb,_,K⟩) u).trans a8⟩,(k.cell (p:=⟨rb,_,K⟩) u).trans a9,(k.cell (p:=⟨rb,_,K⟩) u).trans ba,(k.cell (p:=⟨rb,_,K⟩) u).trans bb⟩;have a1:X (∀W:F,bG 23 #[.int .i64 d.col,.int .i64 (cs.length:Int)] W λe A=>A=W/\∃r:Nat,e= .returned (.int .i64 (r:Int))/\r<cs.length):=λW=>(qd d.col cs.length W (by omega) (by omega) p.o.1.1 p.o.1.2).mono λe A ⟨S,r,T,c2,c3⟩=>⟨S,r.toNat,by rw[T,show((r.toNat:Nat):Int)=r by omega],by omega⟩;have m:=H.size;clear H l a5 a6 a7 a8 a9 ba bb
   go_upto_region 20 with fail
   refine Un.open_ (λW':F=>bU W' rb (bg+q.length*7) (.int .i64 d.col)/\bU W' gm 0 (.slice (I ⟨C,0,K⟩) cs.length Q)) 10 (λ_ _ _ _ _ f=>absurd (And.left f) (λf=>by cases f)) λch=>?_;replace i:X (aP W wr.drew):=i.o.trans (((Uq _ _).drew).mono m);replace s:X (wr.drew.ownsRow W.heap.size 61 7 (.slice O q.length N) q.length (dM q)):=aK s.o ((Uq _ _).drew);have t:=M.o _ i.o;replace m:=i.o.size;generalize wr.drew=c9 at*;refine Un.pk 0 ?_;refine Un.pk 1 ?_;refine Un.pk 2 ?_;refine Un.pk 3 ?_;refine Un.ld [10] 4 ?_;refine Un.pk 5 ?_;refine Un.pk 6 ?_;refine Un.ld [10] 7 ?_;refine Un.pk 8 ?_;refine Un.on 9 λj b=>?_;go_simp;go_at_call 23;refine(a1.o _).mono ?_;rintro e al ⟨rfl,a,rfl,aa⟩;refine b.o _ _ (λ_=>M.o _ i.o) ?_;clear b j t a1
   try simp only[UX,Ud,Um,Ul]
   refine Un.on 10 λj b=>?_;go_simp;refine b.o _ _ (λf=>absurd f (by decide)) ?_;clear b j;refine Un.done (by kernel_rfl) ?_ _
   try simp only[UX,Ud,Um,Ul]
   have J:=a3.o _ i.o;have cp:=bA.o a aa _ i.o;have y:=b0.o cs[a] (Uk aa);have a2:X (∀h g,VC cs[a].kind h->VC cs[a].kind g->∀r∈q++[⟨(a:Int),h,g⟩],Ln cs r):=λh g S T r z=>by
    rcases U2.1 z with z|z
    ·exact aw.o r z
    ·simp only[WJ] at z;subst z;exact⟨a,aa,rfl,S,T⟩
   generalize cs[a].kind=kd at*;have ar:X (∀W:F,bG 24 #[.agg (iG d.low),.int .i64 kd] W λe A=>aP W A/\∃G:aE,e= .returned (.agg (iG G))/\VC kd G):=λW=>uq d.low kd W y p.o.2.1.1 p.o.2.1.2;have av:X (∀W:F,bG 24 #[.agg (iG d.high),.int .i64 kd] W λe A=>aP W A/\∃G:aE,e= .returned (.agg (iG G))/\VC kd G):=λW=>uq d.high kd W y p.o.2.2.1 p.o.2.2.2;have c6:(a:Int)<(cs.length:Int):=by omega
   clear M p y
   go_upto_region 22 with fail
   refine Un.open_ (λW':F=>(bU W' rb (bg+q.length*7+1) (.bool d.low.null)/\bU W' rb (bg+q.length*7+1+1) (.int .i64 d.low.n)/\bU W' rb (bg+q.length*7+1+2) (.string d.low.s))/\bU W' rb (bg+q.length*7+4) (.bool d.high.null)/\bU W' rb (bg+q.length*7+4+1) (.int .i64 d.high.n)/\bU W' rb (bg+q.length*7+4+2) (.string d.high.s)) 19 (λ_ _ _ _ _ f=>absurd (And.left f) (λf=>by cases f)) λch=>?_;replace i:X (aP W al.drew):=i.o.trans (((Uq _ _).drew).mono m);replace s:X (al.drew.ownsRow W.heap.size 61 7 (.slice O q.length N) q.length (dM q)):=aK s.o ((Uq _ _).drew);have t:=o.o _ i.o;replace m:=i.o.size;clear J cp;generalize al.drew=da at*;refine Un.pk 0 ?_;refine Un.pk 1 ?_;refine Un.pk 2 ?_;refine Un.pk 3 ?_;refine Un.pk 4 ?_;refine Un.pk 5 ?_;refine Un.ld [19] 6 ?_;refine Un.pk 7 ?_;refine Un.pk 9 ?_;refine Un.pk 10 ?_;refine Un.pk 11 ?_;refine Un.pk 12 ?_;refine Un.ld [19] 13 ?_;refine Un.pk 14 ?_;refine Un.on 8 λj b=>?_;go_simp;go_at_call 24;refine(ar.o _).mono ?_;rintro e c8 ⟨V,h,rfl,bv⟩;have az:=af (aK s.o V);have B:=af (i.o.trans (V.mono m));refine b.o _ _ (λ_=>o.o _ B.o) ?_;clear b j t ar s i;replace m:=B.o.size
   try simp only[UX,Ud,Um,Ul]
   have t:=o.o _ B.o;refine Un.on 15 λj b=>?_;go_simp;go_at_call 24;refine(av.o _).mono ?_;rintro e am ⟨Z,g,rfl,bs⟩;have a0:=af (aK az.o Z);have w:=af (B.o.trans (Z.mono m));refine b.o _ _ (λ_=>o.o _ w.o) ?_;clear b j t av az B V Z;replace m:=w.o.size
   try simp only[UX,Ud,Um,Ul]
   have t:=o.o _ w.o;refine Un.pk 16 ?_;refine Un.on 17 λj b=>?_;go_simp;have ao:X (aP W (am.alloc (.cells #[.int .i64 (a:Int),.bool h.null,.int .i64 h.n,.string h.s,.bool g.null,.int .i64 g.n,.string g.s] 61))):=w.o.trans ((Uq _ _).alloc m _);refine b.o _ _ (λ_=>o.o _ ao.o) ?_;clear b j t
   try simp only[UX,Ud,Um,Ul]
   refine Un.one (i:=18) (by kernel_rfl) Y (λj b=>?_);have ad:=a0.o;refine WL _ (by rfl) _ _ 23 (by rfl) W.heap.size 61 co _ 7 72 ay.underlying23 cf ci ck cl Y (by decide) (.slice O q.length N) q.length _ (by rfl) (ad.alloc _) ⟨am.heap.size,0,K⟩ 1 1 [.int .i64 (a:Int),.bool h.null,.int .i64 h.n,.string h.s,.bool g.null,.int .i64 g.n,.string g.s] (by rfl) Y (VL (bh am _)) (KB _ _ _ _ _ _ _) (by decide) (by unfold Ur;omega) (by omega) (by simp;omega) _ Y ?_;intro bc P an bx br bl cc;have bm:=aO.jm (n:=q.length+1) (cap:=P) br bl;have b3:X (an.ownsRow W.heap.size 61 7 (.slice (I ⟨bc,0,K⟩) (q.length+1) P) (q++[(⟨(a:Int),h,g⟩:cG)]).length (dM (q++[(⟨(a:Int),h,g⟩:cG)]))):=by
    show an.ownsRow W.heap.size 61 7 (.slice (I ⟨bc,0,K⟩) (q.length+1) P) (q++[(⟨(a:Int),h,g⟩:cG)]).length (dM (q++[(⟨(a:Int),h,g⟩:cG)]));rw[Ap,Ub];exact bx
   have ap:X (aP W an):=w.o.trans (bm.below (λb6 ca=>(ad.lt b6 ca).1) m);refine b.o _ _ (λ_=>o.o _ ap.o) ?_;clear b j ad bx br bl cc bm
   try simp only[UX,Ud,Um,Ul]
   refine Un.on 19 λj b=>?_;go_simp;refine b.o _ _ (λf=>absurd f (by decide)) ?_;clear b j;refine Un.done (by kernel_rfl) ?_ _
   try simp only[UX,Ud,Um,Ul]
   have b4:=af (a2.o h g bv bs);clear w ao a0 o a2 bv bs
   go_wp2_with fail
   go_roundw
   case rel=>exact⟨q++[(⟨(a:Int),h,g⟩:cG)],by rw[Ub];go_num,by rw[Ub];exact n,b3.o,b4.o,ap.o⟩
   case measure=>simp[UT];omega
  ·have b1:X (q.length=rs.length):=by
    show q.length=rs.length;omega
   clear H
   go_wp2_with fail
   exact⟨i.o,_,q,s.o,b1.o,aw.o,(((An Y Y).cons Y).cons Y).cons Y⟩
end
end Ec
namespace Cc
open Go Go.Conc
open Ec
def Dl (x:List aE)(k:Int):aE:=x.getD k.toNat ⟨T8,0,⟨#[]⟩⟩
def fH (rs:List cG)(x:List aE):Bool:=rs.all λa=>si (Dl x a.col) a
def eU (ah:List Int)(x:List aE):List aE:=ah.map (Dl x)
theorem AU{jm:Nat->Bool}{b:Nat->List aE}{first:Nat}{f:List aE->Bool}{g:List aE->List aE}(L:List (List aE))(h1:∀q (h:q<L.length),jm q=f L[q])(c:∀q (h:q<L.length),b q=g L[q]):∀(n p:Nat),p+n=L.length->(eC jm b first p n).map VV=((L.drop p).filter f).map g
 |0,p,h=>by
  rw[List.drop_eq_nil_of_le (by omega)];rfl
 |n+1,p,h=>by
  have a:p<L.length:=by omega
  have d:=AU (first:=first) L h1 c n (p+1) (by omega);rw[List.drop_eq_getElem_cons a,List.filter_cons];simp only[eC];rw[h1 p a];cases f L[p]
  ·exact d
  ·show(b p)::_=_;rw[c p a,d];rfl
section
variable {cs:List bK}{rows:List (List aE)}{es:List Int}{bd:Nat}{bo:Bool}{V:Nat->Nat->List aE}{ah:List Int}{rs:List cG}
def Jp(j p:Nat)(a:j<b8 rows.length bd)(b:p<cs.length):(((bO rows cs es bo bd (b8 rows.length bd)).getD j ⟨0,[]⟩).chunks.getD p vK).eZ=if bo then cy (bH (bZ rows bd j) p) else cF:=by
 simp[bO,a,Uj,gM,ew,b,BR]
def DI(j:Nat)(a:j<b8 rows.length bd):rowsOf (bO rows cs es bo bd (b8 rows.length bd)) j=(bZ rows bd j).length:=by
 simp[rowsOf,bO,a,Uj,gM]
def BV(j:Nat)(b:∀p,p<cs.length->V j p=bH (bZ rows bd j) p){k:Int}(c:0<=k/\k<(cs.length:Int))(q:Nat)(a:q<(bZ rows bd j).length):Az V j k q=Dl (bZ rows bd j)[q] k:=by
 unfold Az Dl;rw[b _ (by omega)];simp[bH,Uj,a]
def LZ(j:Nat)(g:j<b8 rows.length bd)(d:∀p,p<cs.length->V j p=bH (bZ rows bd j) p)(hc:∀k∈ah,0<=k/\k<(cs.length:Int))(f:∀r∈rs,0<=r.col/\r.col<(cs.length:Int)):(ix (bO rows cs es bo bd (b8 rows.length bd)) ah rs V j).map VV=((bZ rows bd j).filter (fH rs)).map (eU ah):=by
 unfold ix;rw[DI j g];refine AU (bZ rows bd j) (λc a=>?_) (λc a=>?_) _ 0 (by omega)
 ·unfold nl fH;rw[XH,UA,UA];constructor<;>intro e r b
  ·rw[<-BV j d (f r b) c a];exact e r b
  ·rw[BV j d (f r b) c a];exact e r b
 ·unfold eU;exact List.map_congr_left λk h=>BV j d (hc k h) c a
def Q7(j:Nat)(b:j<b8 rows.length bd)(c:∀p,p<cs.length->V j p=bH (bZ rows bd j) p){l:List Int}:Lf (bO rows cs es bo bd (b8 rows.length bd)) (aX cs.length l) V j=Z:=by
 unfold Lf;rw[UA];intro d a;rw[jn] at a;rw[c d (by simpa using a),gb,DI j b];simp
def OL(j:Nat)(o:j<b8 rows.length bd)(t:∀r∈rs,0<=r.col/\r.col<(cs.length:Int))(h:td (bO rows cs es bo bd (b8 rows.length bd)) rs j=Z):(bZ rows bd j).filter (fH rs)=[]:=by
 unfold td at h;obtain⟨r,i,b⟩:=List.any_eq_true.1 h;have v:=t r i;rw[Jp j r.col.toNat o (by omega)] at b;cases bo with
 |false=>simp[wN,cF] at b
 |true=>
  simp only[if_true] at b;unfold wN at b;rw[Ux,Bool.or_eq_true] at b;obtain⟨g,a⟩:=b;rcases Qx (bH (bZ rows bd j) r.col.toNat) with⟨k,_⟩|⟨_,_,_,_,_,n⟩
  ·rw[k] at g;cases g
  ·rw[List.filter_eq_nil_iff];intro c u p;have f:=UA.1 p r i;unfold si at f;simp only[WR,Bool.or_eq_false_iff] at f;obtain⟨⟨s,e⟩,d⟩:=f;have q:Dl c r.col∈bH (bZ rows bd j) r.col.toNat:=U8.2 ⟨c,u,rfl⟩;obtain⟨l,m⟩:=n _ q s;rcases a with a|a
   ·unfold ig at a e;simp only[Ux,WR,decide_eq_true_eq] at a;rw[a.1] at e;simp only[Bool.not_false,Bool.true_and,decide_eq_false_iff_not] at e;have:=oV (x:=r.low) (y:=Dl c r.col) (by rw[mh];omega) m;rw[mh] at this;omega
   ·unfold ic at a d;simp only[Ux,WR,decide_eq_true_eq] at a;rw[a.1] at d;simp only[Bool.not_false,Bool.true_and,decide_eq_false_iff_not] at d;have:=oV l (show fq (Dl c r.col) r.high<=0 by omega);omega
theorem CA(sk:Bool)(d:0<bd)(c:∀j,j<b8 rows.length bd->∀p,p<cs.length->V j p=bH (bZ rows bd j) p)(hc:∀k∈ah,0<=k/\k<(cs.length:Int))(b:∀r∈rs,0<=r.col/\r.col<(cs.length:Int))(ws:List Int):
 ∀(r i:Nat) (pre:List dz) (n:Nat),i+r=b8 rows.length bd->(iY sk (bO rows cs es bo bd (b8 rows.length bd)) ah rs (aX cs.length ws) V (λ_=>Z) i r pre n).2.2=0/\(iY sk (bO rows cs es bo bd (b8 rows.length bd)) ah rs (aX cs.length ws) V (λ_=>Z) i r pre n).1.map VV=pre.map VV++((rows.drop (i*bd)).filter (fH rs)).map (eU ah)
 |0,i,pre,n,f=>by
  have:¬i*bd<rows.length:=λg=>by have:=(mz d i).1 g;omega
  rw[List.drop_eq_nil_of_le (by omega)];exact⟨rfl,(Ws _).symm⟩
 |r+1,i,pre,n,f=>by
  have a:i<b8 rows.length bd:=by omega
  have hcut:rows.drop (i*bd)=bZ rows bd i++rows.drop ((i+1)*bd):=by
   unfold bZ;rw[show(i+1)*bd=i*bd+bd from Nat.succ_mul i bd,<-List.drop_drop,Wx]
  rw[Ns,hcut,List.filter_append,U1];by_cases e:(sk&&td (bO rows cs es bo bd (b8 rows.length bd)) rs i)=Z
  ·rw[if_pos e,OL i a b (Bool.and_eq_true_iff.1 e).2];exact CA sk d c hc b ws r (i+1) pre n (by omega)
  ·rw[if_neg e,if_pos (Q7 i a (c i a))];have:=CA sk d c hc b ws r (i+1) (pre++ix (bO rows cs es bo bd (b8 rows.length bd)) ah rs V i) (n+1) (by omega);rw[U1,LZ i a (c i a) hc b,UD] at this;exact this
def My(h:m0 cs rows es bd)(e:xG (I (cs.zip es,bO rows cs es bo bd (b8 rows.length bd))) V)(hc:∀k∈ah,0<=k/\k<(cs.length:Int))(b:∀r∈rs,(0<=r.col/\r.col<(cs.length:Int))/\iX (kE (cs.zip es) r.col) r=Z)(sk:Bool):
 oN (I (cs.zip es,bO rows cs es bo bd (b8 rows.length bd))) V ah rs sk=((rows.filter (fH rs)).map (eU ah),0):=by
 have d:(cs.zip es).length=cs.length:=by rw[List.length_zip,h.FX,Nat.min_self]
 have f:jA (I (cs.zip es,bO rows cs es bo bd (b8 rows.length bd))) ah rs=0:=by
  simp only[jA];rw[if_pos (by rw[sL,d];exact⟨hc,λr a=>(b r a).1⟩),if_pos (by unfold Cw;rw[UA];exact λr a=>(b r a).2)]
 have i:=CA (bo:=bo) (es:=es) sk (show 0<bd from h.lo) (Am h e) hc (λr a=>(b r a).1) (ah++rs.map cG.col) (b8 rows.length bd) 0 [] 0 (by omega);have g:(bO rows cs es bo bd (b8 rows.length bd)).length=b8 rows.length bd:=je _ _ _ _ _ _;have c:(sx (I (cs.zip es,bO rows cs es bo bd (b8 rows.length bd))) V ah rs sk λ_=>Z).2.2=0/\(sx (I (cs.zip es,bO rows cs es bo bd (b8 rows.length bd))) V ah rs sk λ_=>Z).1.map VV=(rows.filter (fH rs)).map (eU ah):=by
  simp only[sx];rw[d,g];simpa using i
 unfold oN;rw[f,if_pos Y,if_pos c.1,c.2]
end
end Cc
namespace Ec
open Go.RowKit Pk
theorem D3:∀(a b:List UInt8),Op.bytesLess a b=decide (Vf a b<0)
 | [],[]=>by simp[Op.bytesLess,Vf]
 |_::_,[]=>by simp[Op.bytesLess,Vf]
 | [],_::_=>by simp[Op.bytesLess,Vf]
 |x::a,d::b=>by
  unfold Op.bytesLess Vf;by_cases c:x<d
  ·simp[c]
  ·by_cases e:d<x
   ·have:x≠d:=λf=>by subst f;exact c e
    simp[c,e,this]
   ·have:x=d:=by
     apply UInt8.le_antisymm<;>simp_all
    simp[c,e,this,D3 a b]
def vH(x y:aE)(w:F):
 bG 28 #[.agg #[.bool x.null,.int .i64 x.n,.string x.s],.agg #[.bool y.null,.int .i64 y.n,.string y.s]] w λe w'=>e= .returned (.bool (decide (fq x y<0)))/\aP w w':=by
 have g:aP w ((w.alloc (.cells #[.bool x.null,.int .i64 x.n,.string x.s] 59)).alloc (.cells #[.bool y.null,.int .i64 y.n,.string y.s] 59)):=gB _ _;have c:=af g;by_cases b:x.n<y.n
 ·have a:X (fq x y<0):=by show fq x y<0;unfold fq;rw[if_pos b];decide
  go_enter ay.func28,Tryz.ntmps28;go_wp2;go_ret;exact⟨j6 (by simp[a.o]),c.o⟩
 ·by_cases d:x.n=y.n
  ·have a:X (fq x y=Vf x.s.data.toList y.s.data.toList):=by show fq x y=_;unfold fq;rw[if_neg b,if_neg (by omega)]
   have f:(x.n==y.n)=Z:=by simp[d]
   go_enter ay.func28,Tryz.ntmps28;go_wp2;go_ret;exact⟨j6 (by rw[a.o,D3,XL,XL]),gB _ _⟩
  ·have a:X (¬fq x y<0):=by show ¬fq x y<0;unfold fq;rw[if_neg b,if_pos (by omega)];decide
   have f:(x.n==y.n)=T8:=by simp[d]
   go_enter ay.func28,Tryz.ntmps28;go_wp2;go_ret;exact⟨j6 (by simp[a.o]),c.o⟩
end Ec
namespace Ec
open Go.RowKit Pk Pm
def Hr(rs:List cG)(x:List aE)(a9:Option UK)(vb kq gQ:Nat)(ro:Option UK)(rb bg aM:Nat)(w:F)(bs:rs.length<=Ur)(bt:x.length<=Ur)(s:sK w a9 vb kq x)(k:dD w ro rb bg rs)(ap:∀r∈rs,0<=r.col/\r.col<(x.length:Int)):
 bG 25 #[.slice a9 x.length gQ,.slice ro rs.length aM] w λe w'=>∃bb,e= .returned (.bool bb)/\(bb=Z↔∀i (h:i<rs.length),si (Cc.Dl x rs[i].col) rs[i]=Z)/\aP w w':=by
 unfold Ur at bs bt;have U:=af k;have ad:=af s;have T:=af ap;clear k s ap;go_enter ay.func25,Tryz.ntmps25
 go_wp2_with fail
 go_loopw [5] (λi wr=>∃b:Nat,b<=rs.length/\i= .int .i64 b/\(∀i (h:i<rs.length),i<b->si (Cc.Dl x rs[i].col) rs[i]=Z)/\aP w wr) (λi _=>rs.length-(UT i).toNat)
 case atStart=>exact⟨0,UF _,rfl,λb6 _ h=>by omega,Uq _ _⟩
 case round=>
  obtain⟨b,b3,rfl,an,C⟩:=hrel;have J:=af an;have ab:=af C;have bu:=C.size;clear an;by_cases q:b<rs.length
  ·have k:=U.o.below C;obtain rfl:=k.addr (by omega);have ar:=k.c0 b q;have av:=k.c1 b q;have aw:=k.c2 b q;have az:=k.c3 b q;have a0:=k.c4 b q;have a1:=k.c5 b q;have a2:=k.c6 b q;obtain⟨bl,bm⟩:=T.o rs[b] (Uk q);obtain⟨f,Y⟩:∃f:Nat,rs[b].col=(f:Int):=⟨rs[b].col.toNat,by omega⟩;have H:f<x.length:=by omega
   have s:=ad.o.below C;obtain rfl:=s.addr (by omega);have L:vb<wr.heap.size:=s.lt (by omega);have ae:=s.c0 f H;have al:=s.c1 f H;have am:=s.c2 f H;have A:X (si (Cc.Dl x rs[b].col) rs[b]=T8->¬∀i (h:i<rs.length),si (Cc.Dl x rs[i].col) rs[i]=Z):=λh bj=>by
    have:=bj b q;rw[h] at this;cases this
   have G:X (si (Cc.Dl x rs[b].col) rs[b]=Z->∀i (h:i<rs.length),i<b+1->si (Cc.Dl x rs[i].col) rs[i]=Z):=λh i br b2=>by
    by_cases e:i=b
    ·subst e;exact h
    ·exact J.o i br (by omega)
   have ao:Cc.Dl x rs[b].col=x[f]:=by
    rw[Y];unfold Cc.Dl;simp[Uj,H]
   rw[ao] at A G;clear k s C J U T ad bl bm ao;generalize rs[b]=r at*;generalize x[f]=v at*;obtain⟨ca,c,a⟩:=r;dsimp only at Y ar av aw az a0 a1 a2;subst Y
   go_upto_region 5 with fail
   have bv:=jN (iW wr (.cells #[.int .i64 (f:Int),.bool c.null,.int .i64 c.n,.string c.s,.bool a.null,.int .i64 a.n,.string a.s] 61));obtain⟨bx,a3,a4,a5,a6,a7,a8⟩:=bv;have g:aP wr (wr.alloc (.cells #[.int .i64 (f:Int),.bool c.null,.int .i64 c.n,.string c.s,.bool a.null,.int .i64 a.n,.string a.s] 61)):=(Uq _ _).alloc (T9 _) _;have bd:=(g.cell (p:=⟨vb,kq+f*3,K⟩) L).trans ae;have be:=(g.cell (p:=⟨vb,kq+f*3+1,K⟩) L).trans al;have bi:=(g.cell (p:=⟨vb,kq+f*3+2,K⟩) L).trans am;have S:=af (ab.o.trans (g.mono bu));have z:wr.heap.size<(wr.alloc (.cells #[.int .i64 (f:Int),.bool c.null,.int .i64 c.n,.string c.s,.bool a.null,.int .i64 a.n,.string a.s] 61)).heap.size:=by simp
   clear g ar av aw az a0 a1 a2 ae al am L;generalize wr.alloc (.cells #[.int .i64 (f:Int),.bool c.null,.int .i64 c.n,.string c.s,.bool a.null,.int .i64 a.n,.string a.s] 61)=o at*;generalize wr.heap.size=j at*;have bo:(f:Int)<(x.length:Int):=by omega
   go_upto_region 6 with fail
   obtain⟨D,O,P⟩:=qA o (.bool v.null) (.int .i64 v.n) (.string v.s) 59;have g:aP o (o.alloc (.cells #[.bool v.null,.int .i64 v.n,.string v.s] 59)):=(Uq _ _).alloc (T9 _) _;have bA:=(g.cell (p:=⟨j,1,K⟩) z).trans a3;have b4:=(g.cell (p:=⟨j,2,K⟩) z).trans a4;have b5:=(g.cell (p:=⟨j,3,K⟩) z).trans a5;have I:=(g.cell (p:=⟨j,4,K⟩) z).trans a6;have Q:=(g.cell (p:=⟨j,5,K⟩) z).trans a7;have R:=(g.cell (p:=⟨j,6,K⟩) z).trans a8;have n:X (aP w (o.alloc (.cells #[.bool v.null,.int .i64 v.n,.string v.s] 59))):=S.o.trans (g.mono (by have:=S.o.size;omega));have l:j<(o.alloc (.cells #[.bool v.null,.int .i64 v.n,.string v.s] 59)).heap.size:=by simp;omega
   have m:o.heap.size<(o.alloc (.cells #[.bool v.null,.int .i64 v.n,.string v.s] 59)).heap.size:=by simp
   clear g bx a3 a4 a5 a6 a7 a8 bd be bi S z bo H;generalize o.alloc (.cells #[.bool v.null,.int .i64 v.n,.string v.s] 59)=bB at*;generalize o.heap.size=B at*;have t:=λW=>vH v c W;have E:=λW=>vH a v W;have p:si v ⟨(f:Int),c,a⟩= !(v.null||ig v c||ic v a):=rfl;have y:c.null=Z/\ig v c=T8\/c.null=T8/\decide (fq v c<0)=T8/\ig v c=T8\/c.null=T8/\decide (fq v c<0)=Z/\ig v c=Z:=by
    unfold ig;cases c.null<;>simp;omega
   have u:a.null=Z/\ic v a=T8\/a.null=T8/\decide (fq a v<0)=T8/\ic v a=T8\/a.null=T8/\decide (fq a v<0)=Z/\ic v a=Z:=by
    unfold ic;rw[mh a v];cases a.null<;>simp;omega
   generalize decide (fq v c<0)=b1 at*;generalize decide (fq a v<0)=b0 at*;cases N:v.null
   ·rw[N] at D t E p;rcases y with⟨M,y⟩|⟨M,rfl,y⟩|⟨M,rfl,y⟩;clear t
    all_goals rcases u with⟨aa,u⟩|⟨aa,rfl,u⟩|⟨aa,rfl,u⟩
    all_goals
     rw[M] at bA;rw[aa] at I E
     try rw[M] at t
     rw[y,u] at p;clear y u N
     first
     |(have bc:=af (G.o p);clear A G p
       go_wp2_with (go_at_call 28;(first|(refine(t _).mono ?_;clear t)|refine(E _).mono ?_);rintro e w' ⟨rfl,d⟩;replace n:X (aP w w'):=n.o.trans (d.mono (by have:=n.o.size;omega));replace D:=(d.cell (p:=⟨B,0,K⟩) m).trans D;replace O:=(d.cell (p:=⟨B,1,K⟩) m).trans O;replace P:=(d.cell (p:=⟨B,2,K⟩) m).trans P;replace I:=(d.cell (p:=⟨j,4,K⟩) l).trans I;replace Q:=(d.cell (p:=⟨j,5,K⟩) l).trans Q;replace R:=(d.cell (p:=⟨j,6,K⟩) l).trans R;replace l:=Ue l d.size;replace m:=Ue m d.size;clear d)
       go_roundw
       (case rel=>exact⟨b+1,by omega,by go_num,bc.o,n.o⟩)
       case measure=>simp[UT];omega)
     |(have V:=af (A.o p);clear A G p
       go_wp2_with (go_at_call 28;(first|(refine(t _).mono ?_;clear t)|refine(E _).mono ?_);rintro e w' ⟨rfl,d⟩;replace n:X (aP w w'):=n.o.trans (d.mono (by have:=n.o.size;omega));replace D:=(d.cell (p:=⟨B,0,K⟩) m).trans D;replace O:=(d.cell (p:=⟨B,1,K⟩) m).trans O;replace P:=(d.cell (p:=⟨B,2,K⟩) m).trans P;replace I:=(d.cell (p:=⟨j,4,K⟩) l).trans I;replace Q:=(d.cell (p:=⟨j,5,K⟩) l).trans Q;replace R:=(d.cell (p:=⟨j,6,K⟩) l).trans R;replace l:=Ue l d.size;replace m:=Ue m d.size;clear d)
       go_ret;exact⟨T8,rfl,by simp only[UC,false_iff];exact V.o,n.o⟩)
   ·rw[N] at D p;have V:=af (A.o p);clear A G p N t E y u;go_wp2;go_ret;exact⟨T8,rfl,by simp only[UC,false_iff];exact V.o,n.o⟩
  ·have ba:X (∀i (h:i<rs.length),si (Cc.Dl x rs[i].col) rs[i]=Z):=λi h=>J.o i h (by omega);clear J C U T;go_wp2;go_ret;exact⟨Z,rfl,by simp only[true_iff];exact ba.o,ab.o⟩
def Hq(rs:List cG)(x:List aE)(d:Option UK)(vb kq gQ:Nat)(ro:Option UK)(rb bg aM:Nat)(w:F)(i:rs.length<=Ur)(j:x.length<=Ur)(k:sK w d vb kq x)(c:dD w ro rb bg rs)(h:∀r∈rs,0<=r.col/\r.col<(x.length:Int)):
 bG 25 #[.slice d x.length gQ,.slice ro rs.length aM] w λe w'=>e= .returned (.bool (Cc.fH rs x))/\aP w w':=by
 refine(Hr rs x d vb kq gQ ro rb bg aM w i j k c h).mono ?_;rintro e w' ⟨l,rfl,a,g⟩;refine⟨j6 ?_,g⟩;rw[XH,a];unfold Cc.fH;rw[UA];constructor
 ·intro a r c;obtain⟨f,b,rfl⟩:=Vw c;exact a f b
 ·exact λa f b=>a _ (Uk b)
structure Dk(w W:F)(wv:U)(M:List (List aE×U)):Prop where
 rows:W.ownsRow w.heap.size 43 1 wv M.length (M.map VV)
 each:∀p∈M,W.ownsRow w.heap.size 59 3 p.2 p.1.length (aH p.1)
 dh:aP w W
structure zY(w W:F)(wv:U)(M:List (List aE×U))(x:List aE)(u:U):Prop where
 md:Dk w W wv M
 own:W.ownsRow w.heap.size 59 3 u x.length (aH x)
 ap:∀p∈M,Apart p.2 u
section
variable {w W W1:F}{wv:U}{M:List (List aE×U)}{x:List aE}{u u' v':U}
def Dk.below(h:Dk w W wv M)(a:aP W W1):Dk w W1 wv M:=
 ⟨aK h.rows a,λc b=>aK (h.each c b) a,h.dh.trans (a.mono h.dh.size)⟩
def zY.below(h:zY w W wv M x u)(a:aP W W1):zY w W1 wv M x u:=⟨h.md.below a,aK h.own a,h.ap⟩
def zY.grow(h:zY w W wv M x u)(a:aO W W1 u u'){y:aE}(e:W1.ownsRow w.heap.size 59 3 u' (x++[y]).length (aH (x++[y]))):zY w W1 wv M (x++[y]) u':=
 ⟨⟨bE h.md.rows a (dR h.md.rows h.own (by decide)),λc b=>bE (h.md.each c b) a (h.ap c b),h.md.dh.trans (a.below (λd a=>(h.own.lt d a).1) h.md.dh.size)⟩,e,λc b=>(h.ap c b).jQ (h.md.each c b) a⟩
def zY.put(h:zY w W wv M x u)(b:aO W W1 wv v')(f:W1.ownsRow w.heap.size 43 1 v' (M++[(x,u)]).length ((M++[(x,u)]).map VV)):Dk w W1 v' (M++[(x,u)]):=
 ⟨f,λc a=>by
  have d:W.ownsRow w.heap.size 59 3 c.2 c.1.length (aH c.1):=by
   rcases U2.1 a with a|a
   ·exact h.md.each c a
   ·simp at a;subst a;exact h.own
  exact bE d b (dR d h.md.rows (by decide)),h.md.dh.trans (b.below (λe b=>(h.md.rows.lt e b).1) h.md.dh.size)⟩
end
def KO{a:List (List aE)}{rs:List cG}{b:List Int}{j:Nat}(h:j<a.length):(((a.take (j+1)).filter (Cc.fH rs)).map (Cc.eU b))=(((a.take j).filter (Cc.fH rs)).map (Cc.eU b))++(if Cc.fH rs a[j] then[Cc.eU b a[j]] else[]):=by
 rw[Up h,List.filter_append,U1];congr 1;cases c:Cc.fH rs a[j]<;>simp[c]
section
variable {W:F}{gm base:Nat}{cv:U}{cs:List bK}{rv:U}{L:List (List aE×U)}{ev:U}{es:List Int}{bd:Nat}{bo:Bool}
def Pa(v:Nat->U)(a:List Int)(rs:List cG)(ro:Option UK)(rb bg aM:Nat)(bm:v 15=(bS gm))(Z:rB W (v 22) a)(bs:v 24= .slice ro rs.length aM)(bt:v 28=aR)(y:KM W gm base cv cs rv L ev es bd bo)(dC:a.length<=16)(d4:rs.length<=16)(du:L.length<=2000)(b0:∀p∈L,p.1.length=cs.length)(dE:1<=cs.length/\cs.length<=8)(bA:∀k∈a,0<=k/\k<(cs.length:Int))(b3:∀r∈rs,0<=r.col/\r.col<(cs.length:Int))(b1:dD W ro rb bg rs):
 (kp 14 VY).wp (aB T5) (λe a' W'=>e= .normal/\aP W W'/\(∃wv M,Dk W W' wv M/\M.map Uy=((L.map Uy).filter (Cc.fH rs)).map (Cc.eU a)/\Cc.Knows a' 227 [(16,v 16),(22,v 22),(24,v 24),(28,wv)])/\a'.defers=[]) (nL v) W:=by
 obtain⟨dk,c3,c8,c9,da⟩:=Vg ay.mK;obtain⟨df,c2,db,dc,dd⟩:=Vg ay.Mr;obtain⟨cp,t,V,dq,Z,bu,bv,bx⟩:=Z;have ci:=af b1;have ck:=af b3;have a7:=af bA;have al:X ((0<a.length->cp=I ⟨t,V,K⟩)/\(0<a.length->t<W.heap.size)/\∀b,b<a.length->bU W t (V+b) (.int .i64 (a.getD b 0))):=⟨bu,bv,bx⟩;obtain⟨⟨-,ca,-⟩,-⟩:=fh y.box;have c1:=Uf y.box;obtain⟨b6,a4,rfl⟩:=bz y.md.rows;have bc:X (∀W',aP W W'->bU W' gm 1 (.slice b6 L.length a4)):=λW' i=>(i.cell (p:=⟨gm,1,K⟩) c1).trans ca;have cl:=af y.md.rows;have cc:=af y.md.each;have ch:=af b0;unfold nL;rw[bm,Z,bs,bt];clear bm Z bs bt y b1 b3 bA bu bv bx b0 ca;unfold kp VY;dsimp only;simp only[ql]
 go_wp2_with fail
 go_loopw [28,29,30,31,32] (λwv q _ _ _ wr=>∃(M:List (List aE×U)) (b:Nat),q= .int .i64 (b:Int)/\b<=L.length/\M.map Uy=(((L.map Uy).take b).filter (Cc.fH rs)).map (Cc.eU a)/\Dk W wr wv M) (λ_ q _ _ _ _=>L.length-(UT q).toNat)
 case atStart=>exact⟨[],0,rfl,UF _,by simp,Vq _ _ _ _,λp n=>absurd n (by simp),Uq _ _⟩
 case round=>
  obtain⟨M,b,rfl,dO,ap,l⟩:=hrel;obtain⟨cb,gV,rfl⟩:=bz l.rows;have B:=af l;have a8:=af ap;have dv:M.length<=b:=by
   have:=congrArg List.length ap;simp only[UH] at this;have cu:=List.length_filter_le (Cc.fH rs) ((L.map Uy).take b);rw[Vt] at cu;omega
  have u1:=bc.o _ l.dh;have a0:=l.dh.size;by_cases A:b<L.length
  ·have az:=cl.o;have c5:∃j,b6=I ⟨j,0,K⟩/\j<W.heap.size/\bU W j b L[b].2:=by
    rcases az.2 with⟨e,dt⟩|⟨bl,dr,ds,e,_,c0,_⟩
    ·omega
    ·simp only[VB] at e;have bB:=az.cells (g:=bl) (by rw[e.1];rfl) b L[b].2 (by simp[A]);rw[Xf,UU] at bB;exact⟨bl,e.1,Uf c0,bB⟩
   obtain⟨j,rfl,c7,aw⟩:=c5;have a3:=ch.o L[b] (Uk A);obtain⟨d5,f,kq,gQ,b5,O⟩:=rZ.bN (cc.o L[b] (Uk A));obtain rfl:=O.addr (by omega);rw[b5] at aw;have s:X ((((L.map Uy).take (b+1)).filter (Cc.fH rs)).map (Cc.eU a)=(M.map Uy)++(if Cc.fH rs L[b].1 then[Cc.eU a L[b].1] else[])):=by
    show(((L.map Uy).take (b+1)).filter (Cc.fH rs)).map (Cc.eU a)=_;rw[KO (by simpa using A),a8.o,Xt]
   generalize L[b].1=c at*;have a1:=O.lt (by omega);have an:=af O;have bb:X (∀W',aP W W'->bU W' j b (.slice (I ⟨f,kq,K⟩) c.length gQ)):=λW' i=>(i.cell (p:=⟨j,b,K⟩) c7).trans aw;have u2:=bb.o _ l.dh;have S:X (bG 25 #[.slice (I ⟨f,kq,K⟩) c.length gQ,.slice ro rs.length aM] wr λe dl=>e= .returned (.bool (Cc.fH rs c))/\aP wr dl):=Hq rs c _ f kq gQ ro rb bg aM wr (by unfold Ur;omega) (by unfold Ur;omega) (O.below l.dh) (ci.o.below l.dh) (λr c6=>by rw[a3];exact ck.o r c6);have co:=af a3;clear az O aw b5 l ap a3;cases ab:Cc.fH rs c with
   |false=>
    rw[ab] at S s;have am:X (M.map Uy=(((L.map Uy).take (b+1)).filter (Cc.fH rs)).map (Cc.eU a)):=by
     show M.map Uy=_;rw[s.o];simp
    clear s ab
    go_wp2_with (go_at_call 25;refine S.o.mono ?_;rintro e dp ⟨rfl,G⟩;have R:=af (B.o.below G);clear G)
    go_roundw
    case rel=>exact⟨M,b+1,by go_num,A,am.o,R.o⟩
    case measure=>simp[UT];omega
   |true=>
    rw[ab] at S s;have am:X (∀u,(M++[(Cc.eU a c,u)]).map Uy=(((L.map Uy).take (b+1)).filter (Cc.fH rs)).map (Cc.eU a)):=λu=>by
     rw[s.o];simp
    clear s ab
    go_wp2_with (go_at_call 25;refine S.o.mono ?_;rintro e dp ⟨rfl,G⟩;have R:=af (B.o.below G);clear G)
    go_loopw [31,32] (λu q wr=>∃k:Nat,q= .int .i64 (k:Int)/\k<=a.length/\zY W wr (.slice cb M.length gV) M (Cc.eU (a.take k) c) u) (λ_ q _=>a.length-(UT q).toNat)
    case atStart=>exact⟨0,rfl,UF _,R.o,Vq _ _ _ _,λp d1=>(show Apart aR p.2 from .inl Y).symm⟩
    case round=>
     clear R B u1 u2;obtain⟨k,rfl,dT,o⟩:=hrel;obtain⟨Q,P,rfl⟩:=bz o.own;have h:=af o;have a2:(Cc.eU (a.take k) c).length=k:=by unfold Cc.eU;rw[UH,Vt];omega
     have a0:=o.md.dh.size;by_cases z:k<a.length
     ·obtain rfl:=al.o.1 (by omega);have cR:=al.o.2.1 (by omega);have aa:=al.o.2.2 k z;rw[Uj,Uo z,V3] at aa;obtain⟨d,av⟩:∃d:Nat,a[k]=(d:Int):=⟨a[k].toNat,by have:=(a7.o a[k] (Uk z)).1;omega⟩;have ae:d<c.length:=by have:=(a7.o a[k] (Uk z)).2;have:=co.o;omega
      rw[av] at aa;have cf:X (Cc.eU (a.take (k+1)) c=Cc.eU (a.take k) c++[c[d]]):=by
       show Cc.eU (a.take (k+1)) c=_;unfold Cc.eU;rw[Up z,U1,av];simp[Cc.Dl,Uj,ae]
      have be:=an.o.c0 d ae;have bi:=an.o.c1 d ae;have bj:=an.o.c2 d ae;generalize c[d]=g at*;have T:X (∀W',aP W W'->(λW':F=>(bU W' gm 1 (.slice (I ⟨j,0,K⟩) L.length a4)/\bU W' j b (.slice (I ⟨f,kq,K⟩) c.length gQ)/\bU W' t (V+k) (.int .i64 (d:Int)))/\bU W' f (kq+d*3) (.bool g.null)/\bU W' f (kq+d*3+1) (.int .i64 g.n)/\bU W' f (kq+d*3+2) (.string g.s)) W'):=λW' i=>⟨⟨bc.o W' i,bb.o W' i,(i.cell (p:=⟨t,_,K⟩) cR).trans aa⟩,(i.cell (p:=⟨f,_,K⟩) a1).trans be,(i.cell (p:=⟨f,_,K⟩) a1).trans bi,(i.cell (p:=⟨f,_,K⟩) a1).trans bj⟩;generalize Cc.eU (a.take k) c=x at*;subst a2;have d2:(d:Int)<(c.length:Int):=by omega
      clear o aa be bi bj av
      go_upto_region 33 with fail
      refine Un.open_ (λW':F=>(bU W' gm 1 (.slice (I ⟨j,0,K⟩) L.length a4)/\bU W' j b (.slice (I ⟨f,kq,K⟩) c.length gQ)/\bU W' t (V+x.length) (.int .i64 (d:Int)))/\bU W' f (kq+d*3) (.bool g.null)/\bU W' f (kq+d*3+1) (.int .i64 g.n)/\bU W' f (kq+d*3+2) (.string g.s)) 15 (λ_ _ _ _ _ n=>absurd (And.left n) (λn=>by cases n)) λd3=>?_;replace h:X (zY W wr.drew (.slice cb M.length gV) M x (.slice Q x.length P)):=h.o.below ((Uq _ _).drew);have cx:=T.o _ h.o.md.dh;replace a0:=h.o.md.dh.size;generalize wr.drew=a6 at*;refine Un.pk 0 ?_;refine Un.pk 1 ?_;refine Un.pk 2 ?_;refine Un.ld [15] 3 ?_;refine Un.pk 4 ?_;refine Un.pk 5 ?_;refine Un.ld [15] 6 ?_;refine Un.pk 7 ?_;refine Un.pk 8 ?_;refine Un.pk 9 ?_;refine Un.ld [15] 10 ?_;refine Un.pk 11 ?_;refine Un.ld [15] 12 ?_;refine Un.on 13 λC m=>?_;go_simp;have a9:X (aP W (a6.alloc (.cells (iG g) 59))):=h.o.md.dh.trans ((Uq _ _).alloc a0 _);refine m.o _ _ (λ_=>T.o _ a9.o) ?_;clear m C cx
      try simp only[UX,Ud,Um,Ul]
      refine Un.one (i:=14) (by kernel_rfl) Y (λC m=>?_);have ad:=h.o.own;have br:=fD g;refine WL _ (by rfl) _ _ 43 (by rfl) W.heap.size 59 dk _ 3 32 ay.underlying43 c3 c8 c9 da Y (by decide) (.slice Q x.length P) x.length _ (by rfl) (ad.alloc _) ⟨a6.heap.size,0,K⟩ 1 1 [.bool g.null,.int .i64 g.n,.string g.s] (by rfl) Y (VL (bh a6 _)) br (by decide) (by unfold Ur;omega) (by omega) (by simp;omega) _ Y ?_;intro ao D a5 N J E ar;have H:=aO.jm (n:=x.length+1) (cap:=D) J E;have b2:a5.ownsRow W.heap.size 59 3 (.slice (I ⟨ao,0,K⟩) (x.length+1) D) (x++[g]).length (aH (x++[g])):=by
       rw[jv,mX,Ub];exact N
      have ba:=af (h.o.grow H b2);refine m.o _ _ (λ_=>T.o _ ba.o.md.dh) ?_;clear m C ad N J E ar H b2 br
      try simp only[UX,Ud,Um,Ul]
      refine Un.on 15 λC m=>?_;go_simp;refine m.o _ _ (λn=>absurd n (by decide)) ?_;clear m C;refine Un.done (by kernel_rfl) ?_ _
      try simp only[UX,Ud,Um,Ul]
      clear h a9 T
      go_wp2_with fail
      go_roundw
      case rel=>exact⟨x.length+1,by go_num,z,by rw[cf.o];exact ba.o⟩
      case measure=>simp[UT];omega
     ·have c4:k=a.length:=by omega
      subst c4;rw[Vh] at h o a2 ⊢;generalize Cc.eU a c=x at*;have ad:=o.md.rows;clear o a2
      go_wp2_with (at_builtin;refine wpList_append_lies _ Y _ _ 26 Y W.heap.size 43 df _ 1 24 ay.underlying26 c2 db dc dd Y (by decide) _ M.length _ Y (ad.alloc _) ⟨wr.heap.size,0,K⟩ 1 1 [.slice Q x.length P] Y Y (VL (bh wr _)) (by intro u b4;simp at b4;subst b4;rfl) (by decide) (by unfold Ur;omega) (by omega) (by simp;omega) _ Y ?_;intro ao D a5 N J E ar;have H:=aO.jm (n:=M.length+1) (cap:=D) J E;have cn:X (Dk W a5 (.slice (I ⟨ao,0,K⟩) (M.length+1) D) (M++[(x,.slice Q x.length P)])):=h.o.put H (by rw[Ub,U1];exact N);clear N J E ar H)
      go_roundw
      case rel=>
       exact⟨M++[(x,.slice Q x.length P)],b+1,by go_num,A,am.o _,cn.o⟩
      case measure=>simp[UT];omega
  ·have d0:b=L.length:=by omega
   have cd:X (M.map Uy=((L.map Uy).filter (Cc.fH rs)).map (Cc.eU a)):=by
    show M.map Uy=_;rw[a8.o,UP (by rw[UH];omega)]
   clear l
   go_wp2_with fail
   exact⟨B.o.dh,_,M,B.o,cd.o,(((An Y Y).cons Y).cons Y).cons Y⟩
end
end Ec
end Go.Proofs.YtjidbonhhpkljaaGreat
namespace Go.Proofs.YtjidbonhhpkljaaGreat.Ec
open Go.RowKit Go.Proofs.YtjidbonhhpkljaaGreat.Pk Go.Proofs.YtjidbonhhpkljaaGreat.Pm
def CH:Nat->WX->WX
 |0,a=>a
 |n+1,.seq _ b=>CH n b
 |_,a=>a
def kd (n:Nat)(fn:WD):WX:=match fn.body with
 |some a=>CH n a
 |none=>.skip
def Bj{W:F}{R:List (List aE)}{a b:U}(h:AD W a R)(c:AD W b R)(f:R.length<=Ur)(g:∀r∈R,r.length<=Ur)(W':F)(d:aP W W'):bG 14 #[a,b] W' λe w'=>e= .returned (.bool Z)/\aP W' w':=by
 obtain⟨n,l,o,m,rfl,_,i⟩:=h.below d;obtain⟨s,p,t,q,rfl,_,j⟩:=c.below d;refine(CE R R n s l o m p t q W' f f g g i j).mono ?_;rintro e w' ⟨b,rfl,c,k,rfl⟩;exact⟨by rw[c.2 Y],Pk.below_drewN (Uq _ _) k⟩
def O8(W:F)(v:Nat->U)(R:List (List aE))(i:v 17= .int .i64 0)(j:v 20= .int .i64 0)(m:AD W (v 33) R)(n:AD W (v 34) R)(f:AD W (v 28) R)(c:R.length<=Ur)(d:∀r∈R,r.length<=Ur):(kd 17 VY).wp (aB T5) (λe a' W'=>e= .ret/\aP W W'/\Cc.Knows a' 227 [(14,.bool Z)]/\a'.defers=[]) (nL v) W:=by
 have h:X (∀W',aP W W'->bG 14 #[v 33,v 28] W' λe g=>e= .returned (.bool Z)/\aP W' g):=λW' b=>Bj m f c d W' b;have o:X (∀W',aP W W'->bG 14 #[v 34,v 28] W' λe g=>e= .returned (.bool Z)/\aP W' g):=λW' b=>Bj n f c d W' b;unfold nL;rw[i,j];clear m n f i j c d;unfold kd VY;dsimp only;simp only[CH]
 go_wp2_with (go_at_call 14;first|(refine(h.o _ (Uq _ _)).mono ?_;rintro e q ⟨rfl,k⟩;have a:=af k;clear k h)|(refine(o.o _ a.o).mono ?_;rintro e s ⟨rfl,l⟩;have p:=af (a.o.trans (l.mono a.o.size));clear l))
 exact⟨p.o,An Y Y⟩
def Ej{w:F}{base:Nat}{d:Option UK}{n cap:Nat}{a:List Int}(h:w.ownsRow base 3 1 (.slice d n cap) a.length (bw a)):∃b c,(0<a.length->d=I ⟨b,c,K⟩)/\(0<a.length->b<w.heap.size)/\∀j,j<a.length->bU w b (c+j) (.int .i64 (a.getD j 0)):=by
 obtain⟨k,b,c,l,e,f,g,i⟩:=rB.bN h;obtain⟨rfl,-,-⟩:=X4 e;exact⟨b,c,f,g,i⟩
def Ek{w:F}{base:Nat}{ro:Option UK}{cap:Nat}{q:List cG}(h:w.ownsRow base 61 7 (.slice ro q.length cap) q.length (dM q)):∃rb bg,dD w ro rb bg q:=by
 rcases h.2 with⟨b,d⟩|⟨c,e,f,b,_⟩
 ·obtain rfl:=Vi d;exact⟨0,0,λh=>by simp at h,λh=>by simp at h,λa h=>by simp at h,λa h=>by simp at h,λa h=>by simp at h,λa h=>by simp at h,λa h=>by simp at h,λa h=>by simp at h,λa h=>by simp at h⟩
 ·obtain⟨rfl,-,-⟩:=X4 b;exact⟨c,0,dD.Gf h⟩
def Nm{cs:List bK}{es:List Int}{r:cG}(a:∀c∈cs,c.kind=1\/c.kind=2\/c.kind=3)(k:es.length=cs.length)(h:Ln cs r):(0<=r.col/\r.col<(cs.length:Int))/\iX (Cc.kE (cs.zip es) r.col) r=Z:=by
 obtain⟨d,b,e,f,g⟩:=h;refine⟨by omega,?_⟩;have j:d<(cs.zip es).length:=by rw[List.length_zip];omega
 have i:Cc.kE (cs.zip es) r.col=cs[d].kind:=by
  unfold Cc.kE;rw[e,Int.toNat_natCast,Uj,Uo j,V3,List.getElem_zip]
 unfold iX;rw[i,(uC (a _ (Uk b)) f).1,(uC (a _ (Uk b)) g).1];rfl
end Go.Proofs.YtjidbonhhpkljaaGreat.Ec
namespace Go.Proofs.YtjidbonhhpkljaaGreat.Cc
open Go Go.Conc
open Go.RowKit (Below)
open Go.Proofs.YtjidbonhhpkljaaGreat.Ec
def TW(v0 v1 v2 b c d e:U)(m:Nat)(i:7<=m):Knows ⟨#[v0,v1,v2,b,c,d,e]++U4 (m-7) Vl,[]⟩ m [(0,v0),(1,v1),(2,v2),(3,b),(4,c),(5,d),(6,e)]:=by
 have a:∀f v,(#[v0,v1,v2,b,c,d,e]:Array U)[f]? =I v->aV ⟨#[v0,v1,v2,b,c,d,e]++U4 (m-7) Vl,[]⟩ f=v:=λf v g=>by
  unfold aV;rw[UE,Array.getElem?_append_left (Uc.1 g).1,g];rfl
 refine Knows.cons (Knows.cons (Knows.cons (Knows.cons (Knows.cons (Knows.cons (Knows.cons (l:=[]) ⟨?_,λs v h=>by simp at h⟩ (a 6 e Y)) (a 5 d Y)) (a 4 c Y)) (a 3 b Y)) (a 2 v2 Y)) (a 1 v1 Y)) (a 0 v0 Y);simp;omega
def Hv:(Tryz.f21.name == "runtime.NumGoroutine")=T8:=by kernel_rfl
section
variable {Post:U->F->Prop}{cs:List bK}{rows:List (List aE)}{es:List Int}{bd:Nat}{bo:Bool}{w0:F}
def JI(b:m0 cs rows es bd)(q:(eD cs rows es bo bd).length<=65536){a:List Int}{rs:List cG}(l:∀k∈a,0<=k/\k<(cs.length:Int))(t:∀r∈rs,Ln cs r)(y:a.length<=16)(z:rs.length<=16){co:Option UK}{cb bD aJ:Nat}{ro:Option UK}{rb bg aM:Nat}(sk:Bool)
 (m:0<a.length->co=I ⟨cb,bD,K⟩) (o:0<a.length->cb<w0.heap.size) (n:∀j,j<a.length->bU w0 cb (bD+j) (.int .i64 (a.getD j 0))) (s:dD w0 ro rb bg rs):
 mj (aB T5) T5 Post 13 #[.string (Pk.strOf (eD cs rows es bo bd)),.slice co a.length aJ,.slice ro rs.length aM,.bool sk] w0 (Dh ((rows.filter (fH rs)).map (eU a),0) w0):=by
 have f:(Pk.strOf (eD cs rows es bo bd)).size<=Ur:=by rw[Pk.kL];unfold Ur;omega
 obtain⟨c,hF⟩:=OS (Pk.strOf (eD cs rows es bo bd)) w0 f;have d:=pW b bo q;have i:c=I (cs.zip es,bO rows cs es bo bd (b8 rows.length bd)):=by
  cases c with
  |none=>exact absurd d (hF _ _)
  |some w=>
   obtain⟨A,x⟩:=w;obtain⟨g,h⟩:=hF.2 _ _ d;rw[<-g,<-h]
 subst i;obtain⟨V,e⟩:=Mq w0 hF;have p:=gz b.table.1;have v:=My (bo:=bo) b e l (λr u=>Nm p b.eJ.1.symm (t r u)) sk;have:=GI (Post:=Post) (ah:=a) (rs:=rs) (co:=co) (cb:=cb) (bD:=bD) (aJ:=aJ) (ro:=ro) (rb:=rb) (bg:=bg) (aM:=aM) (sk:=sk) (w0:=w0) f hF e (by omega) (by omega) m o n s;rw[v] at this;exact this
def xe(b:m0 cs rows es bd)(k:(eD cs rows es bo bd).length<=65536)(W:F):bG 21 #[.string (Pk.strOf (eD cs rows es bo bd))] W λe W'=>aP W W'/\∃v,e= .returned v/\∃a,v= .tuple #[a,.int .i64 (rows.length:Int),.int .i64 0]/\W'.ownsRow W.heap.size 63 2 a cs.length (eI cs):=by
 refine(CC (Pk.strOf (eD cs rows es bo bd)) W (by rw[Pk.kL];unfold Ur;omega)).mono ?_;rintro e W' ⟨i,o,q,m,a,rfl,j,f,-⟩;have d:=pW b bo k;obtain⟨p,n,c,rfl,rfl,rfl,l⟩|⟨c,-⟩:=j
 ·obtain⟨g,h⟩:=l _ _ d;subst g;rw[tQ b] at f;refine⟨i,_,rfl,a,?_,f⟩;rw[<-h,xQ b bo];rfl
 ·exact absurd d (c _ _)
end
end Go.Proofs.YtjidbonhhpkljaaGreat.Cc
namespace Go.Proofs.YtjidbonhhpkljaaGreat
namespace Cc
open Go Go.Conc
open Go.RowKit (Below)
open Ec
section
variable {Post:U->F->Prop}{kinds:List Int}{raw:List aE}{dV:List Int}{Fw:Int}{bo:Bool}{ah:List Int}{rs:List cG}{ko:Option UK}{kb gN fG:Nat}{vo:Option UK}{vb kq gQ:Nat}{eo:Option UK}{eb ji bX:Nat}{co:Option UK}{cb bD aJ:Nat}{ro:Option UK}{rb bg aM:Nat}{w0:F}
def O4(dE:kinds.length<=Ur)(bA:raw.length<=Ur)(dC:dV.length<=Ur)(dq:∀x∈kinds,lQ x)(dp:∀x∈dV,lQ x)(dt:∀x∈raw,rD x/\x.s.size<=Ur)(c9:lQ Fw)(ds:∀x∈ah,lQ x)(dr:∀x∈rs,lQ x.col/\(rD x.low/\x.low.s.size<=Ur)/\rD x.high/\x.high.s.size<=Ur)
 (dl:ah.length<=Ur) (dd:ah.length<=aJ) (eh:rs.length<=Ur) (ef:rs.length<=aM)
 (a0:(0<kinds.length->ko=I ⟨kb,gN,K⟩)/\(0<kinds.length->kb<w0.heap.size)/\∀j,j<kinds.length->w0.cell? ⟨kb,gN+j,K⟩=I (.int .i64 (kinds.getD j 0))) (Q:sK w0 vo vb kq raw) (aw:(0<dV.length->eo=I ⟨eb,ji,K⟩)/\(0<dV.length->eb<w0.heap.size)/\∀j,j<dV.length->w0.cell? ⟨eb,ji+j,K⟩=I (.int .i64 (dV.getD j 0)))
 (bu:0<ah.length->co=I ⟨cb,bD,K⟩) (dk:0<ah.length->cb<w0.heap.size) (dc:∀j,j<ah.length->w0.cell? ⟨cb,bD+j,K⟩=I (.int .i64 (ah.getD j 0))) (b1:dD w0 ro rb bg rs) (A:xH (aB T5) w0)
 (bB:∀H,RelB (gp w0) w0 H->Post (.bool Z) H):
 tS (aB T5) T5 Post (Uh (UZ T5 4 #[.slice ko kinds.length fG,.slice vo raw.length gQ,.slice eo dV.length bX,.int .i64 Fw,.bool bo,.slice co ah.length aJ,.slice ro rs.length aM] .normal) []) w0:=by
 have c:=ir (aB T5) T5 Post;refine Xe.go (own:=gp w0) ?_ (λbi d=>d) A;rw[enter_at _ Tryz.func4 Y];have a:=TW (.slice ko kinds.length fG) (.slice vo raw.length gQ) (.slice eo dV.length bX) (.int .i64 Fw) (.bool bo) (.slice co ah.length aJ) (.slice ro rs.length aM) 227 (by decide);have eq:(ah.take 16).length=min ah.length 16:=by rw[Vt];omega
 have er:(rs.take 16).length=min rs.length 16:=by rw[Vt];omega
 refine aQ c ?_;refine bp c [0] Y ?_;refine m6 c a (.bool T8) λa=>?_;refine ak c ?_;refine aQ c ?_;refine bp c [0,1,2] Y ?_;refine cI c a λa=>?_;refine oY (vs:= #[.slice co ah.length aJ]) (R:=λe v y=>∃C,v= .slice co (ah.take 16).length C) cW Y Y Y Y (mv (a.of Y)) Tryz.func8 SL Y (jY Y Y Y).symm (dK Y (by simp only[put_defers]) (by kernel_rfl)) (λe i l=>(OR co ah.length aJ e dl dd λd=>⟨_,_,bu d⟩).mono λm y ⟨⟨C,_,T⟩,P⟩=>⟨by rw[P];exact Below.refl _ _,_,T,C,by rw[eq]⟩) λv e y H i l c2 b bs D=>?_;obtain⟨bj,rfl⟩:=b;replace a:=a.put (d:=38) (by decide) (.slice co (ah.take 16).length bj);refine gY c a λa=>?_;refine ak c ?_;refine aQ c ?_;refine bp c [0,1,2] Y ?_;refine cI c a λa=>?_;refine oY (vs:= #[.slice ro rs.length aM]) (R:=λe v y=>∃C,v= .slice ro (rs.take 16).length C) cW Y Y Y Y (mv (a.of Y)) Tryz.func9 Ff Y (jY Y Y Y).symm (dK Y (by simp only[put_defers]) (by kernel_rfl)) (λe i l=>(Af ro rs.length aM e eh ef λd=>⟨_,_,b1.addr d⟩).mono λm y ⟨⟨C,_,T⟩,P⟩=>⟨by rw[P];exact Below.refl _ _,_,T,C,by rw[er]⟩) λv e6 e7 hm gy hd gf b g5 X=>?_;obtain⟨ch,rfl⟩:=b;replace a:=a.put (d:=40) (by decide) (.slice ro (rs.take 16).length ch);refine gY c a λa=>?_;refine ak c ?_;have k:=ei D X;refine aQ c ?_;refine nE cW a (by simp only[put_defers]) (kp 3 VY) _ (Pu λs d=>by cases d) (dK Y (by simp only[put_defers]) (by kernel_rfl)) (λv e b i l=>by
  have g:=(iq k).trans (nh i l);have:=O6 e v raw.length bo (by
   rw[b 0 _ Y,b 1 _ Y,b 2 _ Y,b 3 _ Y,b 4 _ Y];exact MK kinds raw dV Fw bo ko kb gN fG vo vb kq gQ eo eb ji bX e dE bA dC ⟨a0.1,λd=>Ue (a0.2.1 d) g.2,λj n=>g.cell (a0.2.2 j n)⟩ ⟨Q.addr,λd=>Ue (Q.lt d) g.2,λj n=>g.cell (Q.c0 j n),λj n=>g.cell (Q.c1 j n),λj n=>g.cell (Q.c2 j n)⟩ ⟨aw.1,λd=>Ue (aw.2.1 d) g.2,λj n=>g.cell (aw.2.2 j n)⟩ dq dp dt c9)
  rw[b 1 _ Y,b 5 _ Y,b 6 _ Y] at this;exact this) λfv e8 e9 hn g0 he gg d5 c6 ee=>?_
 obtain⟨⟨f8,base,f6,q,hk,o,f7,O,N,h,t,g8,a⟩,f⟩:=d5;replace h:=h.ce (AO c6);replace k:=ei k ee;have az:1<=q.length/\q.length<=8:=⟨t.table.1.1,t.table.1.2.1⟩;have bv:=gz t.table.1;refine aQ c ?_;refine nE cW a f (kp 4 VY) _ (Pu λs d=>by cases d) (dK Y f (by kernel_rfl)) (λv e b i l=>by
  have:=MG v (b 15 _ Y) (h.ce (nh i l)) t;rw[b 1 _ Y,b 5 _ Y,b 6 _ Y,b 15 _ Y] at this;exact this) λfx fa fb al g1 hf gi d6 gn b3=>?_
 obtain⟨⟨s,hj,en,a⟩,f⟩:=d6;replace h:=h.ce (iq b3);replace k:=ei k b3;refine aQ c ?_;rcases en with⟨g7,rfl,rfl⟩|⟨hi,rfl,rfl⟩
 ·have c1:100<raw.length:=by
   rcases Vz 100 raw.length with d|d
   ·exact d
   ·have:=GM t bo (by rw[UH];omega);omega
  refine IS cW a f (kp 5 VY) (λe M y=>Knows M 227 [(14,.bool Z)]/\M.defers=[]) (Pu λs d=>by cases d) (dK Y f (by kernel_rfl)) (λv e b i l=>O5 e v raw.length vo gQ (b 1 _ Y) (b 16 _ Y) (b 17 _ Y) c1 bA) λcx cu cv e0 eQ c8 em c3 a1 c7 a4=>?_;obtain⟨a,f⟩:=a1;exact QJ (by kernel_rfl) Y f Tryz.func4 (j7 Tryz.results4 (a.slot 14 _ Y)) λae J=>bB ae (ei (ei k a4) J)
 have bx:(eD q (o.map Uy) O bo N).length<=65536:=by omega
 refine nE cW a f (kp 5 VY) _ (Pu λs d=>by cases d) (dK Y f (by kernel_rfl)) (λv e b i l=>by
  have:=ME e v (b 17 _ Y);rw[b 5 _ Y,b 6 _ Y,b 15 _ Y,b 16 _ Y] at this;exact this) λfz fd fe L g2 hg gj d7 gq u=>?_
 obtain⟨a,f⟩:=d7;replace h:=h.ce (iq u);replace k:=ei k u;refine aQ c ?_;refine bp c [0,1,2,3,4,5,6,7,8] Y ?_;refine cI c a λa=>?_;refine oY (vs:= #[.string (Pk.strOf (eD q (o.map Uy) O bo N))]) (R:=λe v y=>∃bl,v= .tuple #[bl,.int .i64 (o.length:Int),.int .i64 0]/\y.ownsRow e.heap.size 63 2 bl q.length (eI q)) cW Y Y Y Y (mv (a.of Y)) Tryz.func21 Hv Y (jY Y Y Y).symm (dK Y (by simp only[put_defers];exact f) (by kernel_rfl)) (λe i l=>by have:=xe t bx e;rw[UH] at this;exact this) λv e y ck i l c2 b bs b4=>?_;obtain⟨et,rfl,V⟩:=b;replace V:=(AO bs).own V;generalize e.heap.size=cR at V;replace a:=a.put (d:=66) (by decide) (.tuple #[et,.int .i64 (o.length:Int),.int .i64 0]);refine cI c a λa=>?_;refine rj c a λa=>?_;refine rj c a λa=>?_;refine rj c a λa=>?_;refine gY c a λa=>?_;refine gY c a λa=>?_;refine gY c a λa=>?_;refine ak c ?_;replace h:=h.ce (iq b4);replace k:=ei k b4;refine aQ c ?_;refine nE cW a (by simp only[put_defers];exact f) (kp 7 VY) _ (Pu λs d=>by cases d) (dK Y (by simp only[put_defers];exact f) (by kernel_rfl)) (λv e b i l=>by
  have g:=nh i l;have:=O7 v (b 15 _ Y) (h.ce g) (b2:=cR) (by rw[b 18 _ Y];exact g.own V);rw[b 5 _ Y,b 6 _ Y,b 15 _ Y,b 16 _ Y,b 17 _ Y,b 19 _ Y,b 20 _ Y] at this;exact this) λf0 fg fi ho g3 hh gl d8 gr b5=>?_
 obtain⟨a,f⟩:=d8;replace h:=h.ce (iq b5);replace k:=ei k b5;refine aQ c ?_;refine nE cW a f (kp 8 VY) _ (Pu λs d=>by cases d) (dK Y f (by kernel_rfl)) (λv e b i l=>by
  have g:=nh i l;have:=O9 v (b 15 _ Y) (h.ce g) (b 17 _ Y) (b 19 _ Y) (b 20 _ Y) (b 21 _ Y);rw[b 5 _ Y,b 6 _ Y,b 15 _ Y,b 16 _ Y] at this;exact this) λf1 fk fl cl g4 ca gm d9 gs b6=>?_
 obtain⟨a,f⟩:=d9;replace h:=h.ce (iq b6);replace k:=ei k b6;refine aQ c ?_;refine bp c [0] Y ?_;refine m6 c a aR λa=>?_;refine ak c ?_;have U:∀j,j<(ah.take 16).length->j<ah.length:=λj n=>by simp at n;omega
 have df:=iq k;have db:∀e,Ce w0 e->(0<(ah.take 16).length->co=I ⟨cb,bD,K⟩)/\(0<(ah.take 16).length->cb<e.heap.size)/\∀j,j<(ah.take 16).length->e.cell? ⟨cb,bD+j,K⟩=I (.int .i64 ((ah.take 16).getD j 0)):=λe g=>⟨λd=>bu (U 0 d),λd=>Ue (dk (U 0 d)) g.2,λj n=>by
  rw[g.cell (dc j (U j n))];have T:=U j n;have P:j<16:=by simp at n;omega
  simp[Uj,V9,P]⟩
 have da:(ah.take 16).length<=16:=by omega
 have ec:(rs.take 16).length<=16:=by omega
 refine aQ c ?_;refine nE cW a (by simp only[put_defers];exact f) (kp 10 VY) _ (Pu λs d=>by cases d) (dK Y (by simp only[put_defers];exact f) (by kernel_rfl)) (λv e b i l=>by
  have g:=nh i l;have:=MD v (ah.take 16) co cb bD bj (b 5 _ Y) (b 15 _ Y) (b 22 _ Y) (h.ce g) az da (db e (df.trans g)) (λx a9=>ds x (V6 a9));rw[b 6 _ Y,b 15 _ Y,b 16 _ Y] at this;exact this) λfm cp e3 ae gt ha f9 d2 c4 J=>?_
 obtain⟨⟨f2,z,r,g6,bt,a⟩,f⟩:=d2;replace h:=h.ce (iq J);replace r:=(AO c4).own r;generalize cp.heap.size=f3 at r;replace k:=ei k J;obtain⟨S,R,rfl⟩:=bz r;refine aQ c ?_;refine bp c [0] Y ?_;refine m6 c a aR λa=>?_;refine ak c ?_;refine aQ c ?_;refine nE cW a (by simp only[put_defers];exact f) (kp 12 VY) _ (Pu λs d=>by cases d) (dK Y (by simp only[put_defers];exact f) (by kernel_rfl)) (λv e b i l=>by
  have g:=nh i l;have:=JJ v (rs.take 16) ro rb bg ch (b 6 _ Y) (b 15 _ Y) (b 24 _ Y) (h.ce g) az bv ec (((iq k).trans g).Sw (dD.take b1 16)) (λx a9=>dr x (V6 a9));rw[b 15 _ Y,b 16 _ Y,b 22 _ Y] at this;exact this) λft cs e4 hl gv hb gc d3 c5 a3=>?_
 obtain⟨⟨qv,w,B,g9,b0,a⟩,f⟩:=d3;replace h:=h.ce (iq a3);replace B:=(AO c5).own B;generalize cs.heap.size=f4 at B;replace r:=(iq a3).own r;replace k:=ei k a3;obtain⟨ab,aa,rfl⟩:=bz B;refine aQ c ?_;refine bp c [0] Y ?_;refine m6 c a aR λa=>?_;refine ak c ?_;have ea:∀E∈w,0<=E.col/\E.col<(q.length:Int):=λE d=>(Nm bv t.eJ.1.symm (b0 E d)).1;refine aQ c ?_;refine nE cW a (by simp only[put_defers];exact f) (kp 14 VY) _ (Pu λs d=>by cases d) (dK Y (by simp only[put_defers];exact f) (by kernel_rfl)) (λv e b i l=>by
  have g:=nh i l;have:=(by
   obtain⟨cd,cf,a2⟩:=Ek (g.own B);obtain⟨bd,be,ap,ar,av⟩:=Ej (g.own r);exact Pa v z w ab cd cf aa (b 15 _ Y) (by rw[b 22 _ Y];exact⟨S,bd,be,R,rfl,ap,ar,av⟩) (b 24 _ Y) (b 28 _ Y) (h.ce g) (by omega) (by omega) (by have:=t.table.2.1;rw[UH] at this;exact this) (λp A=>t.len p.1 (U8.2 ⟨p,A,rfl⟩)) az bt ea a2:(kp 14 VY).wp (aB T5) _ (nL v) e)
  rw[b 16 _ Y,b 22 _ Y,b 24 _ Y] at this;exact this) λfu bc e5 bb gx hc ge d4 bm W=>?_
 obtain⟨⟨hp,cn,br,an,a⟩,f⟩:=d4;replace h:=h.ce (iq W);have a8:=(AO bm).own br.rows;have a7:∀p∈cn,bb.ownsRow bc.heap.size 59 3 p.2 p.1.length (aH p.1):=λp A=>(AO bm).own (br.each p A);generalize bc.heap.size=f5 at a8 a7;replace B:=(iq W).own B;replace r:=(iq W).own r;replace k:=ei k W;have dO:(((o.map Uy).filter (fH w)).map (eU z)).length<=Ur:=by rw[<-an,UH];exact nA a8
 have dT:∀E∈((o.map Uy).filter (fH w)).map (eU z),E.length<=Ur:=λE b2=>by
  rw[<-an] at b2;obtain⟨p,A,rfl⟩:=U8.1 b2;exact nA (a7 p A)
 obtain⟨cd,cf,a2⟩:=Ek B;obtain⟨bd,be,ap,ar,av⟩:=Ej r;have ci:∀(sk:Bool) (ad:F),RelB (gp bb) bb ad->mj (aB T5) T5 Post 13 #[.string (Pk.strOf (eD q (o.map Uy) O bo N)),.slice S z.length R,.slice ab w.length aa,.bool sk] ad (Dh (((o.map Uy).filter (fH w)).map (eU z),0) ad):=λsk ad a6=>JI t bx bt b0 (by omega) (by omega) sk ap (λd=>Ue (ar d) a6.size) (λj n=>(iq a6).cell (av j n)) ((iq a6).Sw a2);refine aQ c ?_;refine bp c [0,1,2,3,4,5,6,7,8] Y ?_;refine cI c a λa=>?_;refine cI c a λa=>?_;refine cI c a λa=>?_;refine sE (vs:= #[.string (Pk.strOf (eD q (o.map Uy) O bo N)),.slice S z.length R,.slice ab w.length aa,.bool T8]) (R:=λH m G=>Dh (((o.map Uy).filter (fH w)).map (eU z),0) H m G) Y Y Y Y (xL (a.of Y) (a.of Y) (a.of Y) Y) Tryz.func13 Oj Y (dK Y (by simp only[put_defers];exact f) (by kernel_rfl)) (λL u=>ci T8 L u) (λL v ck u ao a5 d0=>?_) (λal c0 G ⟨_,m,_⟩=>by cases m) (λal G ⟨_,m,_⟩=>by cases m);obtain⟨e1,m,ba,-,du,el⟩:=ao;have am:=YB m;subst am;have D:=Eu u du el a5;refine Xe.go (own:=gp ck) ?_ (λbi d=>d) d0;replace a:=a.put (d:=199) (by decide) (.tuple #[e1,.int .i64 0]);refine cI c a λa=>?_;refine rj c a λa=>?_;refine rj c a λa=>?_;refine gY c a λa=>?_;refine gY c a λa=>?_;refine ak c ?_;refine aQ c ?_;refine bp c [0,1,2,3,4,5,6,7,8] Y ?_;refine cI c a λa=>?_;refine cI c a λa=>?_;refine cI c a λa=>?_;refine sE (vs:= #[.string (Pk.strOf (eD q (o.map Uy) O bo N)),.slice S z.length R,.slice ab w.length aa,.bool Z]) (R:=λH m G=>Dh (((o.map Uy).filter (fH w)).map (eU z),0) H m G) Y Y Y Y (xL (a.of Y) (a.of Y) (a.of Y) Y) Tryz.func13 Oj Y (dK Y (by simp only[put_defers];exact f) (by kernel_rfl)) (λL u=>ci Z L (ei D u)) (λL v cl u ao a5 d1=>?_) (λal c0 G ⟨_,m,_⟩=>by cases m) (λal G ⟨_,m,_⟩=>by cases m);obtain⟨e2,m,es,-,dv,ca⟩:=ao;have am:=YB m;subst am;have X:=Eu u dv ca a5;replace ba:=sJ.like ba (Nj X);replace D:=ei D X;refine Xe.go (own:=gp cl) ?_ (λbi d=>d) d1;replace a:=a.put (d:=206) (by decide) (.tuple #[e2,.int .i64 0]);refine cI c a λa=>?_;refine rj c a λa=>?_;refine rj c a λa=>?_;refine gY c a λa=>?_;refine gY c a λa=>?_;refine ak c ?_;refine IS cW a (by simp only[put_defers];exact f) (kd 17 VY) (λe M y=>Knows M 227 [(14,.bool Z)]/\M.defers=[]) (λs d=>by simp at d) (dK Y (by simp only[put_defers];exact f) (by kernel_rfl)) (λv e b i l=>?_) λcx cu cv e0 eQ c8 em c3 a1 c7 a4=>?_
 ·have g:=(iq D).trans (nh i l);have cc:=vU (g.own a8) (λp A=>g.own (a7 p A));rw[an] at cc;exact O8 e v _ (b 17 _ Y) (b 20 _ Y) (by rw[b 33 _ Y];exact(sJ.like ba i).TP.1) (by rw[b 34 _ Y];exact(sJ.like es i).TP.1) (by rw[b 28 _ Y];exact cc) dO dT
 ·obtain⟨a,f⟩:=a1;exact QJ (by kernel_rfl) Y f Tryz.func4 (j7 Tryz.results4 (a.slot 14 _ Y)) λae J=>bB ae (ei (ei (ei k D) a4) J)
end
end Cc
end Go.Proofs.YtjidbonhhpkljaaGreat
