/- What the proof stands on, in short names. -/
import Derived.Test.YtjidbonhhpkljaaGreatMd

set_option linter.all false
open Array renaming getD_eq_getD_getElem?->UD,getElem?_eq_none->Vl,getElem?_eq_some_iff->Ua,getElem?_push->VB,getElem?_setIfInBounds->UP,range->Yp,replicate->U3
open Bool renaming and_eq_true->Uv,eq_iff_iff->XF,false->T5,false_eq_true->UA,not_eq_true'->WO,true->Z
open Classical renaming byContradiction->VZ,choose->Vq,choose_spec->Uu
open False renaming elim->Yq
open Go renaming Act->V5,Addr->UJ,Calls->UB,Code->WU,Ending->Xa,Frame->Us,Func->WC,Item->WM,Oper->Vu,Operand->U6,Program->Ue,TypeId->Ug,Value->U,World->F,bodyPost->VR,execOp->UH,heap_setCell_other->Ut,heap_setCell_same->Uq,info_parts->Ve,lt_of_block->Ud,maxLen->Up,results->UX,step_append_lies->WK,undef->Vk,wpList_append_fits->VH,yielded->Vj
open Go.Act renaming put->UW
open Go.Addr renaming add->Yr,add_mid->Xc
open Go.Addr.mk renaming injEq->Wh
open Go.ByteArray renaming toList_eq->XJ
open Go.Code renaming wp_mono->Yf
open Go.Conc renaming G->Uf
open Go.Ending.returned renaming inj->YA
open Go.Frame renaming finish->VW,round->WW
open Go.Instr renaming fill->X7
open Go.Lib renaming compareBytes->Vd
open Go.Proofs.Tryz renaming f13->VT,f19->Wc,f4->VX,f53->Wm,f54->Xf,f78->U2,f79->Wy,isAgg3->Yv,prog->T9,sizeOf3->X5,underlying115->WE,underlying139->V7,underlying160->WG
open Go.Region renaming binds->Vn,wanted->UF
open Go.Region.linearise renaming go->U9
open Go.RowKit renaming intOf->US
open Go.RowKit.Below renaming heap_alloc->UN,refl->Uo
open Go.Value renaming cells->WH,int->VY,ownBlock->Vz
open Go.Value.slice renaming inj->X3,injEq->VA
open Go.World renaming cell?->Ur,drewN_drewN->Xh,frozen?->UQ,news_of_block->VJ,ownsRow_nil->Vp
open Int renaming eq_ofNat_of_zero_le->WB
open List renaming all_eq_true->Uy,append_assoc->UC,append_nil->Wr,eq_nil_of_length_eq_zero->Vh,getD_eq_getElem?_getD->Uh,getElem?_append_left->Vw,getElem?_append_right->Vo,getElem?_eq_getElem->Ul,getElem?_eq_some_iff->Uz,getElem?_take->V8,getElem_map->Xr,getElem_mem->Ui,getElem_of_mem->Vv,getElem_take->VF,length_append->T8,length_cons->VI,length_map->UG,length_nil->XH,length_take->Vs,map_append->U0,map_cons->Xw,mem_append->U1,mem_cons->VM,mem_map->U7,mem_of_getElem?->VD,mem_range->Vt,mem_singleton->WI,not_mem_nil->XQ,range->UK,range_succ->XI,setIfInBounds_toArray->Ub,set_cons_succ->Uj,set_cons_zero->Uk,take_append_drop->Ww,take_length->Vf,take_of_length_le->UO,take_succ_eq_append_getElem->Um
open Nat renaming le_refl->T6,le_trans->Ux,lt_of_lt_of_le->Uc,lt_or_ge->Vy,mul_add->Ye,mul_comm->Xx,mul_le_mul->Ws,zero_add->UT,zero_le->UE
open Option renaming getD_some->V1,map_some->V2,none->K,some->I
open Option.some renaming inj->Yk,injEq->U8
open Prod renaming fst->Uw,snd->VU
set_option maxRecDepth 100000
set_option maxHeartbeats 8000000
namespace Go.Proofs.YtjidbonhhpkljaaGreat
namespace Cc
open Go Go.Conc
open Ec (aD aG)
open Go.RowKit (Below)
structure zR(S O:Nat->Prop)(w0 w:F)(N cb n cap kb nk ck eb ne ce:Nat)(x:U)(wb gT:Nat)(ws:List Bool)(V:Nat->List aD)(ch g:Nat->Nat)(bb fb cQ lb i:Nat)(lz:Bool)(μ:Nat->Option (List U))(a:V5):Prop where
 kn:Knows a 73 [(42,.int .i64 (i:Int)),(41,.int .i64 (ws.length:Int)),(8,.slice (I ⟨cQ,0,K⟩) ws.length ws.length),(7,.bool lz),(6,.slice (I ⟨lb,0,K⟩) ws.length ws.length),(3,.pointer (I ⟨bb,0,K⟩)),(2,.slice (I ⟨wb,0,K⟩) ws.length gT)]
 df:a.defers=[]
 own:q8 S O w0 w N cb n cap kb nk ck eb ne ce x bb fb
 oc:O cQ
 hc:w.heap[cQ]? =I (.cells (eD ws ch ws.length).toArray 193 (0,0))
 ol:O lb
 ll:w0.heap.size<=lb
 nb:lb≠bb
 nf:lb≠fb
 nc:lb≠cQ
 hl:w.heap[lb]? =I (.cells (fp ws g V N i).toArray 43 (0,0))
 rows:∀j,j<i->ws[j]? =I Z->Row w (g j) N (V j)/\O (g j)/\g j≠lb/\w0.heap.size<=g j
 TJ:R8 O w ws V ch i ws.length μ
 ok:lz=Z↔∀j,j<i->ws[j]? =I Z->(V j).length=N
section
variable {S O:Nat->Prop}{w0 w w':F}{s:Nat->ByteArray}{k e:Nat->Int}{N cb n cap kb nk ck eb ne ce wb gT:Nat}{x:U}{ws:List Bool}{V:Nat->List aD}{ch g:Nat->Nat}{bb fb cQ lb i:Nat}{μ:Nat->Option (List U)}{a:V5}{Post:U->F->Prop}{cs:List Us}{lz:Bool}
def KO(l:Fi S w0 s k e N cb n kb nk eb ne wb ws V)(h:zR S O w0 w N cb n cap kb nk ck eb ne ce x wb gT ws V ch g bb fb cQ lb i lz μ a)(p:ws[i]? =I T5)
 (E:∀a',zR S O w0 w N cb n cap kb nk ck eb ne ce x wb gT ws V ch g bb fb cQ lb (i+1) lz μ a'->kr aI T9 Post S O μ (Uf ((base 78).at a' [.code (nj U2),.inLoop (nj U2),.inBlock 2,.code (FW U2)]) cs) w):
 kr aI T9 Post S O μ (Uf ((base 78).at a [.code (nj U2),.inLoop (nj U2),.inBlock 2,.code (FW U2)]) cs) w:=by
 obtain⟨b,B,r,L,C,P,F,G,J,H,D,Q,m,M⟩:=h;have c:=dR aI T9 Post S μ;have o:i<ws.length:=(Uz.1 p).1;have T:=l.mm;refine aS c ?_;refine bq c [0] Y ?_;refine dB c b Y (.bool Z) (jw Y (b.of Y) (b.of Y) (by simp;omega)) λb=>?_;refine ak c ?_;refine aS c ?_;refine dm c Z (b.of Y) ?_;refine ig c ?_;refine aS c ?_;refine gA c ?_;refine aS c ?_;refine bq c [0,1] Y ?_;refine cG c b λb=>?_;refine gW c b λb=>?_;refine ak c ?_;refine aS c ?_;refine bq c [0,1,2,3] Y ?_;refine cG c b λb=>?_;refine cG c b λb=>?_;refine dB c b Y (.pointer (I ⟨wb,0+i*1,K⟩)) (fG Y (b.of Y) (b.of Y) WG Tryz.sizeOf4 o) λb=>?_;refine q9 c b Y (.bool T5) (bY Y (b.of Y) Tryz.isAgg4 (r.low wb l.wl) ((r.Hy.cell (p:=⟨wb,0+i*1,K⟩) l.wl).trans (l.wc i _ p))) λb=>?_;refine ak c ?_;refine dm c T5 (b.of Y) ?_;refine ig c ?_;refine iI c ?_;refine bq c [0,1] Y ?_;refine dB c b Y (.int .i64 ((i+1:Nat):Int)) (nN (j:=1) Y (b.of Y) Y (by omega)) λb=>?_;refine cG c b λb=>?_;refine ak c ?_;refine kU c ?_;have v:ws[i]? ≠I Z:=by rw[p];simp
 have q:∀d,ws[d]? =I Z->d≠i:=λd j e=>v (e▸j);refine E _ ⟨((((((b.nil.cons (b.slot 2 _ Y)).cons (b.slot 3 _ Y)).cons (b.slot 6 _ Y)).cons (b.slot 7 _ Y)).cons (b.slot 8 _ Y)).cons (b.slot 41 _ Y)).cons (b.slot 42 _ Y),by simp only[put_defers];exact B,r,L,C,P,F,G,J,H,by rw[B7 v];exact D,λd o j=>Q d (by have:=q d j;omega) j,⟨λd R o j=>m.mu d (by omega) o j,λy A=>?_,m.inj,m.lt⟩,?_⟩
 ·obtain⟨d,t,f,u,z⟩:=m.no y A;exact⟨d,by have:=q d u;omega,f,u,z⟩
 ·rw[M];constructor
  ·intro h d t f;exact h d (by have:=q d f;omega) f
  ·intro h d t f;exact h d (by omega) f
def G5(B:Fi S w0 s k e N cb n kb nk eb ne wb ws V)(h:zR S O w0 w N cb n cap kb nk ck eb ne ce x wb gT ws V ch g bb fb cQ lb i lz μ a)(o:ws[i]? =I Z)
 (a5:∀D w' a' g' bi ar,zR S D w0 w' N cb n cap kb nk ck eb ne ce x wb gT ws V ch g' bb fb cQ lb (i+1) bi ar a'->kr aI T9 Post S D ar (Uf ((base 78).at a' [.code (nj U2),.inLoop (nj U2),.inBlock 2,.code (FW U2)]) cs) w'):
 kr aI T9 Post S O μ (Uf ((base 78).at a [.code (nj U2),.inLoop (nj U2),.inBlock 2,.code (FW U2)]) cs) w:=by
 obtain⟨b,a1,z,F,W,G,aa,ab,ae,ad,a4,ba,v,a7⟩:=h;have c:=dR aI T9 Post S μ;have t:i<ws.length:=(Uz.1 o).1;have bs:=B.mm;refine aS c ?_;refine bq c [0] Y ?_;refine dB c b Y (.bool Z) (jw Y (b.of Y) (b.of Y) (by simp;omega)) λb=>?_;refine ak c ?_;refine aS c ?_;refine dm c Z (b.of Y) ?_;refine ig c ?_;refine aS c ?_;refine gA c ?_;refine aS c ?_;refine bq c [0,1] Y ?_;refine cG c b λb=>?_;refine gW c b λb=>?_;refine ak c ?_;refine aS c ?_;refine bq c [0,1,2,3] Y ?_;refine cG c b λb=>?_;refine cG c b λb=>?_;refine dB c b Y (.pointer (I ⟨wb,0+i*1,K⟩)) (fG Y (b.of Y) (b.of Y) WG Tryz.sizeOf4 t) λb=>?_;refine q9 c b Y (.bool Z) (bY Y (b.of Y) Tryz.isAgg4 (z.low wb B.wl) ((z.Hy.cell (p:=⟨wb,0+i*1,K⟩) B.wl).trans (B.wc i _ o))) λb=>?_;refine ak c ?_;refine dm c Z (b.of Y) ?_;refine aS c ?_;have be:=v.mu i (T6 _) t o;have a0:aM w cQ (0+i*1) (.chan (I (ch i))):=by
  unfold Ur;simp only[W,UT,Nat.mul_one];have:=mD (ws:=ws) (ch:=ch) (i:=ws.length) t;rw[if_pos ⟨t,o⟩] at this;simpa using this
 refine Dr (c:=ch i) (l0:=[(42,.int .i64 (i:Int)),(41,.int .i64 (ws.length:Int)),(7,.bool lz),(2,.slice (I ⟨wb,0,K⟩) ws.length gT)]) B o ((((((((b.nil.cons (b.slot 2 _ Y)).cons (b.slot 7 _ Y)).cons (b.slot 41 _ Y)).cons (b.slot 42 _ Y)).cons (b.slot 3 _ Y)).cons (b.slot 6 _ Y)).cons (b.slot 8 _ Y)).cons (b.slot 10 _ Y)) z F a0 be G a4 (by simp[dV]) λD bt ap q a' bo a9 T j u m a2=>?_;have c:=dR aI T9 Post S (gb μ (ch i) K);have a8:=z.Sn j;have H:=a8.set u ab ae aa;have br:=z.inr lb (.inr G);have av:(fp ws g V N i).toArray.toList.take i++[Value.slice (I ⟨q,0,K⟩) (V i).length N]++(fp ws g V N i).toArray.toList.drop (i+1)=fp ws (λd=>if d=i then q else g d) V N (i+1):=by
  rw[<-D3 o q]
 rw[av] at u;have X:=u.set;have az:aM ap lb (0+i*1) (.slice (I ⟨q,0,K⟩) (V i).length N):=by
  unfold Ur;simp only[X,UT,Nat.mul_one];have:=mJ (ws:=ws) (g:=λd=>if d=i then q else g d) (V:=V) (N:=N) (i:=i+1) t;simp[o] at this;simpa using this
 have bd:=u.size;have bc:=j.rel.size;refine Ee (l0:=[(42,.int .i64 (i:Int)),(41,.int .i64 (ws.length:Int)),(8,.slice (I ⟨cQ,0,K⟩) ws.length ws.length),(2,.slice (I ⟨wb,0,K⟩) ws.length gT)]) t ((((((((m.nil.cons (m.slot 2 _ Y)).cons (m.slot 8 _ Y)).cons (m.slot 41 _ Y)).cons (m.slot 42 _ Y)).cons (m.slot 3 _ Y)).cons (m.slot 6 _ Y)).cons (m.slot 10 _ Y)).cons (m.slot 7 _ Y)) H.inr (j.sub lb G) H.ob az (by unfold Ur;simp only[H.hb];rfl) λau am p a6 a3=>?_;have y:∀C,Rj.contains C=T5->∀L,(am++L).lookup C=L.lookup C:=λC al L=>by
  rw[List.lookup_append];cases e:am.lookup C with
  |none=>rfl
  |some bu=>
   have:=gP e;rw[a6] at this;have:=List.contains_iff_mem.2 this;rw[this] at al;cases al
 have f:Knows au 73 [(42,.int .i64 (i:Int)),(41,.int .i64 (ws.length:Int)),(8,.slice (I ⟨cQ,0,K⟩) ws.length ws.length),(7,.bool (lz&&(((V i).length:Int)==(N:Int)))),(6,.slice (I ⟨lb,0,K⟩) ws.length ws.length),(3,.pointer (I ⟨bb,0,K⟩)),(2,.slice (I ⟨wb,0,K⟩) ws.length gT)]:=
  ((((((p.nil.cons (p.slot 2 _ (y 2 Y _))).cons (p.slot 3 _ (y 3 Y _))).cons (p.slot 6 _ (y 6 Y _))).cons (p.slot 7 _ Y)).cons (p.slot 8 _ (y 8 Y _))).cons (p.slot 41 _ (y 41 Y _))).cons (p.slot 42 _ (y 42 Y _))
 refine iI c ?_;refine bq c [0,1] Y ?_;refine dB c f Y (.int .i64 ((i+1:Nat):Int)) (nN (j:=1) Y (f.of Y) Y (by omega)) λf=>?_;refine cG c f λf=>?_;refine ak c ?_;refine kU c ?_;have U:q≠lb:=by omega
 refine a5 D ap _ (λd=>if d=i then q else g d) _ _ ⟨((((((f.nil.cons (f.slot 2 _ Y)).cons (f.slot 3 _ Y)).cons (f.slot 6 _ Y)).cons (f.slot 7 _ Y)).cons (f.slot 8 _ Y)).cons (f.slot 41 _ Y)).cons (f.slot 42 _ Y),by simp only[put_defers];rw[a3,a2];simp only[put_defers];exact a1,H,j.sub cQ F,?_,j.sub lb G,aa,ab,ae,ad,X,λd r l=>?_,⟨λd bm r l=>?_,λP J=>?_,v.inj,λd r l=>?_⟩,?_⟩
 ·rw[u.at_ cQ (.inr (j.sub cQ F)) (λe=>ad e.symm),j.rel.at_ cQ (.inr F)];exact W
 ·by_cases e:d=i
  ·subst e;simp only[if_true];have:=z.Hy.size;exact⟨a9.same (u.at_ q (.inr T) U),T,U,by omega⟩
  ·obtain⟨bj,M,ao,bl⟩:=ba d (by omega) l;simp only[if_neg e];exact⟨(bj.same (j.rel.at_ _ (.inr M))).same (u.at_ _ (.inr (j.sub _ M)) ao),j.sub _ M,ao,bl⟩
 ·have E:ch d≠ch i:=λe=>by have:=v.inj d i r t l o e;omega
  simp only[gb,E,if_false];exact v.mu d (by omega) r l
 ·have E:P≠ch i:=λe=>J (by simp[gb,e]);simp only[gb,E,if_false] at J;obtain⟨d,A,Q,aw,R⟩:=v.no P J;exact⟨d,by rcases Vy i d with h|h;exact h;have:d=i:=(by omega);subst this;exact absurd R.symm E,Q,aw,R⟩
 ·exact Uc (v.lt d r l) (Ux bc bd)
 ·rw[Uv,a7,beq_iff_eq];constructor
  ·rintro⟨A,Q⟩ d r l;by_cases e:d=i
   ·subst e;omega
   ·exact A d (by omega) l
  ·intro A;exact⟨λd r l=>A d (by omega) l,by have:=A i (by omega) o;omega⟩
end
def BN(ws:List Bool)(ch:Nat->Nat):(eD ws ch 0).toArray=madeCells #[.chan K] (ws.length*1):=by
 apply Array.toList_inj.1;rw[toList_madeCells_one,Nat.mul_one];refine List.ext_getElem (by simp[dQ]) λf b d=>?_;simp[eD]
def B8(ws:List Bool)(g:Nat->Nat)(V:Nat->List aD)(N:Nat):(fp ws g V N 0).toArray=madeCells #[aO] (ws.length*1):=by
 apply Array.toList_inj.1;rw[toList_madeCells_one,Nat.mul_one];refine List.ext_getElem (by simp[dV]) λf b d=>?_;simp[fp]
def n7{P0:Ue}{c:Us}(h:eM P0 c [])(v:U):eM P0 (c.finish v) []:=⟨(fA h.top v).1,λf b=>by simp at b,(fA h.top v).2.trans h.bot⟩
def jd{P0 P:Ue}{S:Nat->Prop}{m:Bool}{d:(Nat->Prop)->Us->List Us->F->Prop}{own:Nat->Prop}{cs:List Us}{w:F}{b:Us}{a:V5}(f:nP P0 P S m d){fn:WC}{todo:List WM}{c:Us}{v:U}(p:b.kind= .normal)(h:a.defers=[])(l:P.funcs[b.fn]? =I fn)(q:∀w,(UX fn a.tmps).run P w= .ok v w)(j:∀w,(UX fn a.tmps).events P w #[]=#[])
 (o:d own (c.finish v) cs w):d own {b.at a todo with mode:=.returning} (c::cs) w:=kT f (λw=>stepG_leave p h l (q w) (j w)) o
def TT(v0 v1 v2:U)(m:Nat)(j:3<=m):Knows ⟨#[v0,v1,v2]++U3 (m-3) Vk,[]⟩ m [(0,v0),(1,v1),(2,v2)]:=by
 have b:∀d v,(#[v0,v1,v2]:Array U)[d]? =I v->aW ⟨#[v0,v1,v2]++U3 (m-3) Vk,[]⟩ d=v:=λd v f=>by
  unfold aW;rw[UD,Array.getElem?_append_left (Ua.1 f).1,f];rfl
 refine Knows.cons (Knows.cons (Knows.cons (l:=[]) ⟨?_,λs v h=>by simp at h⟩ (b 2 v2 Y)) (b 1 v1 Y)) (b 0 v0 Y);simp;omega
def RR:∃i,T9.info? 193=I i/\i.zero=I (.chan K)/\i.size=1/\i.bytes=8:=⟨Tryz.t193,by kernel_rfl,rfl,rfl,rfl⟩
def Oi:∃i,T9.info? 43=I i/\i.zero=I aO/\i.size=1/\i.bytes=24:=⟨Tryz.t43,by kernel_rfl,rfl,rfl,rfl⟩
section
variable {S O:Nat->Prop}{w0 w w':F}{s:Nat->ByteArray}{k e:Nat->Int}{N cb n cap kb nk ck eb ne ce wb gT:Nat}{x:U}{ws:List Bool}{V:Nat->List aD}{ch g:Nat->Nat}{bb fb cQ lb i:Nat}{μ:Nat->Option (List U)}{a:V5}{Post:U->F->Prop}{cs:List Us}{lz:Bool}{c:Us}
def NU(h:zR S O w0 w N cb n cap kb nk ck eb ne ce x wb gT ws V ch g bb fb cQ lb ws.length lz μ a)
 (j:kr aI T9 Post S O μ (Uf (c.finish (.tuple #[.slice (I ⟨lb,0,K⟩) ws.length ws.length,.bool lz])) cs) w):
 kr aI T9 Post S O μ (Uf ((base 78).at a [.code (nj U2),.inLoop (nj U2),.inBlock 2,.code (FW U2)]) (c::cs)) w:=by
 have d:=h.kn;have b:=dR aI T9 Post S μ;refine aS b ?_;refine bq b [0] Y ?_;refine dB b d Y (.bool T5) (jw Y (d.of Y) (d.of Y) (by simp)) λd=>?_;refine ak b ?_;refine aS b ?_;refine dm b T5 (d.of Y) ?_;refine uc b (k':=[.code (FW U2)]) Y ?_;refine aS b ?_;refine bq b [0,1,2,3] Y ?_;refine cG b d λd=>?_;refine cG b d λd=>?_;refine gW b d λd=>?_;refine gW b d λd=>?_;refine ak b ?_;refine pK b ?_;have f:=gH (P:=T9) Tryz.results78 (d.slot 6 _ Y) (d.slot 7 _ Y);exact jd b Y (by simp only[put_defers];exact h.df) Tryz.func78 f.1 f.2 j
def KN(j:Fi S w0 s k e N cb n kb nk eb ne wb ws V)(t:∀O w a g lz μ,zR S O w0 w N cb n cap kb nk ck eb ne ce x wb gT ws V ch g bb fb cQ lb ws.length lz μ a->kr aI T9 Post S O μ (Uf (c.finish (.tuple #[.slice (I ⟨lb,0,K⟩) ws.length ws.length,.bool lz])) cs) w):
 ∀(d i:Nat),i+d=ws.length->∀O w a g lz μ,zR S O w0 w N cb n cap kb nk ck eb ne ce x wb gT ws V ch g bb fb cQ lb i lz μ a->
 kr aI T9 Post S O μ (Uf ((base 78).at a [.code (nj U2),.inLoop (nj U2),.inBlock 2,.code (FW U2)]) (c::cs)) w:=by
 intro d
 induction d with
 |zero=>
  intro i r O w a g lz μ b;have:i=ws.length:=by omega
  subst this;exact NU b (t O w a g lz μ b)
 |succ d o=>
  intro i r O w a g lz μ b;have u:i<ws.length:=by omega
  have m:ws[i]? =I ws[i]:=Ul u;cases l:ws[i] with
  |true=>exact G5 j b (by rw[m,l]) λp w' f q v y h=>o (i+1) (by omega) p w' f q v y h
  |false=>exact KO j b (by rw[m,l]) λf h=>o (i+1) (by omega) O w f g lz μ h
def Q9(q:Fi S w0 s k e N cb n kb nk eb ne wb ws V)(h:IU S O w0 w N cb n cap kb nk ck eb ne ce x wb gT ws V ch bb fb cQ ws.length μ a)
 (A:∀lb O w a g lz μ,zR S O w0 w N cb n cap kb nk ck eb ne ce x wb gT ws V ch g bb fb cQ lb ws.length lz μ a->kr aI T9 Post S O μ (Uf (c.finish (.tuple #[.slice (I ⟨lb,0,K⟩) ws.length ws.length,.bool lz])) cs) w):
 kr aI T9 Post S O μ (Uf ((base 78).at a [.code (dn U2),.inLoop (dn U2),.inBlock 0,.code (gU U2)]) (c::cs)) w:=by
 obtain⟨b,v,f,o,P,L,M,y,m⟩:=h;have d:=dR aI T9 Post S μ;obtain⟨G,z,F,D,u⟩:=Oi;have Q:=q.mm;refine aS d ?_;refine bq d [0] Y ?_;refine dB d b Y (.bool T5) (jw Y (b.of Y) (b.of Y) (by simp)) λb=>?_;refine ak d ?_;refine aS d ?_;refine dm d T5 (b.of Y) ?_;refine uc d (k':=[.code (gU U2)]) Y ?_;refine aS d ?_;refine bq d [0,1,2,3] Y ?_;refine cG d b λb=>?_;refine dB d b Y (.int .i64 (ws.length:Int)) (sj Y (b.of Y) WG) λb=>?_;refine mA d f.inr (by decide) Y Y (.cells (madeCells (J).cells (ws.length*G.size)) 43) trivial (λn=>.slice (I ⟨n,0,K⟩) ws.length ws.length) (Ca Y (b.of Y) (b.of Y) Tryz.underlying26 z F (T6 _) (by rw[u];omega) (by omega)) λlb H B E hrel t=>?_;replace b:=b.put (d:=39) (by decide) (.slice (I ⟨lb,0,K⟩) ws.length ws.length);refine gW d b λb=>?_;refine ak d ?_;refine aS d ?_;refine bq d [0] Y ?_;refine mZ d b (.bool Z) λb=>?_;refine ak d ?_;refine aS d ?_;refine aS d ?_;refine bq d [0,1,2] Y ?_;refine cG d b λb=>?_;refine dB d b Y (.int .i64 (ws.length:Int)) (sj Y (b.of Y) WG) λb=>?_;refine dB d b Y (.int .i64 ((0:Nat):Int)) (cg Y Y) λb=>?_;refine ak d ?_;refine gA d ?_;refine ud d ?_;have C:=f.new B E hrel;have R:=f.inr bb (.inr f.ob);have T:=f.inr fb (.inr f.of);have U:=f.inr cQ (.inr o);have W:=f.Hy.size;refine KN (lb:=lb) (ch:=ch) q (λO w a g lz μ h=>A lb O w a g lz μ h) ws.length 0 (by omega) _ H _ (λ_=>0) Z μ ⟨((((((b.nil.cons (b.slot 2 _ Y)).cons (b.slot 3 _ Y)).cons (b.slot 6 _ Y)).cons (b.slot 7 _ Y)).cons (b.slot 8 _ Y)).cons (b.slot 41 _ Y)).cons (b.slot 42 _ Y),by simp only[put_defers];exact v,C,.inl o,(hrel.at_ cQ (.inr o)).trans y,.inr Y,by omega,by omega,by omega,by omega,?_,λl j=>absurd j (by omega),⟨λl r j p=>m.mu l r j p,m.no,m.inj,λl j p=>Uc (m.lt l j p) hrel.size⟩,⟨λ_ l j=>absurd j (by omega),λ_=>rfl⟩⟩;rw[B8,<-D];exact t
def go_loop(j:Fi S w0 s k e N cb n kb nk eb ne wb ws V)(t:∀ch lb O w a g lz μ,zR S O w0 w N cb n cap kb nk ck eb ne ce x wb gT ws V ch g bb fb cQ lb ws.length lz μ a->kr aI T9 Post S O μ (Uf (c.finish (.tuple #[.slice (I ⟨lb,0,K⟩) ws.length ws.length,.bool lz])) cs) w):
 ∀(d i:Nat),i+d=ws.length->∀O w a ch μ,IU S O w0 w N cb n cap kb nk ck eb ne ce x wb gT ws V ch bb fb cQ i μ a->
 kr aI T9 Post S O μ (Uf ((base 78).at a [.code (dn U2),.inLoop (dn U2),.inBlock 0,.code (gU U2)]) (c::cs)) w:=by
 intro d
 induction d with
 |zero=>
  intro i r O w a ch μ b;have:i=ws.length:=by omega
  subst this;exact Q9 j b (λlb O w a g lz μ b=>t ch lb O w a g lz μ b)
 |succ d o=>
  intro i r O w a ch μ b;have u:i<ws.length:=by omega
  have m:ws[i]? =I ws[i]:=Ul u;cases l:ws[i] with
  |true=>exact go_round j b (by rw[m,l]) λp w' f q v h=>o (i+1) (by omega) p w' f q v h
  |false=>exact go_skip j b (by rw[m,l]) λf h=>o (i+1) (by omega) O w f ch μ h
def Lv(p:Fi S w0 s k e N cb n kb nk eb ne wb ws V)
 (M:∀bb fb cQ ch lb O w a g lz μ,zR S O w0 w N cb n cap kb nk ck eb ne ce x wb gT ws V ch g bb fb cQ lb ws.length lz μ a->kr aI T9 Post S O μ (Uf (c.finish (.tuple #[.slice (I ⟨lb,0,K⟩) ws.length ws.length,.bool lz])) cs) w):
 kr aI T9 Post S (λb=>b<w0.heap.size/\¬S b) (λ_=>K) (Uf (Frame.enter T9 78 #[oZ (N:Int) cb n cap,o5 kb nk ck eb ne ce x,.slice (I ⟨wb,0,K⟩) ws.length gT] .normal) (c::cs)) w0:=by
 have f:=dR aI T9 Post S (λ_=>K);obtain⟨W,L,U,P,G⟩:=RR;have Z:=p.mm;rw[enter_at _ Tryz.func78 Y];have d:=TT (oZ (N:Int) cb n cap) (o5 kb nk ck eb ne ce x) (.slice (I ⟨wb,0,K⟩) ws.length gT) 73 (by decide);have v:tP S (λb=>b<w0.heap.size/\¬S b) w0:=λb j=>j.elim (p.sz b) (λh=>h.1);refine aS f ?_;refine bq f [0,1,2,3] Y ?_;refine mA f v (by decide) Y Y (.cells #[.int .i64 (N:Int),.slice (I ⟨cb,0,K⟩) n cap] 139) trivial (λn=>.pointer (I ⟨n,0,K⟩)) (uD (v:=oZ (N:Int) cb n cap) Y (d.of Y)) λbb aa u Q r B=>?_;replace d:=d.put (d:=3) (by decide) (.pointer (I ⟨bb,0,K⟩));have y:=v.new u Q;refine mA f y (by decide) Y Y (.cells #[.slice (I ⟨kb,0,K⟩) nk ck,.slice (I ⟨eb,0,K⟩) ne ce,x] 105) trivial (λn=>.pointer (I ⟨n,0,K⟩)) (uD (v:=o5 kb nk ck eb ne ce x) Y (d.of Y)) λfb ab E R o C=>?_;replace d:=d.put (d:=4) (by decide) (.pointer (I ⟨fb,0,K⟩));have z:=y.new E R;refine mZ f d aO λd=>?_;refine mZ f d (.bool T5) λd=>?_;refine ak f ?_;refine aS f ?_;refine bq f [0,1,2,3] Y ?_;refine cG f d λd=>?_;refine dB f d Y (.int .i64 (ws.length:Int)) (sj Y (d.of Y) WG) λd=>?_;refine mA f z (by decide) Y Y (.cells (madeCells (Value.chan K).cells (ws.length*W.size)) 193) trivial (λn=>.slice (I ⟨n,0,K⟩) ws.length ws.length) (Ca Y (d.of Y) (d.of Y) Tryz.underlying192 L U (T6 _) (by rw[G];omega) (by omega)) λcQ X F T l D=>?_;replace d:=d.put (d:=13) (by decide) (.slice (I ⟨cQ,0,K⟩) ws.length ws.length);have J:=z.new F T;refine gW f d λd=>?_;refine ak f ?_;refine aS f ?_;refine aS f ?_;refine bq f [0,1,2] Y ?_;refine cG f d λd=>?_;refine dB f d Y (.int .i64 (ws.length:Int)) (sj Y (d.of Y) WG) λd=>?_;refine dB f d Y (.int .i64 ((0:Nat):Int)) (cg Y Y) λd=>?_;refine ak f ?_;refine gA f ?_;refine ud f ?_;have q:∀b,b<w0.heap.size->S b\/(b<w0.heap.size/\¬S b):=λb j=>by
  rcases Classical.em (S b) with h|h
  ·exact .inl h
  ·exact .inr ⟨j,h⟩
 refine go_loop (bb:=bb) (fb:=fb) (cQ:=cQ) p (λch lb O w a g lz μ h=>M bb fb cQ ch lb O w a g lz μ h) ws.length 0 (by omega) _ X _ (λ_=>0) _ ⟨(((((d.nil.cons (d.slot 2 _ Y)).cons (d.slot 3 _ Y)).cons (d.slot 4 _ Y)).cons (d.slot 8 _ Y)).cons (d.slot 15 _ Y)).cons (d.slot 16 _ Y),by simp only[put_defers],⟨⟨?_,?_,?_,?_,λb j=>?_⟩,λb j=>?_,J,λb j t=>?_,.inl (.inl (.inr Y)),.inl (.inr Y),u,by omega,?_,?_⟩,.inr Y,by omega,by omega,by omega,?_,⟨λA _ m=>absurd m (by omega),λc H=>absurd Y H,λA _ m=>absurd m (by omega),λA m=>absurd m (by omega)⟩⟩
 ·rw[l.os,o.os,r.os]
 ·rw[l.tape,o.tape,r.tape]
 ·rw[l.output,o.output,r.output]
 ·omega
 ·rw[l.at_ b ((q b j).imp (λh=>h) (λh=>.inl (.inl h))),o.at_ b ((q b j).imp (λh=>h) (λh=>.inl h)),r.at_ b (q b j)]
 ·exact(q b j).imp (λh=>h) (λh=>.inl (.inl (.inl h)))
 ·have:=p.sz b j;rcases t with((t|rfl)|rfl)|rfl
  ·exact t.2 j
  ·omega
  ·omega
  ·omega
 ·rw[l.at_ bb (.inr (.inl (.inr Y))),o.at_ bb (.inr (.inr Y))];exact B
 ·rw[l.at_ fb (.inr (.inr Y))];exact C
 ·rw[BN,<-P];exact D
def Qm (w:F)(N:Nat)(ws:List Bool)(V:Nat->List aD)(f:Xa)(w':F):Prop:=
 ∃lb lz g,f= .returned (.tuple #[.slice (I ⟨lb,0,K⟩) ws.length ws.length,.bool lz])/\aP w w'/\w.heap.size<=lb/\w'.heap[lb]? =I (.cells (fp ws g V N ws.length).toArray 43 (0,0))/\(∀b,ws[b]? =I Z->Row w' (g b) N (V b)/\w.heap.size<=g b)/\(lz=Z↔∀b,ws[b]? =I Z->(V b).length=N)
def Fi.at(b:Fi S w s k e N cb n kb nk eb ne wb ws V)(d:Nat):Fi S (w.at d) s k e N cb n kb nk eb ne wb ws V:=
 ⟨b.sz,λh f=>⟨(b.sin h f).1.rel λ_ _=>rfl,(b.sin h f).2⟩,b.wl,λh j f=>b.wc h j f,b.nn,b.mm,b.pos⟩
def Fw(p:Fi S w s k e N cb n kb nk eb ne wb ws V):mh aI T9 Post 78 #[oZ (N:Int) cb n cap,o5 kb nk ck eb ne ce x,.slice (I ⟨wb,0,K⟩) ws.length gT] w (Qm w N ws V):=by
 intro c cs u G F t;refine JU S (λd=>d<w.heap.size/\¬S d) (λd b=>⟨p.sz d b,λh=>h.2 b⟩) (λd b=>b.1) λJ A=>?_;obtain⟨o,rfl⟩:=A;refine Lv (w0:=w.at o) (p.at o) λbb fb cQ ch lb O w' a g lz μ h=>?_;refine MM (λc=>?_) λr f z=>?_
 ·cases y:μ c with
  |none=>rfl
  |some H=>
   obtain⟨l,m,E,_⟩:=h.TJ.no c (by rw[y];simp);omega
 ·have b:=h.own.Hy;have v:∀d,d<w.heap.size->r.heap[d]? =w.heap[d]? :=λd q=>(f.at_ d (h.own.low d q)).trans (b.block d q);refine t (.returned (.tuple #[.slice (I ⟨lb,0,K⟩) ws.length ws.length,.bool lz])) r ⟨lb,lz,g,rfl,⟨f.os.trans b.os,f.tape.trans b.tape,f.output.trans b.output,Ux b.size f.size,v⟩,h.ll,(f.at_ lb (.inr h.ol)).trans h.hl,λl j=>?_,?_⟩ z ⟨f.tape.trans b.tape,f.os.trans b.os,f.output.trans b.output,Ux b.size f.size⟩ (n7 u _)
  ·obtain⟨B,C,_,D⟩:=h.rows l (Uz.1 j).1 j;exact⟨B.same (f.at_ _ (.inr C)),D⟩
  ·rw[h.ok];exact⟨λm l j=>m l (Uz.1 j).1 j,λm l _ j=>m l j⟩
end
end Cc
namespace Cc
open Go Go.Conc
open Go.RowKit (Below)
open Ec (aD aG cE dA sG sb qv)
def ni (rs:List cE)(val:Int->Nat->aD)(p:Nat):Bool:=rs.all λb=>sb (val b.col p) b
def AX{rs:List cE}{val:Int->Nat->aD}{p:Nat}:ni rs val p=Z↔∀i (h:i<rs.length),sb (val rs[i].col p) rs[i]=Z:=by
 unfold ni;rw[Uy];constructor
 ·intro h i b;exact h _ (Ui b)
 ·intro h e d;obtain⟨i,b,rfl⟩:=List.mem_iff_getElem.1 d;exact h i b
def uu(Go:List dx->Bool)(pre:List dx)(x:dx)(b:List dx):feed Go pre (x::b)=if Go (pre++[x]) then feed Go (pre++[x]) b else(pre++[x],T5):=rfl
section
variable {Post:U->F->Prop}{J:List dx->(Nat->Prop)->F->Prop}{Go:List dx->Bool}{w0 w:F}{M0 M own:Nat->Prop}{l first N p qb:Nat}{pre:List dx}{a:V5}{cs:List Us}{ah:List Int}{rs:List cE}{co:Option UJ}{cb bE aJ:Nat}{ro:Option UJ}{rb bh aN lb m mc:Nat}{val:Int->Nat->aD}{a0 b0 c0:U}{sk:Bool}{c:Us}
def Mi(h:Fp J w0 w M0 M own #[a0,b0,c0,.slice co ah.length aJ,.slice ro rs.length aN,.bool sk] (.slice (I ⟨lb,0,K⟩) m mc) l first N N qb pre a)(f:Xe aI T9 Post own (c.finish (.bool Z)) cs w):
 Xe aI T9 Post own ((base 79).at a [.code (ix Wy),.inLoop (ix Wy),.inBlock 0,.code (qE Wy)]) (c::cs) w:=by
 have b:=iq aI T9 Post;have d:=h.kn;refine aS b ?_;refine bq b [0] Y ?_;refine dB b d Y (.bool T5) (jw Y (d.of Y) (d.of Y) (by simp)) λd=>?_;refine ak b ?_;refine aS b ?_;refine dm b T5 (d.of Y) ?_;refine uc b (k':=[.code (qE Wy)]) Y ?_;refine aS b ?_;refine bq b [0] Y ?_;refine mZ b d (.bool Z) λd=>?_;refine ak b ?_;refine pK b ?_;have e:=j5 (P:=T9) Tryz.results79 (d.slot 10 _ Y);exact jd b Y (by simp only[put_defers];exact h.df) Tryz.func79 e.1 e.2 f
def pQ{y:Bool}(b:Knows a 33 [(31,.bool y),(13,.int .i64 (p:Int)),(12,.int .i64 (N:Int)),(5,.pointer (I ⟨qb,0,K⟩)),(4,.func (.yield l) #[] #[]),(2,.int .i64 (first:Int)),(1,.slice (I ⟨lb,0,K⟩) m mc)])(e:a.defers=[])(i:p<N)(h:first+N<=1000000)
 (f:(y=Z->Xe aI T9 Post own (c.finish (.bool T5)) cs w)/\(y=T5->∀a',Knows a' 33 [(13,.int .i64 ((p+1:Nat):Int)),(12,.int .i64 (N:Int)),(5,.pointer (I ⟨qb,0,K⟩)),(4,.func (.yield l) #[] #[]),(2,.int .i64 (first:Int)),(1,.slice (I ⟨lb,0,K⟩) m mc)]->a'.defers=[]->Xe aI T9 Post own ((base 79).at a' [.code (ix Wy),.inLoop (ix Wy),.inBlock 0,.code (qE Wy)]) (c::cs) w)):
 Xe aI T9 Post own ((base 79).at a (mH Wy)) (c::cs) w:=by
 have d:=iq aI T9 Post;cases y with
 |true=>
  refine dm d Z (b.of Y) ?_;refine aS d ?_;refine bq d [0] Y ?_;refine mZ d b (.bool T5) λb=>?_;refine ak d ?_;refine pK d ?_;have g:=j5 (P:=T9) Tryz.results79 (b.slot 10 _ Y);exact jd d Y (by simp only[put_defers];exact e) Tryz.func79 g.1 g.2 (f.1 Y)
 |false=>
  refine dm d T5 (b.of Y) ?_;refine ig d ?_;refine iI d ?_;refine bq d [0,1] Y ?_;refine dB d b Y (.int .i64 ((p+1:Nat):Int)) (nN (j:=1) Y (b.of Y) Y (by omega)) λb=>?_;refine cG d b λb=>?_;refine ak d ?_;refine kU d ?_;exact f.2 Y _ ((((((b.nil.cons (b.slot 1 _ Y)).cons (b.slot 2 _ Y)).cons (b.slot 4 _ Y)).cons (b.slot 5 _ Y)).cons (b.slot 12 _ Y)).cons (b.slot 13 _ Y)) (by simp only[put_defers];exact e)
def Jw(h:Fp J w0 w M0 M own #[a0,b0,c0,.slice co ah.length aJ,.slice ro rs.length aN,.bool sk] (.slice (I ⟨lb,0,K⟩) m mc) l first N p qb pre a)(f:p<N)
 (e:∀a',Knows a' 33 [(11,.int .i64 (p:Int)),(13,.int .i64 (p:Int)),(12,.int .i64 (N:Int)),(5,.pointer (I ⟨qb,0,K⟩)),(4,.func (.yield l) #[] #[]),(2,.int .i64 (first:Int)),(1,.slice (I ⟨lb,0,K⟩) m mc)]->a'.defers=[]->Xe aI T9 Post own ((base 79).at a' (.code (.region 4 (xk Wy) T5)::mH Wy)) cs w):
 Xe aI T9 Post own ((base 79).at a [.code (ix Wy),.inLoop (ix Wy),.inBlock 0,.code (qE Wy)]) cs w:=by
 have d:=iq aI T9 Post;have b:=h.kn;refine aS d ?_;refine bq d [0] Y ?_;refine dB d b Y (.bool Z) (jw Y (b.of Y) (b.of Y) (by simp;omega)) λb=>?_;refine ak d ?_;refine aS d ?_;refine dm d Z (b.of Y) ?_;refine ig d ?_;refine aS d ?_;refine gA d ?_;refine aS d ?_;refine bq d [0,1] Y ?_;refine cG d b λb=>?_;refine gW d b λb=>?_;refine ak d ?_;refine aS d ?_;exact e _ ((((((b.nil.cons (b.slot 1 _ Y)).cons (b.slot 2 _ Y)).cons (b.slot 4 _ Y)).cons (b.slot 5 _ Y)).cons (b.slot 12 _ Y)).cons (b.slot 13 _ Y) |>.cons (b.slot 11 _ Y)) (by simp only[put_defers];exact h.df)
def Jx(C:Cons aI T9 Post l J Go)(hF:∀W,(∀b,b<w0.heap.size->¬M0 b->m6 W w0 b)->w0.heap.size<=W.heap.size->SO W ah rs co cb bE ro rb bh lb m N val)(i:first+N<=1000000)(hc:ah.length<=1000)(O:rs.length<=Up):∀(n p:Nat),p+n=N->∀pre own M w a,pre.length+n<=2000->
 Fp J w0 w M0 M own #[a0,b0,c0,.slice co ah.length aJ,.slice ro rs.length aN,.bool sk] (.slice (I ⟨lb,0,K⟩) m mc) l first N p qb pre a->
 (∀own' g w',J (feed Go pre (eA (ni rs val) (λp=>ah.map λk=>val k p) first p n)).1 g w'->Kept w0 w' M0 g own'->(∀b,own' b->b<w'.heap.size)->Xe aI T9 Post own' (c.finish (.bool (feed Go pre (eA (ni rs val) (λp=>ah.map λk=>val k p) first p n)).2)) cs w')->
 Xe aI T9 Post own ((base 79).at a [.code (ix Wy),.inLoop (ix Wy),.inBlock 0,.code (qE Wy)]) (c::cs) w:=by
 intro n
 induction n with
 |zero=>
  intro p L pre own M w a F d e;have:p=N:=by omega
  subst this;exact Mi d (e own M w d.j d.kept d.bd)
 |succ n z=>
  intro p L pre own M w a F d e;refine Jw d (by omega) λR A D=>?_;refine DT (val:=val) C hF (by omega) (by omega) i hc O A D d.j d.kept d.bd d.oq d.nq d.lq d.hq (λown' w' B G f o q r j v x=>?_) (λown' g w' B Q f o q r j v H x=>?_)
  ·have E:ni rs val p=T5:=by
    cases h:ni rs val p with
    |false=>rfl
    |true=>exact absurd (AX.1 h) G
   have h:eA (ni rs val) (λp=>ah.map λk=>val k p) first p (n+1)=eA (ni rs val) (λp=>ah.map λk=>val k p) first (p+1) n:=by
    simp[eA,E]
   rw[h] at e;refine pQ f o (by omega) i ⟨λd=>(by cases d),λ_ t s u=>?_⟩;exact z (p+1) (by omega) pre own' M w' t (by omega) ⟨s,u,q,r,j,v,d.nq,d.lq,x⟩ e
  ·have P:=AX.2 Q;have h:eA (ni rs val) (λp=>ah.map λk=>val k p) first p (n+1)=(first+p,ah.map λk=>val k p)::eA (ni rs val) (λp=>ah.map λk=>val k p) first (p+1) n:=by
    simp[eA,P]
   rw[h] at e;rw[uu] at e;cases y:Go (pre++[(first+p,ah.map λk=>val k p)]) with
   |true=>
    rw[y] at f e;simp only[if_true] at e;refine pQ f o (by omega) i ⟨λd=>(by cases d),λ_ t s u=>?_⟩;exact z (p+1) (by omega) _ own' g w' t (by simp;omega) ⟨s,u,q,r,j,v,H,d.lq,x⟩ e
   |false=>
    rw[y] at f e;simp only[UA,if_false] at e;exact pQ f o (by omega) i ⟨λ_=>e own' g w' q r j,λd=>(by cases d)⟩
def TL(v0 v1 v2 d e:U)(m:Nat)(i:5<=m):Knows ⟨#[v0,v1,v2,d,e]++U3 (m-5) Vk,[]⟩ m [(0,v0),(1,v1),(2,v2),(3,d),(4,e)]:=by
 have b:∀f v,(#[v0,v1,v2,d,e]:Array U)[f]? =I v->aW ⟨#[v0,v1,v2,d,e]++U3 (m-5) Vk,[]⟩ f=v:=λf v g=>by
  unfold aW;rw[UD,Array.getElem?_append_left (Ua.1 g).1,g];rfl
 refine Knows.cons (Knows.cons (Knows.cons (Knows.cons (Knows.cons (l:=[]) ⟨?_,λs v h=>by simp at h⟩ (b 4 e Y)) (b 3 d Y)) (b 2 v2 Y)) (b 1 v1 Y)) (b 0 v0 Y);simp;omega
def Qo (J:List dx->(Nat->Prop)->F->Prop)(M0:Nat->Prop)(w0:F)(e:List dx×Bool)(f:Xa)(w':F):Prop:=
 f= .returned (.bool e.2)/\∃d,J e.1 d w'/\(∀b,b<w0.heap.size->¬M0 b->w'.heap[b]? =w0.heap[b]?)/\w0.heap.size<=w'.heap.size/\∀b,d b->M0 b\/w0.heap.size<=b
def F3(C:Cons aI T9 Post l J Go)(q:J pre M0 w0)(hF:∀W,(∀b,b<w0.heap.size->¬M0 b->m6 W w0 b)->w0.heap.size<=W.heap.size->SO W ah rs co cb bE ro rb bh lb m N val)(t:first+N<=1000000)(hc:ah.length<=1000)(D:rs.length<=Up)(z:pre.length+N<=2000):
 mh aI T9 Post 79 #[qv a0 b0 c0 (.slice co ah.length aJ) (.slice ro rs.length aN) sk,.slice (I ⟨lb,0,K⟩) m mc,.int .i64 (first:Int),.int .i64 (N:Int),.func (.yield l) #[] #[]] w0 (Qo J M0 w0 (feed Go pre (eA (ni rs val) (λp=>ah.map λk=>val k p) first 0 N))):=by
 intro c cs F P A s;have f:=iq aI T9 Post;refine Xe.go (own:=λb=>b<w0.heap.size) ?_ (λb i=>i) A;rw[enter_at _ Tryz.func79 Y];have e:=TL (qv a0 b0 c0 (.slice co ah.length aJ) (.slice ro rs.length aN) sk) (.slice (I ⟨lb,0,K⟩) m mc) (.int .i64 (first:Int)) (.int .i64 (N:Int)) (.func (.yield l) #[] #[]) 33 (by decide);have x:tP JR (λb=>b<w0.heap.size) w0:=λb d=>d.elim Yq (λi=>i);refine aS f ?_;refine bq f [0,1] Y ?_;refine mA f x (by decide) Y Y (.cells #[a0,b0,c0,.slice co ah.length aJ,.slice ro rs.length aN,.bool sk] 115) trivial (λG=>.pointer (I ⟨G,0,K⟩)) (uD (v:=qv a0 b0 c0 (.slice co ah.length aJ) (.slice ro rs.length aN) sk) Y (e.of Y)) λqb H v Q E u=>?_;replace e:=e.put (d:=5) (by decide) (.pointer (I ⟨qb,0,K⟩));refine mZ f e (.bool T5) λe=>?_;refine ak f ?_;refine aS f ?_;refine aS f ?_;refine bq f [0,1] Y ?_;refine cG f e λe=>?_;refine dB f e Y (.int .i64 ((0:Nat):Int)) (cg Y Y) λe=>?_;refine ak f ?_;refine gA f ?_;refine ud f ?_;have j:=Gb E;have n:=C.bound _ _ _ q;refine Jx (w0:=w0) (M0:=M0) (val:=val) C hF t hc D N 0 (by omega) pre _ M0 H _ z ⟨((((((e.nil.cons (e.slot 1 _ Y)).cons (e.slot 2 _ Y)).cons (e.slot 4 _ Y)).cons (e.slot 5 _ Y)).cons (e.slot 12 _ Y)).cons (e.slot 13 _ Y)),by simp only[put_defers],C.j7 _ _ _ _ q (λb d=>j.at_ b (n b d)) j.size,⟨λb d o=>⟨.inl d,j.at_ b d⟩,λb d=>.inl d,λb d=>.inl (n b d),j.size,j.tape,j.os,j.output⟩,λb d=>d.elim (λi=>by omega) (λi=>by omega),.inr Y,λi=>by have:=n qb i;omega,v,u⟩ λR r S y g O=>?_;intro _ L h B;refine s _ L ⟨rfl,r,C.j7 _ _ _ _ y (λb d=>h.at_ b (g.rj b d)) h.size,λb d o=>(h.at_ b (g.keep b d o).1).trans (g.keep b d o).2,Ux g.size h.size,g.ext⟩ B ⟨h.tape.trans g.tape,h.os.trans g.os,h.output.trans g.output,Ux g.size h.size⟩ (n7 F _)
end
end Cc
namespace Cc
open Go Go.Conc
open Go.RowKit (Below)
open Ec (aD aG cE dA sG zT sb qv bK Bd ki lA dH aY xP oU nI)
structure FM(W:F)(l:List (bK×Int))(bs:List Bd)(ah:List Int)(rs:List cE)(kb eb:Nat)(dO:Option UJ)(db:Nat)(cQ nh:Nat->Nat)(co:Option UJ)(cb bE:Nat)(ro:Option UJ)(rb bh:Nat):Prop where
 k:∀j x,l[j]? =I x->aM W kb (0+j*2+1) (.int .i64 x.1.kind)
 e:∀j x,l[j]? =I x->aM W eb (0+j*1) (.int .i64 x.2)
 d:∀i b,bs[i]? =I b->W.rangeAt db (0+i*2) [.int .i64 (b.rows:Int),.slice (I ⟨cQ i,0,K⟩) l.length (nh i)]
 c:∀i b,bs[i]? =I b->∀j x,b.chunks[j]? =I x->∀t u,(dH x)[t]? =I u->W.cell? ⟨cQ i,j*8+t,K⟩=I u
 lk:kb<W.heap.size
 le:eb<W.heap.size
 da:0<bs.length->dO=I ⟨db,0,K⟩
 ld:0<bs.length->db<W.heap.size
 lc:∀i,i<bs.length->cQ i<W.heap.size
 ca:0<ah.length->co=I ⟨cb,bE,K⟩
 cl:0<ah.length->cb<W.heap.size
 cc:∀j,j<ah.length->aM W cb (bE+j) (.int .i64 (ah.getD j 0))
 nr:dA W ro rb bh rs
structure FQ(l:List (bK×Int))(bs:List Bd)(ah:List Int)(rs:List cE)(V:Nat->Nat->List aD):Prop where
 len:∀b∈bs,b.chunks.length=l.length
 m:l.length<=1000
 pos:0<l.length
 rows:∀b∈bs,b.rows<=100
 tot:(bs.map (·.rows)).sum<=2000
 nb:bs.length<=100000
 cn:ah.length<=1000
 rn:rs.length<=Up
 ck:∀k∈ah,0<=k/\k<(l.length:Int)
 rk:∀r∈rs,0<=r.col/\r.col<(l.length:Int)
 dec:∀(i:Nat) b,bs[i]? =I b->∀(j:Nat) x y,b.chunks[j]? =I x->l[j]? =I y->x.text.size<=Up/\pi x.text y.1.kind y.2 (b.rows:Int) (V i j)
def vI:ki:=⟨⟨#[]⟩,Ec.cD⟩
def rowsOf(bs:List Bd)(i:Nat):Nat:=(bs.map (·.rows)).getD i 0
def ju (bs:List Bd)(i:Nat):Nat:=((bs.take i).map (·.rows)).sum
def sZ (bs:List Bd)(rs:List cE)(i:Nat):Bool:=rs.any λa=>Ec.wL (((bs.getD i ⟨0,[]⟩).chunks.getD a.col.toNat vI).eX) a
def Ax (V:Nat->Nat->List aD)(i:Nat)(k:Int)(p:Nat):aD:=(V i k.toNat).getD p ⟨T5,0,⟨#[]⟩⟩
def Ld (bs:List Bd)(ws:List Bool)(V:Nat->Nat->List aD)(i:Nat):Bool:=(UK ws.length).all λa=> !ws.getD a T5||(V i a).length==rowsOf bs i
def iw (bs:List Bd)(ah:List Int)(rs:List cE)(V:Nat->Nat->List aD)(i:Nat):List dx:=eA (ni rs (Ax V i)) (λb=>ah.map λa=>Ax V i a b) (ju bs i) 0 (rowsOf bs i)
def iV (sk:Bool)(bs:List Bd)(ah:List Int)(rs:List cE)(ws:List Bool)(V:Nat->Nat->List aD)(Go:List dx->Bool):Nat->Nat->List dx->Nat->List dx×Nat×Nat
 |i,0,pre,a=>(pre,a,0)
 |i,b+1,pre,a=>if sk&&sZ bs rs i then iV sk bs ah rs ws V Go (i+1) b pre a else if Ld bs ws V i then(if (feed Go pre (iw bs ah rs V i)).2 then iV sk bs ah rs ws V Go (i+1) b (feed Go pre (iw bs ah rs V i)).1 (a+1) else((feed Go pre (iw bs ah rs V i)).1,a+1,0)) else(pre,a+1,3)
theorem o9(ji:Nat->Bool)(a:Nat->List aD)(first:Nat):∀(n p:Nat),(eA ji a first p n).length<=n
 |0,p=>T6 _
 |n+1,p=>by
  have:=o9 ji a first n (p+1)
  simp only[eA]
  split
  ·simp;omega
  ·omega
theorem vz(Go:List dx->Bool):∀(a pre:List dx),(feed Go pre a).1.length<=pre.length+a.length
 | [],pre=>T6 _
 |x::a,pre=>by
  rw[uu]
  split
  ·have:=vz Go a (pre++[x]);simp at this ⊢;omega
  ·simp
def sP{bs:List Bd}{i:Nat}{b:Bd}(h:bs[i]? =I b):ju bs (i+1)=ju bs i+b.rows:=by
 obtain⟨a,rfl⟩:=Uz.1 h;unfold ju;rw[Um a,U0,List.sum_append];simp only[Xw,List.map_nil,List.sum_cons,List.sum_nil,Nat.add_zero]
def yg(bs:List Bd):∀i,ju bs i<=(bs.map (·.rows)).sum:=by
 intro i;have a:(bs.map (·.rows)).sum=((bs.take i).map (·.rows)).sum+((bs.drop i).map (·.rows)).sum:=by
  rw[<-List.sum_append,<-U0,Ww]
 unfold ju;omega
def uN{bs:List Bd}{i:Nat}{b:Bd}(h:bs[i]? =I b):rowsOf bs i=b.rows:=by
 unfold rowsOf;simp[Uh,h]
def R4:(Tryz.f76.name == "runtime.NumGoroutine")=T5:=by kernel_rfl
def SK:(Tryz.f77.name == "runtime.NumGoroutine")=T5:=by kernel_rfl
def RQ:(U2.name == "runtime.NumGoroutine")=T5:=by kernel_rfl
def RV:(Wy.name == "runtime.NumGoroutine")=T5:=by kernel_rfl
section
variable {W:F}{l:List (bK×Int)}{bs:List Bd}{ah:List Int}{rs:List cE}{kb eb db:Nat}{dO:Option UJ}{cQ nh:Nat->Nat}{co:Option UJ}{cb bE:Nat}{ro:Option UJ}{rb bh:Nat}{V:Nat->Nat->List aD}
def FM.S9(h:FM W l bs ah rs kb eb dO db cQ nh co cb bE ro rb bh)(q:FQ l bs ah rs V){i:Nat}{b:Bd}(d:bs[i]? =I b):∀r∈rs,zT W (cQ i) l.length r.col ((b.chunks.getD r.col.toNat vI).eX):=by
 intro r m;obtain⟨g,s⟩:=q.rk r m;obtain⟨c,e⟩:=WB g;have t:=q.len b (VD d);have k:c<b.chunks.length:=by omega
 have f:b.chunks[c]? =I b.chunks[c]:=Ul k;have j:b.chunks.getD r.col.toNat vI=b.chunks[c]:=by rw[e,Uh];simp[f]
 rw[j];have a:=λo p n=>h.c i b d c _ f o p n;refine⟨c,e,by omega,h.lc i (Uz.1 d).1,a 1 _ Y,a 2 _ Y,a 3 _ Y,a 4 _ Y,a 5 _ Y,a 6 _ Y,a 7 _ Y⟩
def D7{n:Nat}{b:List Int}{j:Nat}:(aY n b)[j]? =I Z↔j<n/\(j:Int)∈b:=by
 unfold aY;rcases Vy j n with a|a
 ·simp[a,List.any_eq_true]
 ·simp[a];omega
def FM.bin(h:FM W l bs ah rs kb eb dO db cQ nh co cb bE ro rb bh)(q:FQ l bs ah rs V){i:Nat}{b:Bd}(a:bs[i]? =I b){g:Nat}(k:W.heap[g]? =I (.cells (xP (aY l.length (ah++rs.map cE.col))).toArray 4 (0,0))):
 Fi (λx=>x=cQ i\/x=kb\/x=eb) W (λj=>(b.chunks.getD j vI).text) (λj=>(l.getD j (⟨⟨#[]⟩,0⟩,0)).1.kind) (λj=>(l.getD j (⟨⟨#[]⟩,0⟩,0)).2) b.rows (cQ i) l.length kb l.length eb l.length g (aY l.length (ah++rs.map cE.col)) (V i):=by
 have r:=q.len b (VD a);have p:g<W.heap.size:=(Ua.1 k).1;refine⟨λx d=>?_,λj e=>?_,p,λj s e=>?_,?_,?_,by omega⟩
 ·rcases d with rfl|rfl|rfl
  ·exact h.lc i (Uz.1 a).1
  ·exact h.lk
  ·exact h.le
 ·have c:=(D7.1 e).1;have d:b.chunks[j]? =I (b.chunks.getD j vI):=by
   have o:j<b.chunks.length:=by omega
   rw[Uh,Ul o];rfl
  have f:l[j]? =I (l.getD j (⟨⟨#[]⟩,0⟩,0)):=by rw[Uh,Ul c];rfl
  obtain⟨m,n⟩:=q.dec i b a j _ _ d f;refine⟨⟨.inl Y,.inr (.inl Y),.inr (.inr Y),c,c,c,?_,h.k j _ f,h.e j _ f⟩,m,n⟩;have:=h.c i b a j _ d 0 _ Y;rw[UT];exact this
 ·unfold Ur;simp only[k,UT,Nat.mul_one];simp[xP,e]
 ·have:=q.rows b (VD a);omega
 ·rw[Ec.jj];have:=q.m;omega
end
def iB (fn:WC):WU:=match fn.body with
 |some (.seq _ (.seq _ (.seq _ (.seq (.seq _ (.block _ (.loop c))) _))))=>c
 |_=>.skip
def qS (fn:WC):WU:=match fn.body with
 |some (.seq _ (.seq _ (.seq _ (.seq _ c))))=>c
 |_=>.skip
def Ex (fn:WC):WU:=match iB fn with
 | .seq _ (.seq _ (.seq (.block _ (.seq _ (.seq (.seq _ (.cond _ c _)) _))) _))=>c
 |_=>.skip
def tB (fn:WC):List WM:=match iB fn with
 | .seq _ (.seq _ (.seq (.block _ (.seq _ (.seq _ c))) d))=>[.code c,.inBlock 1,.code d,.inLoop (iB fn),.inBlock 0,.code (qS fn)]
 |_=>[]
structure pF(J:List dx->(Nat->Prop)->F->Prop)(w0 w:F)(M0 M own:Nat->Prop)(q:Array U)(l first n i nb qb wb m:Nat)(bsv:U)(ws:List Bool)(pre:List dx)(a:V5):Prop where
 kn:Knows a 59 [(18,.int .i64 (i:Int)),(17,.int .i64 (nb:Int)),(16,bsv),(7,.int .i64 (first:Int)),(6,.slice (I ⟨wb,0,K⟩) m m),(4,.int .i64 (n:Int)),(2,.pointer (I ⟨qb,0,K⟩)),(1,.func (.yield l) #[] #[])]
 df:a.defers=[]
 j:J pre M w
 kept:Kept w0 w M0 M own
 bd:∀b,own b->b<w.heap.size
 oq:own qb
 nq:¬M qb
 lq:w0.heap.size<=qb
 hq:w.heap[qb]? =I (.cells q 115 (0,0))
 ow:own wb
 nw:¬M wb
 lw:w0.heap.size<=wb
 hw:w.heap[wb]? =I (.cells (xP ws).toArray 4 (0,0))
section
variable {Post:U->F->Prop}{J:List dx->(Nat->Prop)->F->Prop}{Go:List dx->Bool}{w0 w:F}{M0 M own:Nat->Prop}{lp first n i qb wb:Nat}{pre:List dx}{a:V5}{cs:List Us}{l:List (bK×Int)}{bs:List Bd}{ah:List Int}{rs:List cE}{kb eb db:Nat}{dO:Option UJ}{cQ nh:Nat->Nat}{co:Option UJ}{cb bE aJ:Nat}{ro:Option UJ}{rb bh aN:Nat}{V:Nat->Nat->List aD}{a0 b0:U}{dg:Nat}{sk:Bool}{ws:List Bool}{b:Bd}
def oD{W:F}{q:Array U}{t:Ug}{g:Nat}(h:W.heap[g]? =I (.cells q t (0,0))):W.rangeAt g 0 q.toList:=λd v c=>by
 unfold Ur;simp only[h];rw[UT];simpa using c
def kH{W:F}{q:Array U}{t:Ug}{g o:Nat}{v:U}(h:W.heap[g]? =I (.cells q t (0,0)))(c:q[o]? =I v):aM W g o v:=by
 unfold Ur;simp only[h];exact c
def Kg(C:Cons aI T9 Post lp J Go)(q:FQ l bs ah rs V)(hF:∀W,(∀b,b<w0.heap.size->¬M0 b->m6 W w0 b)->w0.heap.size<=W.heap.size->FM W l bs ah rs kb eb dO db cQ nh co cb bE ro rb bh)(e:bs[i]? =I b)(a3:0<bs.length->¬M0 db)
 (h:pF J w0 w M0 M own #[a0,b0,.slice dO bs.length dg,.slice co ah.length aJ,.slice ro rs.length aN,.bool sk] lp first n i bs.length qb wb l.length (.slice dO bs.length dg) ws pre a)
 (U:∀own' w' a' vb,pF J w0 w' M0 M own' #[a0,b0,.slice dO bs.length dg,.slice co ah.length aJ,.slice ro rs.length aN,.bool sk] lp first n i bs.length qb wb l.length (.slice dO bs.length dg) ws pre a'->aW a' 9= .pointer (I ⟨vb,0,K⟩)->own' vb->¬M vb->w0.heap.size<=vb->vb≠qb->vb≠wb->w'.heap[vb]? =I (.cells #[.int .i64 (b.rows:Int),.slice (I ⟨cQ i,0,K⟩) l.length (nh i)] 139 (0,0))->
   Xe aI T9 Post own' ((base 54).at a' ((if !(sk&&sZ bs rs i) then[.code (Ex Xf)] else[.code .skip])++tB Xf)) cs w'):
 Xe aI T9 Post own ((base 54).at a [.code (iB Xf),.inLoop (iB Xf),.inBlock 0,.code (qS Xf)]) cs w:=by
 have d:=iq aI T9 Post;obtain⟨c,E,az,o,r,g,ae,X,a6,u,al,ab,bd⟩:=h;have F:i<bs.length:=(Uz.1 e).1;have R:tP JR own w:=λb e=>e.elim Yq (r b);have m:=o.same (λb bv _ h _=>h) (T6 _);have N:=hF w m.1 m.2;have a5:own db:=by
  have p:=hF w0 (λ_ _ _ _ h _=>h) (T6 _);exact(o.keep db (p.ld (by omega)) (a3 (by omega))).1
 obtain rfl:=N.da (by omega);have br:=q.nb;refine aS d ?_;refine bq d [0] Y ?_;refine dB d c Y (.bool Z) (jw Y (c.of Y) (c.of Y) (by simp;omega)) λc=>?_;refine ak d ?_;refine aS d ?_;refine dm d Z (c.of Y) ?_;refine ig d ?_;refine aS d ?_;refine gA d ?_;refine aS d ?_;refine bq d [0,1,2,3] Y ?_;refine dB d c Y (.pointer (I ⟨db,0+i*2,K⟩)) (fG Y (c.of Y) (c.of Y) Tryz.underlying103 Tryz.sizeOf139 F) λc=>?_;refine q9 d c Y (.agg #[.int .i64 (b.rows:Int),.slice (I ⟨cQ i,0,K⟩) l.length (nh i)]) (fh (cs:=[.int .i64 (b.rows:Int),.slice (I ⟨cQ i,0,K⟩) l.length (nh i)]) Y (c.of Y) V7 Y nV (.inr a5) (N.d i b e)) λc=>?_;refine mA d R (by decide) Y Y (.cells #[.int .i64 0,aO] 139) trivial (λn=>.pointer (I ⟨n,0,K⟩)) (sY Y Tryz.zeroValue139) λvb bA a4 a9 hrel au=>?_;replace c:=c.put (d:=9) (by decide) (.pointer (I ⟨vb,0,K⟩));have S:=R.new a4 a9;refine r8 d S (by decide) Y Y (.inr Y) (.cells #[.int .i64 (b.rows:Int),.slice (I ⟨cQ i,0,K⟩) l.length (nh i)] 139) trivial (kY (n:=vb) (off:=0) (v:=.agg #[.int .i64 (b.rows:Int),.slice (I ⟨cQ i,0,K⟩) l.length (nh i)]) Y (c.of Y) (c.of Y) nV (λbl Q=>by simp[WH] at Q;rcases Q with rfl|rfl<;>rfl) (Or.inr (Or.inr rfl)) au (T6 2)) λB f=>?_;replace c:=c.none Vk;have bt:=r qb g;have bu:=r wb u;have x:RelB own w B:=⟨λb G=>(f.at_ b (.inr (.inl G)) (by have:=r b G;omega)).trans (hrel.at_ b (.inr G)),Ux hrel.size f.size,f.tape.trans hrel.tape,f.os.trans hrel.os,f.output.trans hrel.output⟩;have s:=o.rel (own':=λb=>own b\/b=vb) x (λb h=>.inl h);have T:=C.j7 _ _ _ B az (λb e=>x.at_ b (o.rj b e)) x.size;have P:∀b,own b\/b=vb->b<B.heap.size:=λb e=>(S.set f) b (.inr e);have A:=(x.at_ qb g).trans a6;have ap:=(x.at_ wb u).trans bd;have ao:∀b,M b->b≠vb:=λb e D=>by have:=r b (o.rj b e);omega
 have aa:w0.heap.size<=vb:=by have:=o.size;omega
 refine ak d ?_;refine aS d ?_;refine aS d ?_;refine bq d [0,1,2,3,4,5,6,7,8] Y ?_;refine dB d c Y (.pointer (I ⟨qb,5,K⟩)) (di (off':=5) Y (c.of Y) WE Y Tryz.sizeOf4 Y) λc=>?_;refine q9 d c Y (.bool sk) (bY Y (c.of Y) Tryz.isAgg4 (.inr (.inl g)) (kH A Y)) λc=>?_;refine dB d c Y (.bool (!sk)) (yJ Y (c.of Y)) λc=>?_;refine cG d c λc=>?_;cases sk with
 |false=>
  refine sM d c λc=>?_;refine sM d c λc=>?_;refine sM d c λc=>?_;refine sM d c λc=>?_;refine dB d c Y (.bool Z) (yL Y (c.of Y) Y) λc=>?_;refine ak d ?_;refine dm d Z (c.of Y) ?_;exact U _ B _ vb ⟨(((((((c.nil.cons (c.slot 1 _ Y)).cons (c.slot 2 _ Y)).cons (c.slot 4 _ Y)).cons (c.slot 6 _ Y)).cons (c.slot 7 _ Y)).cons (c.slot 16 _ Y)).cons (c.slot 17 _ Y)).cons (c.slot 18 _ Y),by simp only[put_defers];exact E,T,s,P,.inl g,ae,X,A,.inl u,al,ab,ap⟩ (c.slot 9 _ Y) (.inr Y) (λh=>ao vb h Y) aa (by omega) (by omega) f.set
 |true=>
  refine ov d (by decide) Y (c.want (d:=25) (want:=T5) (b:=T5) Y Y Y (by decide)) _ (fh (cs:=[a0,b0,.slice (I ⟨db,0,K⟩) bs.length dg,.slice co ah.length aJ,.slice ro rs.length aN,.bool Z]) Y (c.of Y) WE Y uH (.inr (.inl g)) (oD A)) ?_;replace c:=c.put (d:=26) (by decide) (qv a0 b0 (.slice (I ⟨db,0,K⟩) bs.length dg) (.slice co ah.length aJ) (.slice ro rs.length aN) Z);refine ov d (by decide) Y (c.want (d:=25) (want:=T5) (b:=T5) Y Y Y (by decide)) _ (fh (cs:=[.int .i64 (b.rows:Int),.slice (I ⟨cQ i,0,K⟩) l.length (nh i)]) Y (c.of Y) V7 Y nV (.inr (.inr Y)) (oD f.set)) ?_;replace c:=c.put (d:=27) (by decide) (.agg #[.int .i64 (b.rows:Int),.slice (I ⟨cQ i,0,K⟩) l.length (nh i)]);refine C4 (R:=λW D L=>∃k,D= .returned (.bool k)/\k=sZ bs rs i) cU Y Y (c.want (d:=25) (want:=T5) (b:=T5) Y Y Y (by decide)) Y (xI (c.of Y) (c.of Y)) Tryz.func77 SK Y (jW Y Y Y).symm (dI Y (by simp only[put_defers];exact E) (by kernel_rfl)) (λW m H=>?_) λv y W L m H bm bb bo j=>?_
  ·have O:=hF W (s.same m H).1 (s.same m H).2;refine(nI rs (λbi=>(b.chunks.getD bi.toNat vI).eX) (b.rows:Int) (cQ i) l.length (nh i) a0 b0 (.slice (I ⟨db,0,K⟩) bs.length dg) (.slice co ah.length aJ) ro rb bh aN Z W q.rn O.nr (O.S9 q e)).mono λD L h=>?_;obtain⟨k,rfl,p,ar⟩:=h;refine⟨ar,_,rfl,k,rfl,?_⟩;have aw:bs.getD i ⟨0,[]⟩=b:=by rw[Uh,e];rfl
   unfold sZ;rw[aw];cases z:k with
   |true=>
    symm
    rw[z] at p;apply VZ;intro ad;simp only[Bool.not_eq_true,List.any_eq_false] at ad;have:∀i (h:i<rs.length),Ec.wL ((b.chunks.getD rs[i].col.toNat vI).eX) rs[i]=T5:=λi F=>by
     have:=ad rs[i] (Ui F);simpa using this
    have:=p.2 this;cases this
   |false=>
    symm
    rw[List.any_eq_false];intro bx a8;obtain⟨bj,ba,rfl⟩:=List.mem_iff_getElem.1 a8;have:=(p.1 z) bj ba;simpa using this
  ·obtain⟨k,z,rfl⟩:=bb;cases z;have a2:=s.rel (own':=grown (λb=>own b\/b=vb) W.heap.size y.heap.size) j (λb h=>.inl h);have a1:=C.j7 _ _ _ y T (λb e=>j.at_ b (s.rj b e)) j.size;have a7:=(j.at_ qb (.inl g)).trans A;have be:=(j.at_ wb (.inl u)).trans ap;have bc:=(j.at_ vb (.inr Y)).trans f.set;have av:∀b,grown (λb=>own b\/b=vb) W.heap.size y.heap.size b->b<y.heap.size:=λb e=>e.elim (λh=>Uc (P b h) j.size) (λh=>h.2);replace c:=c.put (d:=28) (by decide) (.bool (sZ bs rs i));refine mB d (by decide) Y (c.want (d:=25) (want:=T5) (b:=T5) Y Y Y (by decide)) _ (yJ Y (c.of Y)) ?_;replace c:=c.put (d:=29) (by decide) (.bool (!sZ bs rs i));refine dB d c Y (.bool (!sZ bs rs i)) (yK Y (c.of Y) (c.of Y)) λc=>?_;refine ak d ?_;refine dm d (!sZ bs rs i) (c.of Y) ?_;have t:=U _ y _ vb ⟨(((((((c.nil.cons (c.slot 1 _ Y)).cons (c.slot 2 _ Y)).cons (c.slot 4 _ Y)).cons (c.slot 6 _ Y)).cons (c.slot 7 _ Y)).cons (c.slot 16 _ Y)).cons (c.slot 17 _ Y)).cons (c.slot 18 _ Y),by simp only[put_defers];exact E,a1,a2,av,.inl (.inl g),ae,X,a7,.inl (.inl u),al,ab,be⟩ (c.slot 9 _ Y) (.inl (.inr Y)) (λh=>ao vb h Y) aa (by omega) (by omega) bc;rw[Bool.true_and] at t;cases am:sZ bs rs i with
   |true=>rw[am] at t;exact t
   |false=>rw[am] at t;exact t
end
end Cc
namespace Cc
open Go Go.Conc
open Go.RowKit (Below)
open Ec (aD aG cE dA sG zT sb qv bK Bd ki lA dH aY xP)
def gE (kb g ck eb f ce:Nat)(dO:Option UJ)(d dg:Nat)(co:Option UJ)(e aJ:Nat)(ro:Option UJ)(h aN:Nat)(sk:Bool):Array U:= #[.slice (I ⟨kb,0,K⟩) g ck,.slice (I ⟨eb,0,K⟩) f ce,.slice dO d dg,.slice co e aJ,.slice ro h aN,.bool sk]
section
variable {Post:U->F->Prop}{J:List dx->(Nat->Prop)->F->Prop}{Go:List dx->Bool}{w0 w:F}{M0 M own:Nat->Prop}{lp first n i qb wb vb:Nat}{pre:List dx}{a:V5}{cs:List Us}{l:List (bK×Int)}{bs:List Bd}{ah:List Int}{rs:List cE}{kb ck eb ce db:Nat}{dO:Option UJ}{cQ nh:Nat->Nat}{co:Option UJ}{cb bE aJ:Nat}{ro:Option UJ}{rb bh aN:Nat}{V:Nat->Nat->List aD}{dg:Nat}{sk:Bool}{b:Bd}{c:Us}
def Io{ws:List Bool}(g:bs[i]? =I b):Ld bs ws V i=Z↔∀j,ws[j]? =I Z->(V i j).length=b.rows:=by
 unfold Ld;rw[uN g,Uy];constructor
 ·intro f j d;have e:j<ws.length:=(Uz.1 d).1;have:=f j (Vt.2 e);rw[Uh,d] at this;simpa using this
 ·intro f j d;have e:=Vt.1 d;rw[Uh,Ul e];cases h:ws[j] with
  |false=>simp
  |true=>
   have:=f j (by rw[Ul e,h]);simp[this]
def Pc{W w5:F}{lb N:Nat}{g:Nat->Nat}(q:FQ l bs ah rs V)(e:FM W l bs ah rs kb eb dO db cQ nh co cb bE ro rb bh)(t:W.heap[lb]? =I (.cells (fp (aY l.length (ah++rs.map cE.col)) g (V i) N (aY l.length (ah++rs.map cE.col)).length).toArray 43 (0,0)))(A:∀j,(aY l.length (ah++rs.map cE.col))[j]? =I Z->Row W (g j) N (V i j))(z:∀j,(aY l.length (ah++rs.map cE.col))[j]? =I Z->(V i j).length=N):
 SO W ah rs co cb bE ro rb bh lb l.length N (Ax V i):=by
 refine⟨e.ca,e.cl,e.cc,e.nr,λp K h f=>?_⟩;have x:(0<=h/\h<(l.length:Int))/\h∈ah++rs.map cE.col:=by
  rcases f with f|⟨u,d,rfl⟩
  ·exact⟨q.ck h f,List.mem_append_left _ f⟩
  ·exact⟨q.rk u d,List.mem_append_right _ (U7.2 ⟨u,d,rfl⟩)⟩
 obtain⟨⟨v,E⟩,y⟩:=x;obtain⟨j,rfl⟩:=WB v;have k:j<l.length:=by omega
 have o:=D7.2 ⟨k,y⟩;have H:=z j o;obtain⟨⟨D,r,G,B⟩,_⟩:=A j o;have m:p<(V i j).length:=by omega
 have d:=uM r B m;have C:Ax V i (j:Int) p=(V i j)[p]:=by
  unfold Ax;rw[Int.toNat_natCast,Uh,Ul m];rfl
 rw[C];refine⟨j,g j,(V i j).length,N,rfl,k,(Ua.1 t).1,?_,m,(Ua.1 r).1,?_,?_,?_⟩
 ·unfold Ur;simp only[t];have s:j<(aY l.length (ah++rs.map cE.col)).length:=by rw[Ec.jj];exact k
  have:=mJ (ws:=aY l.length (ah++rs.map cE.col)) (g:=g) (V:=V i) (N:=N) (i:=(aY l.length (ah++rs.map cE.col)).length) s;rw[if_pos ⟨s,o⟩] at this;simpa using this
 ·have:=d 0 _ Y;rw[UT,Nat.add_zero] at this;exact this
 ·have:=d 1 _ Y;rw[UT] at this;exact this
 ·have:=d 2 _ Y;rw[UT] at this;exact this
end
section
variable {Post:U->F->Prop}{J:List dx->(Nat->Prop)->F->Prop}{Go:List dx->Bool}{w0 w:F}{M0 M own:Nat->Prop}{lp first n i qb wb vb:Nat}{pre:List dx}{a:V5}{cs:List Us}{l:List (bK×Int)}{bs:List Bd}{ah:List Int}{rs:List cE}{kb ck eb ce db:Nat}{dO:Option UJ}{cQ nh:Nat->Nat}{co:Option UJ}{cb bE aJ:Nat}{ro:Option UJ}{rb bh aN:Nat}{V:Nat->Nat->List aD}{dg:Nat}{sk:Bool}{b:Bd}{c:Us}
def mq{a:V5}{x:U6}{u:U}(h1:a.eval x=u): #[x].map a.eval=#[u]:=by simp[h1]
def Lr{a:V5}{x y z u v:U6}{f g h d e:U}(h1:a.eval x=f)(j:a.eval y=g)(k:a.eval z=h)(m:a.eval u=d)(o:a.eval v=e): #[x,y,z,u,v].map a.eval=#[f,g,h,d,e]:=by simp[h1,j,k,m,o]
def Bf(q:FQ l bs ah rs V)(g:bs[i]? =I b)(C:first<=100000)(D:i<bs.length)
 (h:pF J w0 w M0 M own (gE kb l.length ck eb l.length ce dO bs.length dg co ah.length aJ ro rs.length aN sk) lp first n i bs.length qb wb l.length (.slice dO bs.length dg) (aY l.length (ah++rs.map cE.col)) pre a) (f:aW a 9= .pointer (I ⟨vb,0,K⟩)) (x:own vb) (A:w.heap[vb]? =I (.cells #[.int .i64 (b.rows:Int),.slice (I ⟨cQ i,0,K⟩) l.length (nh i)] 139 (0,0)))
 (o:∀a',pF J w0 w M0 M own (gE kb l.length ck eb l.length ce dO bs.length dg co ah.length aJ ro rs.length aN sk) lp (first+b.rows) n (i+1) bs.length qb wb l.length (.slice dO bs.length dg) (aY l.length (ah++rs.map cE.col)) pre a'->Xe aI T9 Post own ((base 54).at a' [.code (iB Xf),.inLoop (iB Xf),.inBlock 0,.code (qS Xf)]) cs w):
 Xe aI T9 Post own ((base 54).at a (tB Xf)) cs w:=by
 have e:=iq aI T9 Post;obtain⟨d,k,m,p,j,v,t,r,z,y,u,s,B⟩:=h;have F:=q.rows b (VD g);have E:=q.nb;replace d:=d.cons f;refine bq e [0,1,2,3,4] Y ?_;refine cG e d λd=>?_;refine dB e d Y (.pointer (I ⟨vb,0,K⟩)) (di (off':=0) Y (d.of Y) V7 Y X5 Y) λd=>?_;refine q9 e d Y (.int .i64 (b.rows:Int)) (bY Y (d.of Y) Yv (.inr x) (kH A Y)) λd=>?_;refine dB e d Y (.int .i64 ((first+b.rows:Nat):Int)) (nN Y (d.of Y) (d.of Y) (by omega)) λd=>?_;refine gW e d λd=>?_;refine ak e ?_;refine iI e ?_;refine bq e [0,1] Y ?_;refine dB e d Y (.int .i64 ((i+1:Nat):Int)) (nN (j:=1) Y (d.of Y) Y (by omega)) λd=>?_;refine cG e d λd=>?_;refine ak e ?_;refine kU e ?_;exact o _ ⟨(((((((d.nil.cons (d.slot 1 _ Y)).cons (d.slot 2 _ Y)).cons (d.slot 4 _ Y)).cons (d.slot 6 _ Y)).cons (d.slot 7 _ Y)).cons (d.slot 16 _ Y)).cons (d.slot 17 _ Y)).cons (d.slot 18 _ Y),by simp only[put_defers];exact k,m,p,j,v,t,r,z,y,u,s,B⟩
def uO(C:Cons aI T9 Post lp J Go)(q:FQ l bs ah rs V)(hF:∀W,(∀b,b<w0.heap.size->¬M0 b->m6 W w0 b)->w0.heap.size<=W.heap.size->FM W l bs ah rs kb eb dO db cQ nh co cb bE ro rb bh)(f:bs[i]? =I b)(bt:first=ju bs i)(cx:pre.length<=first)(cv:n<=100000)
 (h:pF J w0 w M0 M own (gE kb l.length ck eb l.length ce dO bs.length dg co ah.length aJ ro rs.length aN sk) lp first n i bs.length qb wb l.length (.slice dO bs.length dg) (aY l.length (ah++rs.map cE.col)) pre a) (bl:aW a 9= .pointer (I ⟨vb,0,K⟩)) (ab:own vb) (b3:¬M vb) (cu:w0.heap.size<=vb) (bb:w.heap[vb]? =I (.cells #[.int .i64 (b.rows:Int),.slice (I ⟨cQ i,0,K⟩) l.length (nh i)] 139 (0,0)))
 (br:Ld bs (aY l.length (ah++rs.map cE.col)) V i=T5->∀own' w',J pre M w'->Kept w0 w' M0 M own'->(∀b,own' b->b<w'.heap.size)->Xe aI T9 Post own' (c.finish (.tuple #[.int .i64 ((n+1:Nat):Int),.int .i64 3])) cs w')
 (cd:Ld bs (aY l.length (ah++rs.map cE.col)) V i=Z->(feed Go pre (iw bs ah rs V i)).2=T5->∀own' u w',J (feed Go pre (iw bs ah rs V i)).1 u w'->Kept w0 w' M0 u own'->(∀b,own' b->b<w'.heap.size)->Xe aI T9 Post own' (c.finish (.tuple #[.int .i64 ((n+1:Nat):Int),.int .i64 0])) cs w')
 (bx:Ld bs (aY l.length (ah++rs.map cE.col)) V i=Z->(feed Go pre (iw bs ah rs V i)).2=Z->∀own' u w' a',pF J w0 w' M0 u own' (gE kb l.length ck eb l.length ce dO bs.length dg co ah.length aJ ro rs.length aN sk) lp first (n+1) i bs.length qb wb l.length (.slice dO bs.length dg) (aY l.length (ah++rs.map cE.col)) (feed Go pre (iw bs ah rs V i)).1 a'->aW a' 9= .pointer (I ⟨vb,0,K⟩)->own' vb->w'.heap[vb]? =I (.cells #[.int .i64 (b.rows:Int),.slice (I ⟨cQ i,0,K⟩) l.length (nh i)] 139 (0,0))->Xe aI T9 Post own' ((base 54).at a' (tB Xf)) (c::cs) w'):
 Xe aI T9 Post own ((base 54).at a (.code (Ex Xf)::tB Xf)) (c::cs) w:=by
 have e:=iq aI T9 Post;obtain⟨d,E,x,p,z,aa,a5,b1,a8,ad,a6,b2,bc⟩:=h;have cR:=q.rows b (VD f);have a1:(aY l.length (ah++rs.map cE.col)).length=l.length:=Ec.jj _ _;have bu:ju bs (i+1)<=2000:=Ux (yg bs (i+1)) q.tot;rw[sP f] at bu;replace d:=d.cons bl;refine aS e ?_;refine bq e [0,1,2] Y ?_;refine cG e d λd=>?_;refine dB e d Y (.int .i64 ((n+1:Nat):Int)) (nN (j:=1) Y (d.of Y) Y (by omega)) λd=>?_;refine gW e d λd=>?_;refine ak e ?_;refine aS e ?_;refine bq e [0,1,2,3,4,5,6,7,8,9] Y ?_;refine q9 e d Y (oZ (b.rows:Int) (cQ i) l.length (nh i)) (fh (cs:=[.int .i64 (b.rows:Int),.slice (I ⟨cQ i,0,K⟩) l.length (nh i)]) Y (d.of Y) V7 Y nV (.inr ab) (oD bb)) λd=>?_;refine dB e d Y (.pointer (I ⟨qb,0,K⟩)) (di (off':=0) Y (d.of Y) WE Y Tryz.sizeOf105 Y) λd=>?_;refine ov e (by decide) Y Y _ (fh (cs:=[.slice (I ⟨kb,0,K⟩) l.length ck,.slice (I ⟨eb,0,K⟩) l.length ce,.slice dO bs.length dg]) Y (d.of Y) Tryz.underlying105 Y AR (.inr aa) (λD v x=>oD a8 D v (by
  rcases D with _|_|_|D
  ·exact x
  ·exact x
  ·exact x
  ·simp at x))) ?_
 replace d:=d.put (d:=36) (by decide) (o5 kb l.length ck eb l.length ce (.slice dO bs.length dg));refine cG e d λd=>?_;refine sC (R:=λt=>Qm t b.rows (aY l.length (ah++rs.map cE.col)) (V i)) (vs:= #[oZ (b.rows:Int) (cQ i) l.length (nh i),o5 kb l.length ck eb l.length ce (.slice dO bs.length dg),.slice (I ⟨wb,0,K⟩) l.length l.length]) Y Y Y Y (BF (d.of Y) (d.of Y) (d.of Y)) Tryz.func78 RQ Y (dI Y (by simp only[put_defers];exact E) (by kernel_rfl)) (λt s=>?_) (λt v g s L ae b4=>?_) (λt bi w' ⟨_,_,_,o,_⟩=>by cases o) (λt w' ⟨_,_,_,o,_⟩=>by cases o)
 ·have az:=p.rel s (λb h=>h);have Q:=hF t (az.same (λb N _ h _=>h) (T6 _)).1 az.size;have:=Fw (Post:=Post) (cap:=nh i) (ck:=ck) (ce:=ce) (x:=.slice dO bs.length dg) (gT:=l.length) (Q.bin q f ((s.at_ wb ad).trans bc));rw[a1] at this;exact this
 ·obtain⟨am,lz,m,o,ap,b0,a2,b6,U⟩:=L;cases o;rw[a1];have X:Ld bs (aY l.length (ah++rs.map cE.col)) V i=lz:=by
   cases lz with
   |true=>exact(Io f).2 (U.1 Y)
   |false=>
    cases o:Ld bs (aY l.length (ah++rs.map cE.col)) V i with
    |false=>rfl
    |true=>exact absurd (U.2 ((Io f).1 o)) (by decide)
  have F:∀b,own b->g.heap[b]? =w.heap[b]? :=λb a7=>(ap.block b (Uc (z b a7) s.size)).trans (s.at_ b a7);have B:w.heap.size<=g.heap.size:=Ux s.size ap.size;have j:Kept w0 g M0 M (λb=>b<g.heap.size):=⟨λb f k=>⟨by have:=p.size;show b<g.heap.size;omega,(F b (p.keep b f k).1).trans (p.keep b f k).2⟩,p.ext,λb f=>Uc (z b (p.rj b f)) B,Ux p.size B,ae.tape.trans (s.tape.trans p.tape),ae.os.trans (s.os.trans p.os),ae.output.trans (s.output.trans p.output)⟩;have aw:=C.j7 _ _ _ g x (λb f=>F b (p.rj b f)) B;have a9:=(F qb aa).trans a8;have ch:=(F wb ad).trans bc;have L:=(F vb ab).trans bb;have ao:qb<g.heap.size:=Uc (z qb aa) B;have be:wb<g.heap.size:=Uc (z wb ad) B;have bd:vb<g.heap.size:=Uc (z vb ab) B;refine Xe.go (own:=λb=>b<g.heap.size) ?_ (λb h=>h) b4;replace d:=d.put (d:=38) (by decide) (.tuple #[.slice (I ⟨am,0,K⟩) l.length l.length,.bool lz]);refine cG e d λd=>?_;refine rf e d λd=>?_;refine rf e d λd=>?_;refine gW e d λd=>?_;refine gW e d λd=>?_;refine ak e ?_;refine aS e ?_;refine aS e ?_;refine bq e [0,1] Y ?_;refine cG e d λd=>?_;refine dB e d Y (.bool (!lz)) (yJ Y (d.of Y)) λd=>?_;refine ak e ?_;cases lz with
  |false=>
   refine dm e Z (d.of Y) ?_;refine aS e ?_;refine bq e [0,1,2] Y ?_;refine cG e d λd=>?_;refine gW e d λd=>?_;refine mZ e d (.int .i64 3) λd=>?_;refine ak e ?_;refine pK e ?_;have G:=gH (P:=T9) Tryz.results54 (d.slot 4 _ Y) (d.slot 5 _ Y);exact jd e Y (by simp only[put_defers];exact E) Tryz.func54 G.1 G.2 (br X _ g aw j (λb h=>h))
  |true=>
   have bo:=U.1 Y;refine dm e T5 (d.of Y) ?_;refine ig e ?_;refine aS e ?_;refine bq e [0,1,2,3,4,5,6,7] Y ?_;refine q9 e d Y (qv (.slice (I ⟨kb,0,K⟩) l.length ck) (.slice (I ⟨eb,0,K⟩) l.length ce) (.slice dO bs.length dg) (.slice co ah.length aJ) (.slice ro rs.length aN) sk) (fh (cs:=(gE kb l.length ck eb l.length ce dO bs.length dg co ah.length aJ ro rs.length aN sk).toList) Y (d.of Y) WE Y uH (.inr ao) (oD a9)) λd=>?_;refine cG e d λd=>?_;refine cG e d λd=>?_;refine dB e d Y (.pointer (I ⟨vb,0,K⟩)) (di (off':=0) Y (d.of Y) V7 Y X5 Y) λd=>?_;refine q9 e d Y (.int .i64 (b.rows:Int)) (bY Y (d.of Y) Yv (.inr bd) (kH L Y)) λd=>?_;refine cG e d λd=>?_;refine sC (R:=λO=>Qo J M O (feed Go pre (iw bs ah rs V i))) (vs:= #[qv (.slice (I ⟨kb,0,K⟩) l.length ck) (.slice (I ⟨eb,0,K⟩) l.length ce) (.slice dO bs.length dg) (.slice co ah.length aJ) (.slice ro rs.length aN) sk,.slice (I ⟨am,0,K⟩) l.length l.length,.int .i64 (first:Int),.int .i64 (b.rows:Int),.func (.yield lp) #[] #[]]) Y Y Y Y (Lr (d.of Y) (d.of Y) (d.of Y) (d.of Y) (d.of Y)) Tryz.func79 RV Y (dI Y (by simp only[put_defers];exact E) (by kernel_rfl)) (λO r=>?_) (λO v A r cf al b5=>?_) (λt bi w' ⟨o,_⟩=>by cases o) (λt w' ⟨o,_⟩=>by cases o)
   ·have bA:=C.j7 _ _ _ O aw (λb f=>r.at_ b (j.rj b f)) r.size;have av:iw bs ah rs V i=eA (ni rs (Ax V i)) (λcl=>ah.map λci=>Ax V i ci cl) first 0 b.rows:=by
     unfold iw;rw[uN f,bt]
    rw[av];refine F3 (val:=Ax V i) (cb:=cb) (bE:=bE) (rb:=rb) (bh:=bh) C bA (λW bm ca=>?_) (by omega) q.cn q.rn (by omega);have y:∀b,b<g.heap.size->¬M b->m6 W g b:=λb f k N T R=>bm b (Uc f r.size) k N ((r.at_ b f).trans T) R;have ar:∀b,M b->b<t.heap.size:=λb f=>Uc (z b (p.rj b f)) s.size;have Q:=hF W (λb f k N T R=>y b (j.keep b f k).1 (λh=>(j.ext b h).elim k (λh=>by omega)) N ((j.keep b f k).2.trans T) R) (Ux j.size (Ux r.size ca));have a3:∀m,t.heap.size<=m->m<g.heap.size->m6 W g m:=λm cp bj=>y m bj (λh=>by have:=ar m h;omega);refine Pc (g:=m) (w5:=g) q Q (a3 am b0 (Ua.1 a2).1 _ a2 trivial) (λD x=>?_) bo;obtain⟨ba,bv⟩:=b6 D x;obtain⟨cn,S,_⟩:=ba.ex;exact ba.same ((a3 (m D) bv (Ua.1 S).1 _ S trivial).trans S.symm)
   ·obtain⟨o,u,P,bB,c0,au⟩:=cf;cases o;have cc:=r.size;have y:∀b,b<g.heap.size->¬M b->A.heap[b]? =g.heap[b]? :=λb f k=>(bB b (Uc f cc) k).trans (r.at_ b f);have ar:∀b,M b->b<w.heap.size:=λb f=>z b (p.rj b f);have a0:Kept w0 A M0 u (λb=>b<A.heap.size):=⟨λb f k=>⟨by have:=j.size;show b<A.heap.size;omega,(y b (j.keep b f k).1 (λh=>(j.ext b h).elim k (λh=>by omega))).trans (j.keep b f k).2⟩,λb f=>(au b f).elim (j.ext b) (λh=>.inr (by have:=j.size;omega)),λb f=>C.bound _ _ _ P b f,by have:=j.size;omega,al.tape.trans (r.tape.trans j.tape),al.os.trans (r.os.trans j.os),al.output.trans (r.output.trans j.output)⟩;have a4:∀m,m<g.heap.size->¬M m->¬u m:=λm av k h=>(au m h).elim k (λh=>by omega);refine Xe.go (own:=λb=>b<A.heap.size) ?_ (λb h=>h) b5;replace d:=d.put (d:=50) (by decide) (.bool (feed Go pre (iw bs ah rs V i)).2);refine dB e d Y (.bool (!(feed Go pre (iw bs ah rs V i)).2)) (yJ Y (d.of Y)) λd=>?_;refine ak e ?_;cases H:(feed Go pre (iw bs ah rs V i)).2 with
    |false=>
     rw[H] at d;refine dm e Z (d.of Y) ?_;refine aS e ?_;refine bq e [0,1,2] Y ?_;refine cG e d λd=>?_;refine gW e d λd=>?_;refine mZ e d (.int .i64 0) λd=>?_;refine ak e ?_;refine pK e ?_;have G:=gH (P:=T9) Tryz.results54 (d.slot 4 _ Y) (d.slot 5 _ Y);exact jd e Y (by simp only[put_defers];exact E) Tryz.func54 G.1 G.2 (cd X H _ u A P a0 (λb h=>h))
    |true=>
     rw[H] at d;refine dm e T5 (d.of Y) ?_;refine ig e ?_;exact bx X H _ u A _ ⟨(((((((d.nil.cons (d.slot 1 _ Y)).cons (d.slot 2 _ Y)).cons (d.slot 4 _ Y)).cons (d.slot 6 _ Y)).cons (d.slot 7 _ Y)).cons (d.slot 16 _ Y)).cons (d.slot 17 _ Y)).cons (d.slot 18 _ Y),by simp only[put_defers];exact E,P,a0,(λb h=>h),by show qb<_;omega,a4 qb ao a5,b1,(y qb ao a5).trans a9,by show wb<_;omega,a4 wb be a6,b2,(y wb be a6).trans ch⟩ (d.slot 9 _ Y) (by show vb<_;omega) ((y vb bd b3).trans L)
end
end Cc
namespace Cc
open Go Go.Conc
open Go.RowKit (Below)
open Ec (aD aG cE dA sG zT sb qv bK Bd ki lA dH aY xP oU)
section
variable {Post:U->F->Prop}{J:List dx->(Nat->Prop)->F->Prop}{Go:List dx->Bool}{w0 w:F}{M0 M own:Nat->Prop}{lp first n i qb wb vb:Nat}{pre:List dx}{a:V5}{cs:List Us}{l:List (bK×Int)}{bs:List Bd}{ah:List Int}{rs:List cE}{kb ck eb ce db:Nat}{dO:Option UJ}{cQ nh:Nat->Nat}{co:Option UJ}{cb bE aJ:Nat}{ro:Option UJ}{rb bh aN:Nat}{V:Nat->Nat->List aD}{dg:Nat}{sk:Bool}{b:Bd}{c:Us}
def Nl(h:pF J w0 w M0 M own (gE kb l.length ck eb l.length ce dO bs.length dg co ah.length aJ ro rs.length aN sk) lp first n bs.length bs.length qb wb l.length (.slice dO bs.length dg) (aY l.length (ah++rs.map cE.col)) pre a)(g:Xe aI T9 Post own (c.finish (.tuple #[.int .i64 (n:Int),.int .i64 0])) cs w):
 Xe aI T9 Post own ((base 54).at a [.code (iB Xf),.inLoop (iB Xf),.inBlock 0,.code (qS Xf)]) (c::cs) w:=by
 have d:=iq aI T9 Post;have e:=h.kn;refine aS d ?_;refine bq d [0] Y ?_;refine dB d e Y (.bool T5) (jw Y (e.of Y) (e.of Y) (by simp)) λe=>?_;refine ak d ?_;refine aS d ?_;refine dm d T5 (e.of Y) ?_;refine uc d (k':=[.code (qS Xf)]) Y ?_;refine aS d ?_;refine bq d [0,1,2] Y ?_;refine cG d e λe=>?_;refine gW d e λe=>?_;refine mZ d e (.int .i64 0) λe=>?_;refine ak d ?_;refine pK d ?_;have f:=gH (P:=T9) Tryz.results54 (e.slot 4 _ Y) (e.slot 5 _ Y);exact jd d Y (by simp only[put_defers];exact h.df) Tryz.func54 f.1 f.2 g
def Kh(C:Cons aI T9 Post lp J Go)(q:FQ l bs ah rs V)(hF:∀W,(∀b,b<w0.heap.size->¬M0 b->m6 W w0 b)->w0.heap.size<=W.heap.size->FM W l bs ah rs kb eb dO db cQ nh co cb bE ro rb bh)(P:0<bs.length->¬M0 db):
 ∀(r i:Nat),i+r=bs.length->∀(pre:List dx) (own M:Nat->Prop) (w:F) (a:V5) (n:Nat),n<=i->pre.length<=ju bs i->
 pF J w0 w M0 M own (gE kb l.length ck eb l.length ce dO bs.length dg co ah.length aJ ro rs.length aN sk) lp (ju bs i) n i bs.length qb wb l.length (.slice dO bs.length dg) (aY l.length (ah++rs.map cE.col)) pre a->
 (∀own' j w',J (iV sk bs ah rs (aY l.length (ah++rs.map cE.col)) V Go i r pre n).1 j w'->Kept w0 w' M0 j own'->(∀b,own' b->b<w'.heap.size)->Xe aI T9 Post own' (c.finish (.tuple #[.int .i64 ((iV sk bs ah rs (aY l.length (ah++rs.map cE.col)) V Go i r pre n).2.1:Int),.int .i64 ((iV sk bs ah rs (aY l.length (ah++rs.map cE.col)) V Go i r pre n).2.2:Int)])) cs w')->
 Xe aI T9 Post own ((base 54).at a [.code (iB Xf),.inLoop (iB Xf),.inBlock 0,.code (qS Xf)]) (c::cs) w:=by
 intro r
 induction r with
 |zero=>
  intro i N pre own M w a n O t d e;have:i=bs.length:=by omega
  subst this;exact Nl d (e own M w d.j d.kept d.bd)
 |succ r H=>
  intro i N pre own M w a n O t d e;have B:i<bs.length:=by omega
  have f:bs[i]? =I bs[i]:=Ul B;generalize bs[i]=b at f;have ad:=q.nb;have Z:=Ux (yg bs (i+1)) q.tot;have G:=sP f;refine Kg C q hF f P d λS T X vb m o s E D ae al v=>?_;cases u:(sk&&sZ bs rs i) with
  |true=>
   have g:iV sk bs ah rs (aY l.length (ah++rs.map cE.col)) V Go i (r+1) pre n=iV sk bs ah rs (aY l.length (ah++rs.map cE.col)) V Go (i+1) r pre n:=by simp only[iV,u,if_true]
   rw[g] at e;refine ig (iq aI T9 Post) ?_;refine Bf q f (by omega) B m o s v λx k=>?_;rw[<-G] at k;exact H (i+1) (by omega) pre S M T x n (by omega) (by omega) k e
  |false=>
   cases h:Ld bs (aY l.length (ah++rs.map cE.col)) V i with
   |false=>
    have g:iV sk bs ah rs (aY l.length (ah++rs.map cE.col)) V Go i (r+1) pre n=(pre,n+1,3):=by simp only[iV,u,h,UA,if_false]
    rw[g] at e;exact uO C q hF f Y t (by omega) m o s E D v (λ_ own' w' z A y=>e own' M w' z A y) (λd=>by rw[h] at d;cases d) (λd=>by rw[h] at d;cases d)
   |true=>
    cases p:(feed Go pre (iw bs ah rs V i)).2 with
    |false=>
     have g:iV sk bs ah rs (aY l.length (ah++rs.map cE.col)) V Go i (r+1) pre n=((feed Go pre (iw bs ah rs V i)).1,n+1,0):=by simp only[iV,u,h,p,UA,if_false,if_true]
     rw[g] at e;exact uO C q hF f Y t (by omega) m o s E D v (λd=>by rw[h] at d;cases d) (λ_ _ own' j w' z A y=>e own' j w' z A y) (λ_ d=>by rw[p] at d;cases d)
    |true=>
     have g:iV sk bs ah rs (aY l.length (ah++rs.map cE.col)) V Go i (r+1) pre n=iV sk bs ah rs (aY l.length (ah++rs.map cE.col)) V Go (i+1) r (feed Go pre (iw bs ah rs V i)).1 (n+1):=by simp only[iV,u,h,p,UA,if_false,if_true]
     rw[g] at e;refine uO C q hF f Y t (by omega) m o s E D v (λd=>by rw[h] at d;cases d) (λ_ d=>by rw[p] at d;cases d) (λ_ _ own' j w' U K L Q R=>?_);refine Bf q f (by omega) B K L Q R λx k=>?_;rw[<-G] at k;have aa:=vz Go (iw bs ah rs V i) pre;have ab:(iw bs ah rs V i).length<=b.rows:=by
      unfold iw;rw[uN f];exact o9 _ _ _ _ _
     exact H (i+1) (by omega) _ own' j w' x (n+1) (by omega) (by omega) k e
def Qr (J:List dx->(Nat->Prop)->F->Prop)(M0:Nat->Prop)(w0:F)(d:List dx×Nat×Nat)(f:Xa)(w':F):Prop:=
 f= .returned (.tuple #[.int .i64 (d.2.1:Int),.int .i64 (d.2.2:Int)])/\∃e,J d.1 e w'/\(∀b,b<w0.heap.size->¬M0 b->w'.heap[b]? =w0.heap[b]?)/\w0.heap.size<=w'.heap.size/\∀b,e b->M0 b\/w0.heap.size<=b
def Gz(C:Cons aI T9 Post lp J Go)(q:FQ l bs ah rs V)(E:J [] M0 w0)(hF:∀W,(∀b,b<w0.heap.size->¬M0 b->m6 W w0 b)->w0.heap.size<=W.heap.size->FM W l bs ah rs kb eb dO db cQ nh co cb bE ro rb bh)(am:0<bs.length->¬M0 db):
 mh aI T9 Post 54 #[qv (.slice (I ⟨kb,0,K⟩) l.length ck) (.slice (I ⟨eb,0,K⟩) l.length ce) (.slice dO bs.length dg) (.slice co ah.length aJ) (.slice ro rs.length aN) sk,.func (.yield lp) #[] #[]] w0 (Qr J M0 w0 (iV sk bs ah rs (aY l.length (ah++rs.map cE.col)) V Go 0 bs.length [] 0)):=by
 intro c cs av a5 ap Q;have e:=iq aI T9 Post;refine Xe.go (own:=λb=>b<w0.heap.size) ?_ (λb f=>f) ap;rw[enter_at _ Tryz.func54 Y];have d:=Ta (qv (.slice (I ⟨kb,0,K⟩) l.length ck) (.slice (I ⟨eb,0,K⟩) l.length ce) (.slice dO bs.length dg) (.slice co ah.length aJ) (.slice ro rs.length aN) sk) (.func (.yield lp) #[] #[]) 59 (by decide);have Z:tP JR (λb=>b<w0.heap.size) w0:=λb g=>g.elim Yq (λf=>f);have s:=C.bound _ _ _ E;have al:Kept w0 w0 M0 M0 (λb=>b<w0.heap.size):=⟨λb g _=>⟨g,rfl⟩,λb g=>.inl g,s,T6 _,rfl,rfl,rfl⟩;refine aS e ?_;refine bq e [0,1,2] Y ?_;refine mA e Z (by decide) Y Y (.cells (gE kb l.length ck eb l.length ce dO bs.length dg co ah.length aJ ro rs.length aN sk) 115) trivial (λn=>.pointer (I ⟨n,0,K⟩)) (uD (v:=qv (.slice (I ⟨kb,0,K⟩) l.length ck) (.slice (I ⟨eb,0,K⟩) l.length ce) (.slice dO bs.length dg) (.slice co ah.length aJ) (.slice ro rs.length aN) sk) Y (d.of Y)) λqb H S a6 au D=>?_;replace d:=d.put (d:=2) (by decide) (.pointer (I ⟨qb,0,K⟩));refine mZ e d (.int .i64 ((0:Nat):Int)) λd=>?_;refine mZ e d (.int .i64 0) λd=>?_;refine ak e ?_;have A:=Gb au;have t:=al.rel (own':=λb=>b<w0.heap.size\/b=qb) A (λb f=>.inl f);have ab:=C.j7 _ _ _ H E (λb g=>A.at_ b (s b g)) A.size;have T:∀b,(b<w0.heap.size\/b=qb)->b<H.heap.size:=λb g=>by omega
 refine aS e ?_;refine bq e [0,1,2] Y ?_;refine q9 e d Y (qv (.slice (I ⟨kb,0,K⟩) l.length ck) (.slice (I ⟨eb,0,K⟩) l.length ce) (.slice dO bs.length dg) (.slice co ah.length aJ) (.slice ro rs.length aN) sk) (fh (cs:=(gE kb l.length ck eb l.length ce dO bs.length dg co ah.length aJ ro rs.length aN sk).toList) Y (d.of Y) WE Y uH (.inr (.inr Y)) (oD D)) λd=>?_;refine C4 (vs:= #[qv (.slice (I ⟨kb,0,K⟩) l.length ck) (.slice (I ⟨eb,0,K⟩) l.length ce) (.slice dO bs.length dg) (.slice co ah.length aJ) (.slice ro rs.length aN) sk]) (R:=λW p x=>∃m,p= .returned (.slice (I ⟨m,0,K⟩) l.length l.length)/\W.heap.size<=m/\x.heap[m]? =I (.cells (xP (aY l.length (ah++rs.map cE.col))).toArray 4 (0,0))) cU Y Y Y Y (mq (d.of Y)) Tryz.func76 R4 Y (jW Y Y Y).symm (dI Y (by simp only[put_defers]) (by kernel_rfl)) (λW y B=>?_) λv k W x y B a2 aw R o=>?_
 ·have r:=hF W (t.same y B).1 (t.same y B).2;have z:=q.m;have a4:=q.cn;refine(oU l.length ah rs (I ⟨kb,0,K⟩) ck (.slice (I ⟨eb,0,K⟩) l.length ce) (.slice dO bs.length dg) co cb bE aJ ro rb bh aN sk W q.m (by unfold Up;omega) q.rn r.ca r.cl r.cc r.nr q.ck q.rk).mono λp x f=>?_;obtain⟨N,m,rfl,O,P⟩:=f;exact⟨N,_,rfl,m,rfl,O,P⟩
 ·obtain⟨wb,p,az,u⟩:=aw;cases p;have ae:=t.rel (own':=grown (λb=>b<w0.heap.size\/b=qb) W.heap.size k.heap.size) o (λb f=>.inl f);have ad:=C.j7 _ _ _ k ab (λb g=>o.at_ b (t.rj b g)) o.size;have G:=(o.at_ qb (.inr Y)).trans D;have U:∀b,grown (λb=>b<w0.heap.size\/b=qb) W.heap.size k.heap.size b->b<k.heap.size:=λb g=>g.elim (λf=>Uc (T b f) o.size) (λf=>f.2);replace u:=R.row.1 u;have a0:wb<k.heap.size:=(Ua.1 u).1;have F:grown (λb=>b<w0.heap.size\/b=qb) W.heap.size k.heap.size qb:=.inl (.inr Y);have ao:grown (λb=>b<w0.heap.size\/b=qb) W.heap.size k.heap.size wb:=.inr ⟨az,a0⟩;replace d:=d.put (d:=13) (by decide) (.slice (I ⟨wb,0,K⟩) l.length l.length);refine gW e d λd=>?_;refine ak e ?_;refine aS e ?_;refine bq e [0] Y ?_;refine mZ e d (.int .i64 ((0:Nat):Int)) λd=>?_;refine ak e ?_;refine aS e ?_;refine aS e ?_;refine bq e [0,1,2,3,4] Y ?_;refine dB e d Y (.pointer (I ⟨qb,0,K⟩)) (di (off':=0) Y (d.of Y) WE Y Tryz.sizeOf105 Y) λd=>?_;refine dB e d Y (.pointer (I ⟨qb,2,K⟩)) (di (off':=2) Y (d.of Y) Tryz.underlying105 Y Tryz.sizeOf103 Y) λd=>?_;refine q9 e d Y (.slice dO bs.length dg) (bY Y (d.of Y) Tryz.isAgg103 (.inr F) (kH G Y)) λd=>?_;refine dB e d Y (.int .i64 (bs.length:Int)) (sj Y (d.of Y) Tryz.underlying103) λd=>?_;refine dB e d Y (.int .i64 ((0:Nat):Int)) (cg Y Y) λd=>?_;refine ak e ?_;refine gA e ?_;refine ud e ?_;have X:ju bs 0=0:=by simp[ju]
  refine Kh (w0:=w0) (M0:=M0) C q hF am bs.length 0 (by omega) [] _ M0 k _ 0 (T6 _) (UE _) (by
   rw[X];exact⟨(((((((d.nil.cons (d.slot 1 _ Y)).cons (d.slot 2 _ Y)).cons (d.slot 4 _ Y)).cons (d.slot 6 _ Y)).cons (d.slot 7 _ Y)).cons (d.slot 16 _ Y)).cons (d.slot 17 _ Y)).cons (d.slot 18 _ Y),by simp only[put_defers],ad,ae,U,F,λf=>by have:=s qb f;omega,S,G,ao,λf=>by have:=s wb f;omega,by omega,u⟩) λa7 L a8 aa h a3=>?_
  intro _ a1 j ar;exact Q _ a1 ⟨rfl,L,C.j7 _ _ _ _ aa (λb g=>j.at_ b (h.rj b g)) j.size,λb g z=>(j.at_ b (h.keep b g z).1).trans (h.keep b g z).2,Ux h.size j.size,h.ext⟩ ar ⟨j.tape.trans h.tape,j.os.trans h.os,j.output.trans h.output,Ux h.size j.size⟩ (n7 av _)
end
end Cc
namespace Cc
open Go Go.Conc
open Go.RowKit (Below)
open Ec (aD aG cE dA qv bK Bd aY)
def Gg{P:Ue}{a:V5}{o:Vu}{x:U6}{d:UJ}(f:o.op= .nilCheck x)(g:a.eval x= .pointer (I d)):∀b,(UH a.eval o).run P b= .ok (.value (.pointer (I d))) b/\(UH a.eval o).events P b #[]=#[]:=λb=>by
 unfold UH;simp[f,g]
def JY{P:Ue}{S own:Nat->Prop}{a:V5}{o:Vu}{w:F}{t:Ug}{x:U6}{f off:Nat}{cs:List U}{d:TypeDesc}{v:U}(k:o.op= .load t x)(p:a.eval x= .pointer (I ⟨f,off,K⟩))(l:P.underlying t=I d)(i:d.isRow=Z)(j:(P.info? t).map (·.size)=I cs.length)(h:S f\/own f)(hc:w.rangeAt f off cs)(m:.agg cs.toArray=v):∀g,RelB (λb=>S b\/own b) w g->(UH a.eval o).run P g= .ok (.value v) g/\∀e∈(UH a.eval o).events P g #[],EvW S own e:=by
 subst m;exact fh k p l i j h hc
def eu (fn:WC):Array Vu:=match fn.body with
 |some (.region _ a _)=>a
 |_=> #[]
def FN (cu xb lp:Nat)(q:U):List (Nat×U):=[(4,.pointer (I ⟨cu,0,K⟩)),(5,.pointer (I ⟨cu,0,K⟩)),(6,.pointer (I ⟨cu,0,K⟩)),(7,.pointer (I ⟨cu,0,K⟩)),(8,.pointer (I ⟨cu,0,K⟩)),(9,q),(10,.func (.yield lp) #[] #[])]
def Ji (cu:Nat)(n e:Nat):List (Nat×U):=[(11,.tuple #[.int .i64 (n:Int),.int .i64 (e:Int)]),(3,.tuple #[.int .i64 (n:Int),.int .i64 (e:Int)]),(12,.int .i64 (n:Int)),(13,.int .i64 (e:Int)),(14,.pointer (I ⟨cu,0,K⟩)),(15,.pointer (I ⟨cu,6,K⟩))]
def OH (cu:Nat):List (Nat×U):=[(16,.pointer (I ⟨cu,0,K⟩)),(17,.pointer (I ⟨cu,7,K⟩))]
def LR:List Nat:=[4,5,6,7,8,9,10]
def DC:gD (eu Wm) (λi=>decide (i<7)) 7 18 LR=Z:=by kernel_rfl
def DD:gD (eu Wm) (λi=>decide (i<13)) 13 18 ([11,3,12,13,14,15]++LR)=Z:=by kernel_rfl
def DE:gD (eu Wm) (λi=>decide (i<16)) 16 18 ([16,17]++([11,3,12,13,14,15]++LR))=Z:=by kernel_rfl
def LS:((UK (eu Wm).size).all λi=> !(λi=>decide (i<7)) i||match je (eu Wm) i with|some d=> !([11,3,12,13,14,15]:List Nat).contains d|none=>Z)=Z:=by kernel_rfl
def LU:((UK (eu Wm).size).all λi=> !(λi=>decide (i<13)) i||match je (eu Wm) i with|some d=> !([16,17]:List Nat).contains d|none=>Z)=Z:=by kernel_rfl
def Jk:((UK (eu Wm).size).all λi=> !(λi=>decide (2<=i/\i<=7)) i||i==7||(under (eu Wm) 6 (match (eu Wm)[7]? with
 |some o=>(o.after.toList.filter λe=>Vn .any e).map (·.on)
 |none=>[])).contains i)=Z:=by kernel_rfl
def Jl:((UK (eu Wm).size).all λi=> !(λi=>decide (i<=13/\i≠1/\i≠10)) i||i==13||(under (eu Wm) 2 (match (eu Wm)[13]? with
 |some o=>(o.after.toList.filter λe=>Vn .any e).map (·.on)
 |none=>[])).contains i)=Z:=by kernel_rfl
def Jm:((UK (eu Wm).size).all λi=> !(λi=>decide (i<=16)) i||i==16||(under (eu Wm) 2 (match (eu Wm)[16]? with
 |some o=>(o.after.toList.filter λe=>Vn .any e).map (·.on)
 |none=>[])).contains i)=Z:=by kernel_rfl
def LV:yz aI (.inRegion (eu Wm) [])=Z:=by kernel_rfl
def Q4{a:V5}{l:List Nat}(b:a.defers=[]):eM aI ((base 53).at a [.inRegion (eu Wm) l]) []:=
 dI Y b (by rw[List.all_cons,List.all_nil,Bool.and_true];exact LV)
def R1:(Xf.name == "runtime.NumGoroutine")=T5:=by kernel_rfl
def Mr:(T9.info? 3).map (·.size)=I 1:=by kernel_rfl
def FZ:(T9.info? 27).map (·.size)=I 1:=by kernel_rfl
def Cz{P:Ue}{fn:WC}{a:V5}(b:fn.results=#[]):(∀w,(UX fn a.tmps).run P w= .ok (.tuple #[]) w)/\∀w,(UX fn a.tmps).events P w #[]=#[]:=by
 constructor<;>intro w<;>simp[UX,b]
def jA (q:Array U)(n e:Nat):Array U:=q++#[.int .i64 (n:Int),.int .i64 (e:Int)]
section
variable {Post:U->F->Prop}{own:Nat->Prop}{w:F}{cu xb lp n e:Nat}{a0:V5}{cs:List Us}{q:Array U}{qa:U}{c:Us}{n0 e0:Nat}
def LW(m:Knows a0 18 [(0,.func (.yield lp) #[] #[]),(1,.pointer (I ⟨xb,0,K⟩))])(E:a0.defers=[])(F:tP JR own w)(H:own xb)(u:own cu)(R:xb≠cu)(M:w.heap[xb]? =I (.cells #[.pointer (I ⟨cu,0,K⟩)] 74 (0,0)))(v:q.size=6)(hc:w.heap[cu]? =I (.cells (jA q n e0) 119 (0,0)))
 (k t:Nat) (f:Array Bool) (b:V5) (l:cH (eu Wm) (λi=>decide (i<16)) a0 (fill a0 (OH cu++(Ji cu n e++FN cu xb lp qa))) f b) (p:∀i,(λi=>decide (i<=13/\i≠1/\i≠10)) i=Z->f.getD i T5=Z) (s:E4 f<=k)
 (G:∀w',zV JR own cu (.cells (jA q n e) 119 (0,0)) w w'->Xe aI T9 Post own (c.finish (.tuple #[])) cs w'):
 Xe aI T9 Post own ((base 53).at b [.inRegion (eu Wm) (U9 .any (eu Wm) k t f [])]) (c::cs) w:=by
 have h:=iq aI T9 Post;refine kL (Dn:=λi=>decide (i<=13/\i≠1/\i≠10)) (u:=16) h (by decide) m DE ?_ ?_ ?_ k t f b l p s
 ·intro a i g J p _ d;have O:i<16:=by simpa using J
  have P:¬(i<=13/\i≠1/\i≠10):=by simpa using p
  have:i=1\/i=10\/i=14\/i=15:=by omega
  rcases this with rfl|rfl|rfl|rfl
  ·cases(show I _=I g from d);exact⟨_,rfl,.inl ⟨rfl,bY Y (a.of Y) Tryz.isAgg74 (.inr H) (kH M Y)⟩⟩
  ·cases(show I _=I g from d);exact⟨_,rfl,.inl ⟨rfl,cy (kF Y (a.of Y) Y)⟩⟩
  ·cases(show I _=I g from d);exact⟨_,rfl,.inl ⟨rfl,cy (Gg Y (a.of Y))⟩⟩
  ·cases(show I _=I g from d);exact⟨_,rfl,.inl ⟨rfl,cy (di (off':=7) Y (a.of Y) Tryz.underlying119 Y Tryz.sizeOf27 Y)⟩⟩
 ·intro g d k t f b l x s Q _;have a:=m.fill (OH cu++(Ji cu n e++FN cu xb lp qa)) Y;have o:=gF (Dn:=λi=>decide (i<=16)) l x Jm (λj r=>by
   have:j<=16:=by simpa using r
   show j<17;omega)
  cases(show I _=I g from d);obtain⟨C,D⟩:=n8 l x rfl m.size DE (λj r=>o j (by
   have:j<17:=r;simp;omega))
  rw[D];subst C;refine r8 h F (n:=cu) (by decide) d Y u (.cells ((jA q n e0).toList.take 7++(VY .i64 (e:Int)).cells.toList++(jA q n e0).toList.drop (7+(VY .i64 (e:Int)).cells.size)).toArray 119) trivial (kY (n:=cu) (off:=7) (v:=.int .i64 (e:Int)) Y (a.of Y) (a.of Y) FZ (λS A=>by simp[WH] at A;rw[A];rfl) (Or.inr u) hc (by
   show 7+1<=(jA q n e0).size;simp[jA,v])) λN z=>?_
  refine ak h ?_;refine LC h ?_;have y:=Cz (P:=T9) (fn:=Wm) (a:=(fill a0 (OH cu++(Ji cu n e++FN cu xb lp qa))).put (eu Wm)[16].dst Vk) Tryz.results53;refine jd h Y (by rw[put_defers,ey];exact E) Tryz.func53 y.1 y.2 (G N ?_);have B:((jA q n e0).toList.take 7++(VY .i64 (e:Int)).cells.toList++(jA q n e0).toList.drop (7+(VY .i64 (e:Int)).cells.size)).toArray=jA q n e:=by
   apply Array.toList_inj.1;have L:q.toList.length=6:=by simpa using v
   simp[jA,WH,List.take_append,List.drop_append,L];rw[UO (by omega),List.drop_eq_nil_of_le (by omega)]
  rw[B] at z;exact z
 ·intro o;exact absurd (o 16 (by decide)) (by decide)
def FO(m:Knows a0 18 [(0,.func (.yield lp) #[] #[]),(1,.pointer (I ⟨xb,0,K⟩))])(r:a0.defers=[])(B:tP JR own w)(o:own xb)(v:own cu)(F:xb≠cu)(z:w.heap[xb]? =I (.cells #[.pointer (I ⟨cu,0,K⟩)] 74 (0,0)))(x:q.size=6)(hc:w.heap[cu]? =I (.cells (jA q n0 e0) 119 (0,0)))
 (j t:Nat) (h:Array Bool) (b:V5) (k:cH (eu Wm) (λi=>decide (i<13)) a0 (fill a0 (Ji cu n e++FN cu xb lp qa)) h b) (s:∀i,(λi=>decide (2<=i/\i<=7)) i=Z->h.getD i T5=Z) (D:E4 h<=j)
 (O:∀G w',zV JR own cu (.cells (jA q n e0) 119 (0,0)) w G->zV JR own cu (.cells (jA q n e) 119 (0,0)) G w'->Xe aI T9 Post own (c.finish (.tuple #[])) cs w'):
 Xe aI T9 Post own ((base 53).at b [.inRegion (eu Wm) (U9 .any (eu Wm) j t h [])]) (c::cs) w:=by
 have A:=iq aI T9 Post;refine kL (Dn:=λi=>decide (2<=i/\i<=7)) (u:=13) A (by decide) m DD ?_ ?_ ?_ j t h b k s D
 ·intro d i f Q s _ a;have V:i<13:=by simpa using Q
  have W:¬(2<=i/\i<=7):=by simpa using s
  have:i=0\/i=1\/i=8\/i=9\/i=10\/i=11\/i=12:=by omega
  rcases this with rfl|rfl|rfl|rfl|rfl|rfl|rfl
  ·cases(show I _=I f from a);exact⟨_,rfl,.inl ⟨rfl,bY Y (d.of Y) Tryz.isAgg74 (.inr o) (kH z Y)⟩⟩
  ·cases(show I _=I f from a);exact⟨_,rfl,.inl ⟨rfl,bY Y (d.of Y) Tryz.isAgg74 (.inr o) (kH z Y)⟩⟩
  ·cases(show I _=I f from a);exact⟨_,rfl,.inl ⟨rfl,cy (cg Y (d.of Y))⟩⟩
  ·cases(show I _=I f from a);exact⟨_,rfl,.inl ⟨rfl,cy (kF Y (d.of Y) Y)⟩⟩
  ·cases(show I _=I f from a);exact⟨_,rfl,.inl ⟨rfl,cy (kF Y (d.of Y) Y)⟩⟩
  ·cases(show I _=I f from a);exact⟨_,rfl,.inl ⟨rfl,cy (Gg Y (d.of Y))⟩⟩
  ·cases(show I _=I f from a);exact⟨_,rfl,.inl ⟨rfl,cy (di (off':=6) Y (d.of Y) Tryz.underlying119 Y X5 Y)⟩⟩
 ·intro f a j t h b k y D C _;have d:=m.fill (Ji cu n e++FN cu xb lp qa) Y;have p:=gF (Dn:=λi=>decide (i<=13/\i≠1/\i≠10)) k y Jl (λg u=>by
   have:g<=13/\g≠1/\g≠10:=by simpa using u
   show g<17;omega)
  cases(show I _=I f from a);have J:b.eval (.tmp 15)= .pointer (I ⟨cu,6,K⟩):=(C 15 (by decide)).trans (d.slot 15 _ Y);have H:b.eval (.tmp 12)= .int .i64 (n:Int):=(C 12 (by decide)).trans (d.slot 12 _ Y);refine r8 A B (n:=cu) (by decide) a Y v (.cells ((jA q n0 e0).toList.take 6++(VY .i64 (n:Int)).cells.toList++(jA q n0 e0).toList.drop (6+(VY .i64 (n:Int)).cells.size)).toArray 119) trivial (kY (n:=cu) (off:=6) (v:=.int .i64 (n:Int)) Y J H Mr (λX E=>by simp[WH] at E;rw[E];rfl) (Or.inr v) hc (by
   show 6+1<=(jA q n0 e0).size;simp[jA,x])) λT l=>?_
  have L:((jA q n0 e0).toList.take 6++(VY .i64 (n:Int)).cells.toList++(jA q n0 e0).toList.drop (6+(VY .i64 (n:Int)).cells.size)).toArray=jA q n e0:=by
   apply Array.toList_inj.1;have R:q.toList.length=6:=by simpa using x
   simp[jA,WH,List.take_append,List.drop_append,R]
  rw[L] at l;have M:=k.Ic (l2:=OH cu) (La:=λi=>decide (i<16)) (n:=18) (v:=Vk) y a m.size DD Y (λg u=>by
   have:g<13:=by simpa using u
   simp;omega) Y LU (λU r=>by cases r)
  refine LW (n:=n) (e:=e) (e0:=e0) (qa:=qa) m r (B.set l) o v F ((l.at_ xb (.inr o) F).trans z) x l.set j t _ _ M p ?_ λw' S=>O T w' l S;obtain⟨_,_,N,P,_⟩:=mem_ready y;have:=qX (by rw[k.size];exact N) P;omega
 ·intro p;exact absurd (p 13 (by decide)) (by decide)
end
def SY (J:List dx->(Nat->Prop)->F->Prop)(M0:Nat->Prop)(w0:F)(cu:Nat)(q:Array U)(b:List dx×Nat×Nat)(f:Xa)(w':F):Prop:=
 f= .returned (.tuple #[])/\(∃c,J b.1 c w'/\∀a,c a->M0 a\/w0.heap.size<=a)/\(∀a,a<w0.heap.size->¬M0 a->a≠cu->w'.heap[a]? =w0.heap[a]?)/\w'.heap[cu]? =I (.cells (jA q b.2.1 b.2.2) 119 (0,0))/\w0.heap.size<=w'.heap.size
section
variable {Post:U->F->Prop}{J:List dx->(Nat->Prop)->F->Prop}{Go:List dx->Bool}{w0:F}{M0:Nat->Prop}{lp cu xb:Nat}{l:List (bK×Int)}{bs:List Bd}{ah:List Int}{rs:List cE}{kb ck eb ce db:Nat}{dO:Option UJ}{cQ nh:Nat->Nat}{co:Option UJ}{cb bE aJ:Nat}{ro:Option UJ}{rb bh aN:Nat}{V:Nat->Nat->List aD}{dg n0 e0:Nat}{sk:Bool}
def Jj(C:Cons aI T9 Post lp J Go)(q:FQ l bs ah rs V)(i:J [] M0 w0)(hF:∀W,(∀b,b<w0.heap.size->¬M0 b->b≠cu->m6 W w0 b)->w0.heap.size<=W.heap.size->FM W l bs ah rs kb eb dO db cQ nh co cb bE ro rb bh)(a5:0<bs.length->¬M0 db)(Q:¬M0 cu)(a6:¬M0 xb)(bd:xb≠cu)
 (w:w0.heap[xb]? =I (.cells #[.pointer (I ⟨cu,0,K⟩)] 74 (0,0))) (hc:w0.heap[cu]? =I (.cells (jA (gE kb l.length ck eb l.length ce dO bs.length dg co ah.length aJ ro rs.length aN sk) n0 e0) 119 (0,0))):
 mh aI T9 Post 53 #[.func (.yield lp) #[] #[],.pointer (I ⟨xb,0,K⟩)] w0 (SY J M0 w0 cu (gE kb l.length ck eb l.length ce dO bs.length dg co ah.length aJ ro rs.length aN sk) (iV sk bs ah rs (aY l.length (ah++rs.map cE.col)) V Go 0 bs.length [] 0)):=by
 intro aa ab bb bA F ae;have N:=iq aI T9 Post;have S:cu<w0.heap.size:=(Ua.1 hc).1;have A:xb<w0.heap.size:=(Ua.1 w).1;have ao:=C.bound _ _ _ i;refine Xe.go (own:=λb=>b<w0.heap.size) ?_ (λb e=>e) F;rw[enter_at _ Tryz.func53 Y];have s:=Ta (.func (.yield lp) #[] #[]) (.pointer (I ⟨xb,0,K⟩)) 18 (by decide);have E:(⟨#[Value.func (.yield lp) #[] #[],.pointer (I ⟨xb,0,K⟩)]++U3 (18-2) Vk,[]⟩:V5).defers=[]:=rfl;have au:w0.rangeAt cu 0 (gE kb l.length ck eb l.length ce dO bs.length dg co ah.length aJ ro rs.length aN sk).toList:=λj v i=>by
  refine oD hc j v ?_;have a4:j<6:=(Uz.1 i).1;simp only[jA,Array.toList_append];rw[Vw (by simpa [gE] using a4)];exact i
 show Xe _ _ Post _ ((base 53).at ⟨#[Value.func (.yield lp) #[] #[],.pointer (I ⟨xb,0,K⟩)]++U3 (18-2) Vk,[]⟩ [.code (.region 0 (eu Wm) Z)]) (aa::ab) w0;generalize (⟨#[Value.func (.yield lp) #[] #[],.pointer (I ⟨xb,0,K⟩)]++U3 (18-2) Vk,[]⟩:V5)=bj at s E;generalize R:qv (.slice (I ⟨kb,0,K⟩) l.length ck) (.slice (I ⟨eb,0,K⟩) l.length ce) (.slice dO bs.length dg) (.slice co ah.length aJ) (.slice ro rs.length aN) sk=o;have a9:Value.agg (gE kb l.length ck eb l.length ce dO bs.length dg co ah.length aJ ro rs.length aN sk).toList.toArray=o:=by rw[<-R];rfl
 refine qB (Ph:=λc=>decide (c<7)) (l:=FN cu xb lp o) N qZ ?_;refine kL (u:=7) N (by decide) s DC ?_ ?_ ?_
 ·intro h c g F _ _ d;have bo:c<7:=by simpa using F
  have:c=0\/c=1\/c=2\/c=3\/c=4\/c=5\/c=6:=by omega
  rcases this with rfl|rfl|rfl|rfl|rfl|rfl|rfl
  ·cases(show I _=I g from d);exact⟨_,rfl,.inl ⟨rfl,bY Y (h.of Y) Tryz.isAgg74 (.inr A) (kH w Y)⟩⟩
  ·cases(show I _=I g from d);exact⟨_,rfl,.inl ⟨rfl,bY Y (h.of Y) Tryz.isAgg74 (.inr A) (kH w Y)⟩⟩
  ·cases(show I _=I g from d);exact⟨_,rfl,.inl ⟨rfl,bY Y (h.of Y) Tryz.isAgg74 (.inr A) (kH w Y)⟩⟩
  ·cases(show I _=I g from d);exact⟨_,rfl,.inl ⟨rfl,cy (Gg Y (h.of Y))⟩⟩
  ·cases(show I _=I g from d);exact⟨_,rfl,.inl ⟨rfl,cy (di (off':=0) Y (h.of Y) Tryz.underlying119 Y Tryz.sizeOf115 Y)⟩⟩
  ·cases(show I _=I g from d);exact⟨_,rfl,.inl ⟨rfl,JY (cs:=(gE kb l.length ck eb l.length ce dO bs.length dg co ah.length aJ ro rs.length aN sk).toList) Y (h.of Y) WE Y uH (.inr S) au a9⟩⟩
  ·cases(show I _=I g from d);exact⟨_,rfl,.inl ⟨rfl,cy (cg Y (h.of Y))⟩⟩
 ·intro g d ad be b0 b y G bx P _;have h:=s.fill (FN cu xb lp o) Y;have aw:=gF (Dn:=λc=>decide (2<=c/\c<=7)) y G Jk (λj i=>by
   have:2<=j/\j<=7:=by simpa using i
   show j<17;omega)
  have ap:b.defers=[]:=by rw[y.R6,ey];exact E
  cases(show I _=I g from d);have X:b.eval (.tmp 9)=o:=(P 9 (by decide)).trans (h.slot 9 _ Y);have U:b.eval (.tmp 10)= .func (.yield lp) #[] #[]:=(P 10 (by decide)).trans (h.slot 10 _ Y);refine sC (R:=λr=>Qr J M0 r (iV sk bs ah rs (aY l.length (ah++rs.map cE.col)) V Go 0 bs.length [] 0)) (vs:= #[o,.func (.yield lp) #[] #[]]) Y d Y Y (xI X U) Tryz.func54 R1 Y (Q4 ap) (λr f=>?_) (λr v B f bc H a7=>?_) (λr bl bi ⟨k,_⟩=>by cases k) (λr bi ⟨k,_⟩=>by cases k)
  ·have a1:=C.j7 _ _ _ r i (λb a=>f.at_ b (ao b a)) f.size;rw[<-R];exact Gz C q a1 (λW am ba=>hF W (λb a t _ g d al=>am b (Uc a f.size) t g ((f.at_ b a).trans d) al) (Ux f.size ba)) a5
  ·obtain⟨k,L,M,a2,bB,O⟩:=bc;cases k;generalize iV sk bs ah rs (aY l.length (ah++rs.map cE.col)) V Go 0 bs.length [] 0=p at*;have b1:=f.size;have D:∀b,b<w0.heap.size->¬M0 b->B.heap[b]? =w0.heap[b]? :=λb a t=>(a2 b (by omega) t).trans (f.at_ b a);have az:=y.Ic (l2:=Ji cu p.2.1 p.2.2) (La:=λc=>decide (c<13)) (n:=18) (v:=.tuple #[.int .i64 (p.2.1:Int),.int .i64 (p.2.2:Int)]) G d s.size DC Y (λj i=>by
    have:j<7:=by simpa using i
    simp;omega) Y LS (λbm av=>by cases av;rfl)
   have ar:¬L cu:=λe=>(O cu e).elim Q (λe=>by omega);refine Xe.go (own:=λb=>b<B.heap.size) ?_ (λb e=>e) a7;refine FO (n:=p.2.1) (e:=p.2.2) (n0:=n0) (e0:=e0) (qa:=o) s E (λb a=>a.elim Yq (λe=>e)) (by show xb<_;omega) (by show cu<_;omega) bd ((D xb A a6).trans w) Y ((D cu S Q).trans hc) ad be _ _ az aw ?_ λb2 b3 u n=>?_
   ·obtain⟨_,_,a0,a3,_⟩:=mem_ready G;have:=qX (by rw[y.size];exact a0) a3;omega
   ·intro bv T m a8;have br:=u.size;have bt:=n.size;have bu:=m.size;have x:∀b,b<B.heap.size->b≠cu->T.heap[b]? =B.heap[b]? :=λb a z=>(m.at_ b a).trans ((n.at_ b (.inr a) z).trans (u.at_ b (.inr a) z));refine ae _ T ⟨rfl,⟨L,C.j7 _ _ _ _ M (λb a=>x b (C.bound _ _ _ M b a) (λk=>ar (k▸a))) (by omega),λb a=>(O b a).imp (λe=>e) (λe=>by omega)⟩,λb a t z=>(x b (by omega) z).trans (D b a t),(m.at_ cu (by show cu<_;omega)).trans n.set,by omega⟩ a8 ⟨?_,?_,?_,by omega⟩ (n7 bb _)
    ·rw[m.tape,n.tape,u.tape,H.tape,f.tape]
    ·rw[m.os,n.os,u.os,H.os,f.os]
    ·rw[m.output,n.output,u.output,H.output,f.output]
 ·intro x;exact absurd (x 16 (by decide)) (by decide)
end
end Cc
namespace Cc
open Go Go.Conc
open Ec (aD aG)
section
variable {P:Ue}{ops:Array Vu}{Q:Exit->V5->F->Prop}{i:Nat}{rest:List Nat}{o:Vu}{a:V5}{w w':F}{v:U}
def xy{rest:List Vu}(c:UF o (Vj ops a.tmps)=Z)(b:(UH a.eval o).run P w= .ok (.value v) w')(h:wpList P ops Q rest (a.put o.dst v) w'):wpList P ops Q (o::rest) a w:=by
 simp only[wpList,c,if_true]
 left
 unfold Oper.wp;rw[b];exact h
def Ob{rest:List Vu}(c:UF o (Vj ops a.tmps)=Z)(b:(UH a.eval o).run P w= .ok .skip w')(h:wpList P ops Q rest (a.put o.dst Vk) w'):wpList P ops Q (o::rest) a w:=by
 simp only[wpList,c,if_true]
 left
 unfold Oper.wp;rw[b];exact h
def wu(h:wpList P ops Q ops.toList a w):wpOps P ops Q (UK ops.size) a w:=by
 rw[List.range_eq_range',<-Array.length_toList,wpOps_eq_wpList ops.toList 0 (by simp)];exact h
def Ez{t e:Ug}{x:U6}{b:TypeInfo}{z:U}(j:o.op= .buildSlice t 1 #[(0,x)])(n:a.eval x=v)(m:v.cells=#[v])(l:P.underlying t=I (.slice e))(h:P.info? e=I b)(p:b.zero=I z)(r:z.cells.size=1)(c:b.size=1):(UH a.eval o).run P w= .ok (.value (.slice (I ⟨w.heap.size,0,K⟩) 1 1)) (w.alloc (.cells #[v] e)):=by
 have g:X7 (λf=>I (f*b.size,b.size)) ((Yp (1*b.size)).map (z.cells[· % z.cells.size]!)) #[(0,v)].toList=I #[v]:=by
  rw[c];simp[X7,m,Yp,Array.zipIdx];apply Array.ext
  ·simp
  ·intro f q d;simp at d;subst d;simp
 have k:=run_buildSlice (P:=P) w t e 1 #[(0,v)] #[v] b z l h p (by rw[c];decide) (by rw[c];decide) g;unfold UH;simp[j,n,k]
end
structure lK(l D rb:Nat)(r:Loop)(pre:List dx)(M:Nat->Prop)(W:F):Prop where
 st:r.state= .ready
 pn:r.pending=K
 hl:W.heap[l]? =I (.loop r)
 hD:W.heap[D]? =I (.deferred (I []))
 ex:∃(rv:U) (vs:List U),W.heap[rb]? =I (.cells #[rv] 26 (0,0))/\W.ownsRow 0 43 1 rv pre.length vs/\(∀(i:Nat) (x:dx),pre[i]? =I x->∃v,vs[i]? =I v/\v.oneCell'=Z/\W.ownsRow 0 59 3 v x.2.length (aG x.2))/\(∀(i j:Nat) v u g,vs[i]? =I v->vs[j]? =I u->v.ownBlock=I g->u.ownBlock=I g->i=j)/\∀b,M b↔b=l\/b=D\/b=rb\/I b=rv.ownBlock\/∃v∈vs,I b=v.ownBlock
def K6:∃i,aI.info? 43=I i/\i.zero=I aO/\i.size=1/\i.bytes=24:=⟨Tryz.t43,by kernel_rfl,rfl,rfl,rfl⟩
def GA:(aI.info? 26).map (·.size)=I 1:=by kernel_rfl
def eg (fn:WC):Array Vu:=match fn.body with
 |some (.seq _ (.seq _ (.seq _ (.seq _ (.seq (.seq _ (.block _ (.rangeFunc _ _ _ (.block _ (.region _ ops _))))) _)))))=>ops
 |_=> #[]
def qL{v:U}{W:F}{base:Nat}{e:Ug}{b n:Nat}{c:List U}(h:W.ownsRow base e b v n c):v.cells=#[v]/\v.oneCell'=Z:=by
 rcases h.2 with⟨rfl,_⟩|⟨g,d,f,rfl,_⟩
 ·exact⟨rfl,rfl⟩
 ·exact⟨rfl,rfl⟩
def Nv{W:F}{a:V5}{rb n:Nat}{e v:U}{vs:List U}{Q:Exit->V5->F->Prop}(d:Knows a 40 [(14,v),(12,.pointer (I ⟨rb,0,K⟩))])(s:W.heap[rb]? =I (.cells #[e] 26 (0,0)))(G:W.ownsRow 0 43 1 e n vs)(ap:v.cells=#[v])(ar:v.oneCell'=Z)(az:n<=2000)
 (T:∀a' W' f,W'.heap[rb]? =I (.cells #[f] 26 (0,0))->W'.ownsRow 0 43 1 f (n+1) (vs++[v])->(∀b,b<W.heap.size->b≠rb->I b≠e.ownBlock->W'.heap[b]? =W.heap[b]?)->W.heap.size<=W'.heap.size->(∀b,I b=f.ownBlock->I b=e.ownBlock\/W.heap.size<=b)->Q .normal a' W'):wpOps aI (eg VT) Q (UK (eg VT).size) a W:=by
 obtain⟨au,E,M,J,V⟩:=K6;have aw:rb<W.heap.size:=(Ua.1 s).1;refine wu ?_;refine xy Y ((bY (S:=JR) (own:=λ_=>True) Y (d.of Y) (λw=>by simp) (.inr trivial) (kH s Y) W (RelB.refl _ _)).1) ?_;replace d:=d.put (d:=30) (by decide) e;refine xy Y ((cg Y (d.of Y) W).1) ?_;replace d:=d.put (d:=31) (by decide) v;refine xy Y (Ez Y (d.of Y) ap an.underlying26 E M Y J) ?_;replace d:=d.put (d:=32) (by decide) (.slice (I ⟨W.heap.size,0,K⟩) 1 1);have z:∀c,c<W.heap.size->(W.alloc (.cells #[v] 43)).heap[c]? =W.heap[c]? :=λc h=>by
  show(W.heap.push _)[c]? =_;rw[VB,if_neg (by omega)]
 have ae:(W.alloc (.cells #[v] 43)).ownsRow 0 43 1 e n vs:=jV G (T6 _) λc _ _ h=>z c h;have aa:∀A q,[v][A]? =I q->(W.alloc (.cells #[v] 43)).cell? (Yr ⟨W.heap.size,0,K⟩ A)=I q:=λA q X=>by
  rw[Xc];unfold Ur;have:(W.alloc (.cells #[v] 43)).heap[W.heap.size]? =I (.cells #[v] 43 (0,0)):=by
   show(W.heap.push _)[W.heap.size]? =_;simp
  simp only[this,UT];simpa using X
 have L:(W.alloc (.cells #[v] 43)).heap.size=W.heap.size+1:=by simp
 refine Pk.aT (W.alloc (.cells #[v] 43)) Y _ _ 26 Y 0 43 au aO 1 24 an.underlying26 E M J V Y (by decide) e n vs (d.of Y) ae ⟨W.heap.size,0,K⟩ 1 1 [v] (d.of Y) (by decide) Y aa (λq m=>by simp at m;rw[m];exact ar) (by unfold Up;omega) (by omega) (UE _) λf l y u=>?_;replace d:=d.put (d:=33) (by decide) f;have al:∀c,e.ownBlock=I c->c≠rb:=λc h k=>by
  rcases G.2 with⟨rfl,_⟩|⟨S,N,O,rfl,_,p,_⟩
  ·cases h
  ·cases h;subst k;rw[s] at p;cases p
 have D:∀b,b<W.heap.size->I b≠e.ownBlock->l.heap[b]? =W.heap[b]? :=λb j x=>by
  rcases u with⟨g,_⟩|⟨_,g⟩
  ·exact(g.block b (by omega) (by simp)).trans (z b j)
  ·exact(g.block b (by omega) x).trans (z b j)
 have a0:W.heap.size+1<=l.heap.size:=by
  rcases u with⟨g,_⟩|⟨_,g⟩
  ·rw[<-L];exact g.size
  ·rw[<-L];exact g.size
 have H:=(D rb aw (λk=>al rb k.symm Y)).trans s;obtain⟨r,ad⟩:=qL y;obtain⟨B,ao,t,_⟩:=kY (P:=an.of T9) (S:=JR) (own:=λ_=>True) (a:=((((a.put (I 30) e).put (I 31) v).put (I 32) (.slice (I ⟨W.heap.size,0,K⟩) 1 1)).put (I 33) f)) (o:=(eg VT)[4]) (w:=l) (n:=rb) (off:=0) (v:=f) rfl (d.of rfl) (d.of rfl) (by rw[r];exact GA) (λq m=>by rw[r] at m;simp at m;rw[m];exact ad) (Or.inr trivial) H (by rw[r];exact T6 1) l (RelB.refl _ _);refine Ob Y ao ?_;have R:((#[e]:Array U).toList.take 0++f.cells.toList++(#[e]:Array U).toList.drop (0+f.cells.size)).toArray=#[f]:=by rw[r];rfl
 rw[R] at t;have av:rb<l.heap.size:=by omega
 have C:∀b:Nat,b≠rb->B.heap[b]? =l.heap[b]? :=λb j=>by rw[t.heap,UP,if_neg (λk=>j k.symm)]
 have am:∀c,f.ownBlock=I c->c≠rb:=λc h k=>by
  rcases y.2 with⟨rfl,_⟩|⟨S,N,O,rfl,_,p,_⟩
  ·cases h
  ·cases h;subst k;rw[H] at p;cases p
 refine T _ B f (by rw[t.heap,UP,if_pos Y,if_pos av]) (jV y (T6 _) λc h _ _=>C c (am c h)) (λb j x ab=>(C b x).trans (D b j ab)) (by rw[t.heap];simp;omega) λb j=>?_;rcases u with⟨_,g⟩|⟨g,_⟩
 ·exact .inr (by have:=(tc g j.symm).1;omega)
 ·exact .inl (by rw[<-g];exact j)
def fR (fn:WC):Array Vu:=match fn.body with
 |some (.seq _ (.seq _ (.seq _ (.seq _ (.seq (.seq _ (.block _ (.rangeFunc _ _ (.region _ a _) _))) _)))))=>a
 |_=> #[]
structure qA(r:Loop)(rb:Nat):Prop where
 ps:r.params=#[28,29]
 TI:r.assign= .region 6 (fR VT) T5
 bd:r.body= .block 1 (.region 7 (eg VT) T5)
 sz:r.tmps.size=40
 kn:r.tmps.getD 12 Vk= .pointer (I ⟨rb,0,K⟩)
def PU:((eg VT).toList.all λo=> !B4 o.op)=Z:=by kernel_rfl
def Nu:((fR VT).toList.all λo=> !B4 o.op)=Z:=by kernel_rfl
def xG (l D rb:Nat)(r:Loop)(pre:List dx)(b:Nat->Prop)(W:F)(nm:Nat)(d:List aD)(v:U)(W':F):Prop:=
 ∃c,lK l D rb r (pre++[(nm,d)]) c W'/\(∀a,a<W.heap.size->¬b a->I a≠v.ownBlock->W'.heap[a]? =W.heap[a]?)/\∀a,c a->b a\/I a=v.ownBlock\/W.heap.size<=a
def lK.sh{l D rb:Nat}{r:Loop}{pre:List dx}{a:Nat->Prop}{W:F}(h:lK l D rb r pre a W){W':F}(e:W'.heap=W.heap):lK l D rb r pre a W':=by
 obtain⟨g,i,j,k,u,w,m,n,o,p,q⟩:=h;refine⟨g,i,by rw[e];exact j,by rw[e];exact k,u,w,by rw[e];exact m,jV n (T6 _) (λf _ _ _=>by rw[e]),λt x s=>?_,p,q⟩;obtain⟨v,b,c,d⟩:=o t x s;exact⟨v,b,c,jV d (T6 _) (λf _ _ _=>by rw[e])⟩
def lK.keeps{l D rb:Nat}{r:Loop}{pre:List dx}{e:Nat->Prop}{W W':F}(h:lK l D rb r pre e W)(d:∀b,e b->W'.heap[b]? =W.heap[b]?):lK l D rb r pre e W':=by
 obtain⟨k,m,n,o,x,y,p,q,s,t,a⟩:=h;refine⟨k,m,(d l ((a l).2 (.inl Y))).trans n,(d D ((a D).2 (.inr (.inl Y)))).trans o,x,y,(d rb ((a rb).2 (.inr (.inr (.inl Y))))).trans p,jV q (T6 _) (λc f _ _=>d c ((a c).2 (.inr (.inr (.inr (.inl f.symm)))))),λw z u=>?_,t,a⟩;obtain⟨v,g,i,j⟩:=s w z u;exact⟨v,g,i,jV j (T6 _) (λc f _ _=>d c ((a c).2 (.inr (.inr (.inr (.inr ⟨v,VD g,f.symm⟩))))))⟩
def Kt{l D rb:Nat}{r:Loop}{pre:List dx}{E:Nat->Prop}{W t A:F}{nm:Nat}{S:List aD}{v y:U}{vs:List U}{h:U}(h1:r.state= .ready)(a4:r.pending=K)(L:W.heap[l]? =I (.loop r))(m:W.heap[D]? =I (.deferred (I [])))(ae:W.heap[rb]? =I (.cells #[h] 26 (0,0)))(M:W.ownsRow 0 43 1 h pre.length vs)
 (a5:∀(i:Nat) (x:dx),pre[i]? =I x->∃v,vs[i]? =I v/\v.oneCell'=Z/\W.ownsRow 0 59 3 v x.2.length (aG x.2)) (a6:∀(i j:Nat) v u g,vs[i]? =I v->vs[j]? =I u->v.ownBlock=I g->u.ownBlock=I g->i=j) (d:∀b,E b↔b=l\/b=D\/b=rb\/I b=h.ownBlock\/∃v∈vs,I b=v.ownBlock)
 (ap:W.ownsRow 0 59 3 v S.length (aG S)) (ao:∀g,v.ownBlock=I g->¬E g)
 (a2:t.heap[rb]? =I (.cells #[y] 26 (0,0))) (g2:t.ownsRow 0 43 1 y (pre.length+1) (vs++[v])) (J:∀b,b<W.heap.size->b≠l->b≠rb->I b≠h.ownBlock->t.heap[b]? =W.heap[b]?) (br:W.heap.size<=t.heap.size) (a3:∀b,I b=y.ownBlock->I b=h.ownBlock\/W.heap.size<=b) (ad:A.heap=t.heap.setIfInBounds l (.loop r)) (bd:l≠rb) (bu:∀g,h.ownBlock=I g->g≠l) (be:∀g,y.ownBlock=I g->g≠l):xG l D rb r pre E W nm S v A:=by
 have bt:l<W.heap.size:=(Ua.1 L).1;have a7:D<W.heap.size:=(Ua.1 m).1;have z:∀b:Nat,b≠l->A.heap[b]? =t.heap[b]? :=λb e=>by rw[ad,UP,if_neg (λa=>e a.symm)]
 have aa:D≠l:=λa=>by rw[a,L] at m;cases m
 have a0:D≠rb:=λa=>by rw[a,ae] at m;cases m
 have a1:I D≠h.ownBlock:=λa=>by
  rcases M.2 with⟨rfl,_⟩|⟨ab,aw,az,rfl,_,f,_⟩
  ·cases a
  ·cases a;rw[m] at f;cases f
 have bi:∀u q s,W.ownsRow 0 59 3 u q s->∀g,u.ownBlock=I g->g<W.heap.size/\g≠l/\g≠rb/\I g≠h.ownBlock:=λu q s c g w=>by
  rcases c.2 with⟨rfl,_⟩|⟨ab,aw,az,rfl,_,f,_⟩
  ·cases w
  ·have N:g=ab:=(by cases w;rfl);subst N;refine⟨(Ua.1 f).1,(λa=>by rw[a,L] at f;cases f),(λa=>by rw[a,ae] at f;cases f),λa=>?_⟩;rcases M.2 with⟨rfl,_⟩|⟨g2,bj,bl,rfl,_,a8,_⟩
   ·cases a
   ·have N:g=g2:=(by cases a;rfl);subst N;rw[a8] at f;cases f
 have au:∀u q s,W.ownsRow 0 59 3 u q s->A.ownsRow 0 59 3 u q s:=λu q s c=>jV c (T6 _) λg w _ _=>by
  obtain⟨G,B,H,av⟩:=bi u q s c g w;exact(z g B).trans (J g G B H av)
 have bc:vs.length=pre.length:=by have:=M.1;simpa using this
 refine⟨λb=>b=l\/b=D\/b=rb\/I b=y.ownBlock\/∃u∈vs++[v],I b=u.ownBlock,⟨h1,a4,by rw[ad,UP,if_pos Y,if_pos (by omega)],(z D aa).trans ((J D a7 aa a0 a1).trans m),y,vs++[v],(z rb (λa=>bd a.symm)).trans a2,?_,λi x o=>?_,λi j u T g c bb R Q=>?_,λb=>Iff.rfl⟩,λb e P bs=>?_,λb e=>?_⟩
 ·rw[T8];exact jV g2 (T6 _) λg w _ _=>z g (be g w)
 ·rcases Vy i pre.length with O|O
  ·rw[Vw O] at o;obtain⟨u,G,B,H⟩:=a5 i x o;exact⟨u,by rw[Vw (by omega)];exact G,B,au u _ _ H⟩
  ·rw[Vo O] at o;have al:i-pre.length=0:=by
    have:=(Uz.1 o).1;simp at this;omega
   rw[al] at o;simp at o;subst o;refine⟨v,?_,(qL ap).2,au v _ _ ap⟩;rw[Vo (by omega),bc,al];rfl
 ·have ar:∀(p:Nat) C,(vs++[v])[p]? =I C->(p<vs.length/\vs[p]? =I C)\/(p=vs.length/\C=v):=λp C n=>by
   rcases Vy p vs.length with k|k
   ·rw[Vw k] at n;exact .inl ⟨k,n⟩
   ·rw[Vo k] at n;have:p-vs.length=0:=by
     have:=(Uz.1 n).1;simp at this;omega
    rw[this] at n;simp at n;exact .inr ⟨by omega,n.symm⟩
  rcases ar i u c with⟨_,V⟩|⟨bm,rfl⟩<;>rcases ar j T bb with⟨_,X⟩|⟨bo,rfl⟩
  ·exact a6 i j u T g V X R Q
  ·exact absurd ((d g).2 (.inr (.inr (.inr (.inr ⟨u,VD V,R.symm⟩))))) (ao g Q)
  ·exact absurd ((d g).2 (.inr (.inr (.inr (.inr ⟨T,VD X,Q.symm⟩))))) (ao g R)
  ·omega
 ·have am:b≠l:=λa=>P ((d b).2 (.inl a));have a9:b≠rb:=λa=>P ((d b).2 (.inr (.inr (.inl a))));have ba:I b≠h.ownBlock:=λa=>P ((d b).2 (.inr (.inr (.inr (.inl a)))));exact(z b am).trans (J b e am a9 ba)
 ·rcases e with rfl|rfl|rfl|e|⟨u,c,e⟩
  ·exact .inl ((d _).2 (.inl Y))
  ·exact .inl ((d _).2 (.inr (.inl Y)))
  ·exact .inl ((d _).2 (.inr (.inr (.inl Y))))
  ·rcases a3 b e with k|k
   ·exact .inl ((d b).2 (.inr (.inr (.inr (.inl k)))))
   ·exact .inr (.inr k)
  ·rcases U1.1 c with c|c
   ·exact .inl ((d b).2 (.inr (.inr (.inr (.inr ⟨u,c,e⟩)))))
   ·simp at c;subst c;exact .inr (.inl e)
def Ks{l D rb:Nat}{r:Loop}{pre:List dx}{A:Nat->Prop}{W:F}{nm:Nat}{P:List aD}{v:U}(o:qA r rb)(av:lK l D rb r pre A W)(bm:pre.length<2000)(N:W.ownsRow 0 59 3 v P.length (aG P))(a3:∀g,v.ownBlock=I g->¬A g)(c:Us)(cs:List Us)(f:Tp):
 ∃W',xG l D rb r pre A W nm P v W'/\Steps aI (lone (WW l r.fn ((r.params.zip #[.int .i64 (nm:Int),v]).foldl (λtmps (t,a)=>tmps.setIfInBounds t a) r.tmps) r.assign r.body .normal) (c::cs) (sh f 0 W)) (lone (c.finish (.bool Z)) cs W'):=by
 obtain⟨w,H,k,ao,Q,ad,J,L,ap,ar,au⟩:=av;let b:Us:={(default:Us) with fn:=r.fn,kind:=.normal,roundOf:=I l};let p:V5:={tmps:=(r.params.zip #[.int .i64 (nm:Int),v]).foldl (λtmps (t,a)=>tmps.setIfInBounds t a) r.tmps,defers:=[]};have aw:WW l r.fn ((r.params.zip #[.int .i64 (nm:Int),v]).foldl (λtmps (t,a)=>tmps.setIfInBounds t a) r.tmps) r.assign r.body .normal=b.atR p [.code r.assign,.beginRound,.code r.body]:=by
  simp[WW,Frame.atR,b,p]
 have O:l≠rb:=λd=>by rw[d,J] at k;cases k
 have a1:l<W.heap.size:=(Ua.1 k).1;have x:∀g,Q.ownBlock=I g->g≠l:=λg n d=>by
  rcases L.2 with⟨rfl,_⟩|⟨al,bj,bl,rfl,_,T,_⟩
  ·cases n
  ·have a0:g=al:=(by cases n;rfl);subst a0;rw[d,k] at T;cases T
 have y:Knows p 40 [(29,v),(12,.pointer (I ⟨rb,0,K⟩))]:=by
  have d:p.tmps=(r.tmps.setIfInBounds 28 (.int .i64 (nm:Int))).setIfInBounds 29 v:=by
   show(r.params.zip #[.int .i64 (nm:Int),v]).foldl (λtmps (t,a)=>tmps.setIfInBounds t a) r.tmps=_;rw[o.ps];simp
  refine Knows.cons (Knows.cons (l:=[]) ⟨?_,λs v e=>by simp at e⟩ ?_) ?_
  ·rw[d];simp[o.sz]
  ·unfold aW;rw[d,UD,UP,if_neg (by decide),UP,if_neg (by decide),<-UD];exact o.kn
  ·unfold aW;rw[d,UD,UP,if_pos Y,if_pos (by simp[o.sz])];rfl
 rw[aw,o.TI,o.bd];generalize p=a at y;have a7:=stepR_region (P:=an.of T9) (b:=b) (a:=a) (k:=[.beginRound,.code (.block 1 (.region 7 (eg VT) T5))]) (cs:=c::cs) (w:=sh f 0 W) (ops:=fR VT) (id:=6);obtain⟨bi,bo,⟨rfl,rfl⟩,X⟩:=QE (P0:=an.of T9) (b:=b) (k:=[.beginRound,.code (.block 1 (.region 7 (eg VT) T5))]) (cs:=c::cs) (ops:=fR VT) (Q:=λd B bd=>match d with| .normal=>B=a.put (I 14) v/\bd=sh f 0 W|_=>False) [] Nu (λ_ _ _ e=>e) (fun⟨_,_,e⟩=>e) (UK (fR VT).size) a (sh f 0 W) (wu (xy rfl ((kE rfl (y.of rfl) (sh f 0 W)).1) ⟨rfl,rfl⟩));rw[Wr] at X;have a8:=stepR_region_end (P:=an.of T9) (b:=b) (a:=a.put (I 14) v) (k:=[.beginRound,.code (.block 1 (.region 7 (eg VT) T5))]) (cs:=c::cs) (w:=sh f 0 W) (ops:=fR VT);have m:=run_beginRound (P:=an.of T9) (w:=sh f 0 W) (l:=l) (r:=r) k w;have aa:=stepR_beginRound (P:=an.of T9) (b:=b) (a:=a.put (I 14) v) (k:=[.code (.block 1 (.region 7 (eg VT) T5))]) (cs:=c::cs) (w:=sh f 0 W) Y m;generalize M:(sh f 0 W).putObj l (.loop {r with state:=.busy})=h at aa;have R:∀b:Nat,b≠l->h.heap[b]? =W.heap[b]? :=λb m=>by rw[<-M];exact World.putObj_heap_other (w:=sh f 0 W) m
 have be:h.heap[l]? =I (.loop {r with state:=.busy}):=by rw[<-M];exact World.putObj_heap_same (w:=sh f 0 W) a1
 have br:h.heap.size=W.heap.size:=by rw[<-M];exact World.putObj_size (w:=sh f 0 W)
 have a9:=stepR_block (P:=an.of T9) (b:=b) (a:=a.put (I 14) v) (k:=[]) (cs:=c::cs) (w:=h) (id:=1) (c:=.region 7 (eg VT) T5);have ba:=stepR_region (P:=an.of T9) (b:=b) (a:=a.put (I 14) v) (k:=[.inBlock 1]) (cs:=c::cs) (w:=h) (ops:=eg VT) (id:=7);have z:=y.put (d:=14) (by decide) v;obtain⟨C,j,⟨i,E,G,q,S,u⟩,ab⟩:=QE (P0:=an.of T9) (b:=b) (k:=[.inBlock 1]) (cs:=c::cs) (ops:=eg VT) (Q:=λd B W'=>match d with| .normal=>∃i,W'.heap[rb]? =I (.cells #[i] 26 (0,0))/\W'.ownsRow 0 43 1 i (pre.length+1) (ad++[v])/\(∀b,b<h.heap.size->b≠rb->I b≠Q.ownBlock->W'.heap[b]? =h.heap[b]?)/\h.heap.size<=W'.heap.size/\(∀b,I b=i.ownBlock->I b=Q.ownBlock\/h.heap.size<=b)|_=>False) [] PU (λ_ _ _ e=>e) (fun⟨_,_,e⟩=>e) (UK (eg VT).size) (a.put (I 14) v) h (Nv (n:=pre.length) (vs:=ad) ((z.nil.cons (z.slot 12 _ rfl)).cons (z.slot 14 _ rfl)) ((R rb (λd=>O d.symm)).trans J) (jV L (T6 _) λg n _ _=>R g (x g n)) (qL N).1 (qL N).2 (by omega) λB W' i E G q S u=>⟨i,E,G,q,S,u⟩);rw[Wr] at ab;have a6:∀g,i.ownBlock=I g->g≠l:=λg n d=>by
  rcases u g n.symm with e|e
  ·exact x g e.symm d
  ·omega
 have am:j.heap[l]? =I (.loop {r with state:=.busy}):=(q l (by omega) O (λd=>x l d.symm Y)).trans be;have bb:=stepR_region_end (P:=an.of T9) (b:=b) (a:=C) (k:=[.inBlock 1]) (cs:=c::cs) (w:=j) (ops:=eg VT);have bc:=stepR_inBlock (P:=an.of T9) (b:=b) (a:=C) (k:=[]) (cs:=c::cs) (w:=j) (id:=1);have az:=run_endRound (P:=an.of T9) (w:=j) (l:=l) (r:={r with state:=.busy}) K am;have V:=stepR_round_end (P:=an.of T9) (b:=b) (a:=C) (cs:=cs) (w:=j) (c:=c) Y Y az;have ae:({({r with state:=.busy}:Loop) with state:=if (K:Option WU).isNone then .ready else .done,pending:=K}:Loop)=r:=by
  obtain⟨bs,bt,bu,bv,bx,bA,bB,b0⟩:=r;simp only at w H;subst w H;rfl
 rw[ae] at V;refine⟨j.putObj l (.loop r),Kt w H k ao J L ap ar au N a3 E G (λb m a2 a4 a5=>(q b (by omega) a4 a5).trans (R b a2)) (by omega) (λb m=>(u b m).imp (λe=>e) (λe=>by omega)) Y O x a6,?_⟩;exact .head a7 (X.trans (.head a8 (.head aa (.head a9 (.head ba (ab.trans (.head bb (.head bc (.one V)))))))))
def Bi:bp aI Z (.region 6 (fR VT) T5)=Z/\bp aI Z (.block 1 (.region 7 (eg VT) T5))=Z:=⟨by kernel_rfl,by kernel_rfl⟩
def zk{r:Loop}{rb:Nat}(b:qA r rb)(c:r.pending=K):bn aI (.loop r):=⟨by rw[b.TI];exact Bi.1,by rw[b.bd];exact Bi.2,λd a=>by rw[c] at a;cases a⟩
def Cd{P0:Ue}{ws w:F}{base:Nat}{e:Ug}{b:Nat}{v:U}{n:Nat}{c:List U}(l:Mk P0 ws w)(h:w.ownsRow base e b v n c):ws.ownsRow base e b v n c:=by
 obtain⟨a,h|⟨g,d,f,rfl,i,j,k⟩⟩:=h
 ·exact⟨a,.inl h⟩
 ·exact⟨a,.inr ⟨g,d,f,rfl,i,l.un.row.2 j,k⟩⟩
def lK.Rg{l D rb:Nat}{r:Loop}{pre:List dx}{b:Nat->Prop}{W ws:F}(h:lK l D rb r pre b W)(s:qA r rb)(a:Mk aI ws W):lK l D rb r pre b ws:=by
 obtain⟨g,c,i,j,w,x,k,m,n,o,p⟩:=h;refine⟨g,c,a.at_ l _ i (zk s c),a.at_ D _ j (λz q=>by cases q),w,x,a.un.row.2 k,Cd a m,λu y t=>?_,o,p⟩;obtain⟨v,d,e,f⟩:=n u y t;exact⟨v,d,e,Cd a f⟩
def lK.RK{l D rb:Nat}{r:Loop}{pre:List dx}{b:Nat->Prop}{W u:F}(h:lK l D rb r pre b W)(y:qA r rb)(a:Un W u):lK l D rb r pre b u:=by
 obtain⟨f,g,i,j,t,w,k,m,n,o,p⟩:=h;refine⟨f,g,a.o i (by simp[pz]),a.o j (by simp[pz]),t,w,a.row.1 k,Cf a m,λs x q=>?_,o,p⟩;obtain⟨v,c,d,e⟩:=n s x q;exact⟨v,c,d,Cf a e⟩
def Kr{Post:U->F->Prop}{l D rb:Nat}{r:Loop}(e:qA r rb):Cons aI T9 Post l (lK l D rb r) (λ_=>Z):=by
 refine⟨λpre h f q j m _=>j.keeps m,λpre h f j c a=>?_,λpre h f A ao v k T _ _ ae V=>?_⟩
 ·obtain⟨w,d,H,I,a4,ap,J,x,K,aw,L⟩:=j;have a1:ap.length=pre.length:=by have:=x.1;simpa using this
  rcases(L c).1 a with rfl|rfl|rfl|a|⟨a6,ad,a⟩
  ·exact(Ua.1 H).1
  ·exact(Ua.1 I).1
  ·exact(Ua.1 J).1
  ·exact(tc x a.symm).2
  ·obtain⟨p,R,rfl⟩:=List.mem_iff_getElem.1 ad;obtain⟨a7,t,_,G⟩:=K p pre[p] (Ul (by omega));rw[Ul R] at t;cases t;exact(tc G a.symm).2
 ·refine⟨r,k.hl,zk e k.pn,by rw[e.ps];rfl,λi ar az X a0 O ab=>?_⟩;obtain⟨B,b⟩:=D5 aI f;have N:=k.Rg e b;have al:=Cd b ae;refine sW (aE:=[i]) cU (Stop:=λu aE g=>aE=[]/\u=i.finish (.bool Z)/\xG l D rb r pre h B A ao v g) (λu aE g n=>?_) ab b.hp b.un (λC=>?_) (λav a5 g u2 n W d aa=>?_)
  ·obtain⟨_,rfl,_⟩:=n;rintro⟨_,s,z⟩;rcases X.2 with⟨a2,p,a3,am,o⟩|⟨l,am,o⟩
   ·simp[VW,o] at z
   ·simp[VW,o] at z
  ·obtain⟨q,w,d⟩:=Ks (nm:=A) e N T al V i [bG] C;exact⟨_,[],q,d,rfl,rfl,w⟩
  ·obtain⟨C,au,rfl,rfl,E,M,S,Q⟩:=n;have y:B.heap.size=f.heap.size:=b.un.size.symm;refine O _ u2 ⟨rfl,E,(M.sh (W':=g) Y).RK e d.un,λc a m P=>d.same b.un (S c (by rw[y];exact a) m P),λc a=>?_⟩ trivial aa W;rw[<-y];exact Q c a
end Cc
namespace Ec
open Go.RowKit Pk Pm
def cW (n:Nat)(k:Int):Bool:=decide (0<=k)&&decide (k<(n:Int))
def jC{W:F}{g:Nat}{a b c d e f:U}{t:Ug}(h:W.heap[g]? =I (.cells #[a,b,c,d,e,f] t (0,0))):aM W g 0 a/\aM W g 1 b/\aM W g 2 c/\aM W g 3 d/\aM W g 4 e/\aM W g 5 f:=by
 unfold Ur;simp[h]
def yu(n:Nat)(ah:List Int)(rs:List cE)(t:Option UJ)(s:Nat)(b c:U)(co:Option UJ)(cb bE aJ:Nat)(ro:Option UJ)(rb bh aN:Nat)(sk:Bool)(w:F)(be:ah.length<=Up)(bi:rs.length<=Up)
 (aa:0<ah.length->co=I ⟨cb,bE,K⟩) (ad:0<ah.length->cb<w.heap.size) (ab:∀j,j<ah.length->aM w cb (bE+j) (.int .i64 (ah.getD j 0))) (l:dA w ro rb bh rs):
 UB aI 68 #[qv (.slice t n s) b c (.slice co ah.length aJ) (.slice ro rs.length aN) sk] w λe w'=>∃bb,e= .returned (.bool bb)/\(bb=Z↔(∀i (h:i<ah.length),cW n ah[i]=Z)/\∀i (h:i<rs.length),cW n rs[i].col=Z)/\aP w w':=by
 unfold qv;unfold Up at be bi;have B:=λa ba=>Ae t n s b c (.slice co ah.length aJ) (.slice ro rs.length aN) sk a ba;unfold qv at B;have L:=af aa;have N:=af ad;have M:=af ab;have H:=af l;have W:X (aP w (w.alloc (.cells #[.slice t n s,b,c,.slice co ah.length aJ,.slice ro rs.length aN,.bool sk] 115))):=(Uo _ _).alloc (T6 _) _;have k:X ((w.alloc (.cells #[.slice t n s,b,c,.slice co ah.length aJ,.slice ro rs.length aN,.bool sk] 115)).heap[w.heap.size]? =I (.cells #[.slice t n s,b,c,.slice co ah.length aJ,.slice ro rs.length aN,.bool sk] 115 (0,0))):=iT _ _;clear aa ad ab l;go_enter an.func68,Tryz.ntmps68
 go_wp2_with fail
 go_loopw [10] (λi wr=>∃a:Nat,a<=ah.length/\i= .int .i64 (a:Int)/\(∀i (h:i<ah.length),i<a->cW n ah[i]=Z)/\wr.heap[w.heap.size]? =I (.cells #[.slice t n s,b,c,.slice co ah.length aJ,.slice ro rs.length aN,.bool sk] 115 (0,0))/\aP w wr) (λi _=>ah.length-(US i).toNat)
 case atStart=>exact⟨0,UE _,rfl,λbt _ h=>by omega,k.o,W.o⟩
 case round=>
  clear k W;obtain⟨a,al,rfl,D,v,q⟩:=hrel;have u:=af q;have k:=af v;have r:=af D;have C:=q.size;obtain⟨a2,a3,a4,a5,a6,a7⟩:=jC v;clear D;by_cases V:a<ah.length
  ·obtain rfl:=L.o (by omega);have bd:=N.o (by omega);have a0:aM wr cb (bE+a) (.int .i64 (ah.getD a 0)):=(q.cell (p:=⟨cb,bE+a,K⟩) bd).trans (M.o a V);have ae:ah.getD a 0=ah[a]:=by rw[Uh,Ul V];rfl
   rw[ae] at a0;have z:X (cW n ah[a]=T5->¬((∀i (h:i<ah.length),cW n ah[i]=Z)/\∀i (h:i<rs.length),cW n rs[i].col=Z)):=λh S=>by
    have:=S.1 a V;rw[h] at this;cases this
   have A:X (cW n ah[a]=Z->∀i (h:i<ah.length),i<a+1->cW n ah[i]=Z):=λh i T bc=>by
    by_cases e:i=a
    ·subst e;exact h
    ·exact r.o i T (by omega)
   clear q v ae r M N L H;generalize ah[a]=d at*;have p:=B d;have E:cW n d=(decide (0<=d)&&decide (d<(n:Int))):=rfl;rw[<-E] at p;clear B E;cases f:cW n d
   ·rw[f] at p;have O:X (¬((∀i (h:i<ah.length),cW n ah[i]=Z)/\∀i (h:i<rs.length),cW n rs[i].col=Z)):=z.o f;clear z A f
    go_wp2_with (go_at_call 106;refine(p _).mono ?_;rintro e w' ⟨rfl,g⟩;have y:X (aP w w'):=u.o.trans (g.mono C);clear g)
    go_ret;exact⟨T5,rfl,by simp only[UA,false_iff];exact O.o,y.o⟩
   ·rw[f] at p;have P:X (∀i (h:i<ah.length),i<a+1->cW n ah[i]=Z):=A.o f;clear z A f
    go_wp2_with (go_at_call 106;refine(p _).mono ?_;rintro e w' ⟨rfl,g⟩;have y:X (aP w w'):=u.o.trans (g.mono C);have G:X (w'.heap[w.heap.size]? =I (.cells #[.slice t n s,b,c,.slice (I ⟨cb,bE,K⟩) ah.length aJ,.slice ro rs.length aN,.bool sk] 115 (0,0))):=(g.block _ (Ud k.o)).trans k.o;clear g)
    go_roundw
    case rel=>exact⟨a+1,by omega,by go_num,P.o,G.o,y.o⟩
    case measure=>simp[US];omega
  ·have Y:X (∀i (h:i<ah.length),cW n ah[i]=Z):=λi h=>r.o i h (by omega);clear r q v L N M
   go_wp2_with fail
   go_loopw [22] (λi a1=>∃a:Nat,a<=rs.length/\i= .int .i64 (a:Int)/\(∀i (h:i<rs.length),i<a->cW n rs[i].col=Z)/\a1.heap[w.heap.size]? =I (.cells #[.slice t n s,b,c,.slice co ah.length aJ,.slice ro rs.length aN,.bool sk] 115 (0,0))/\aP w a1) (λi _=>rs.length-(US i).toNat)
   case atStart=>exact⟨0,UE _,rfl,λbt _ h=>by omega,k.o,u.o⟩
   case round=>
    clear k u a2 a3 a4 a5 a6 a7 C al;obtain⟨a,al,rfl,D,v,q⟩:=hrel;have u:=af q;have k:=af v;have r:=af D;have C:=q.size;clear D;by_cases x:a<rs.length
    ·have l:=H.o.below q;obtain rfl:=l.addr (by omega);have ao:=l.c0 a x;have ap:=l.c1 a x;have ar:=l.c2 a x;have au:=l.c3 a x;have av:=l.c4 a x;have aw:=l.c5 a x;have az:=l.c6 a x;have z:X (cW n rs[a].col=T5->¬((∀i (h:i<ah.length),cW n ah[i]=Z)/\∀i (h:i<rs.length),cW n rs[i].col=Z)):=λh S=>by
      have:=S.2 a x;rw[h] at this;cases this
     have A:X (cW n rs[a].col=Z->∀i (h:i<rs.length),i<a+1->cW n rs[i].col=Z):=λh i T bc=>by
      by_cases e:i=a
      ·subst e;exact h
      ·exact r.o i T (by omega)
     clear q l r H v;generalize rs[a]=bu at*;obtain⟨d,o,m⟩:=bu;dsimp only at ao ap ar au av aw az
     go_upto_region 10 with fail
     obtain⟨a0,bj,bl,bm,bo,br,bs⟩:=jL (iT wr (.cells #[.int .i64 d,.bool o.null,.int .i64 o.n,.string o.s,.bool m.null,.int .i64 m.n,.string m.s] 61));have Q:aP wr (wr.alloc (.cells #[.int .i64 d,.bool o.null,.int .i64 o.n,.string o.s,.bool m.null,.int .i64 m.n,.string m.s] 61)):=(Uo _ _).alloc (T6 _) _;have R:=(Q.block _ (Ud k.o)).trans k.o;obtain⟨a2,a3,a4,a5,a6,a7⟩:=jC R;have G:=af R;have J:X (aP w (wr.alloc (.cells #[.int .i64 d,.bool o.null,.int .i64 o.n,.string o.s,.bool m.null,.int .i64 m.n,.string m.s] 61))):=u.o.trans (Q.mono C);clear Q ao ap ar au av aw az R k u C bj bl bm bo br bs;generalize wr.alloc (.cells #[.int .i64 d,.bool o.null,.int .i64 o.n,.string o.s,.bool m.null,.int .i64 m.n,.string m.s] 61)=bv at*;generalize wr.heap.size=bx at*;have p:=B d;have E:cW n d=(decide (0<=d)&&decide (d<(n:Int))):=rfl;rw[<-E] at p;clear B E;have am:=J.o.size;cases f:cW n d
     ·rw[f] at p;have O:X (¬((∀i (h:i<ah.length),cW n ah[i]=Z)/\∀i (h:i<rs.length),cW n rs[i].col=Z)):=z.o f;clear z A f
      go_wp2_with (go_at_call 106;refine(p _).mono ?_;rintro e w' ⟨rfl,g⟩;have y:X (aP w w'):=J.o.trans (g.mono am);clear g)
      go_ret;exact⟨T5,rfl,by simp only[UA,false_iff];exact O.o,y.o⟩
     ·rw[f] at p;have P:X (∀i (h:i<rs.length),i<a+1->cW n rs[i].col=Z):=A.o f;clear z A f
      go_wp2_with (go_at_call 106;refine(p _).mono ?_;rintro e w' ⟨rfl,g⟩;have y:X (aP w w'):=J.o.trans (g.mono am);have a8:X (w'.heap[w.heap.size]? =I (.cells #[.slice t n s,b,c,.slice co ah.length aJ,.slice (I ⟨rb,bh,K⟩) rs.length aN,.bool sk] 115 (0,0))):=(g.block _ (Ud G.o)).trans G.o;clear g)
      go_roundw
      case rel=>exact⟨a+1,by omega,by go_num,P.o,a8.o,y.o⟩
      case measure=>simp[US];omega
    ·have a9:X ((∀i (h:i<ah.length),cW n ah[i]=Z)/\∀i (h:i<rs.length),cW n rs[i].col=Z):=⟨Y.o,λi h=>r.o i h (by omega)⟩;clear r H q Y v k B;go_wp2;go_ret;exact⟨Z,rfl,by simp only[true_iff];exact a9.o,u.o⟩
structure Hw(w:F)(kb n:Nat)(c k:Int):Prop where
 ex:∃j:Nat,c=(j:Int)/\j<n/\kb<w.heap.size/\aM w kb (j*2+1) (.int .i64 k)/\(k=1\/k=2\/k=3)
def Hw.below{w w':F}{kb n:Nat}{c k:Int}(h:Hw w kb n c k)(a:aP w w'):Hw w' kb n c k:=by
 obtain⟨b,d,e,f,g,i⟩:=h.ex;have j:=a.size;exact⟨b,d,e,by omega,(a.cell (p:=⟨kb,b*2+1,K⟩) f).trans g,i⟩
def iU (kd:Int)(r:cE):Bool:=fP r.low kd&&fP r.high kd
def Ag(n:Nat)(rs:List cE)(kd:Int->Int)(kb m:Nat)(b c d:U)(ro:Option UJ)(rb bh aN:Nat)(sk:Bool)(w:F)(bd:rs.length<=Up)(be:n<=Up)(k:dA w ro rb bh rs)(ap:∀r∈rs,Hw w kb n r.col (kd r.col)):
 UB aI 69 #[qv (.slice (I ⟨kb,0,K⟩) n m) b c d (.slice ro rs.length aN) sk] w λe w'=>∃bb,e= .returned (.bool bb)/\(bb=Z↔∀i (h:i<rs.length),iU (kd rs[i].col) rs[i]=Z)/\aP w w':=by
 unfold qv;unfold Up at bd be;have R:=af k;have Q:=af ap;have ab:X (aP w (w.alloc (.cells #[.slice (I ⟨kb,0,K⟩) n m,b,c,d,.slice ro rs.length aN,.bool sk] 115))):=(Uo _ _).alloc (T6 _) _;have t:X ((w.alloc (.cells #[.slice (I ⟨kb,0,K⟩) n m,b,c,d,.slice ro rs.length aN,.bool sk] 115)).heap[w.heap.size]? =I (.cells #[.slice (I ⟨kb,0,K⟩) n m,b,c,d,.slice ro rs.length aN,.bool sk] 115 (0,0))):=iT _ _;clear k ap;go_enter an.func69,Tryz.ntmps69
 go_wp2_with fail
 go_loopw [9] (λi wr=>∃a:Nat,a<=rs.length/\i= .int .i64 (a:Int)/\(∀i (h:i<rs.length),i<a->iU (kd rs[i].col) rs[i]=Z)/\wr.heap[w.heap.size]? =I (.cells #[.slice (I ⟨kb,0,K⟩) n m,b,c,d,.slice ro rs.length aN,.bool sk] 115 (0,0))/\aP w wr) (λi _=>rs.length-(US i).toNat)
 case atStart=>exact⟨0,UE _,rfl,λbB _ h=>by omega,t.o,ab.o⟩
 case round=>
  clear t ab;obtain⟨a,bt,rfl,ao,W,y⟩:=hrel;have O:=af y;have t:=af W;have G:=af ao;have ar:=y.size;clear ao;by_cases o:a<rs.length
  ·have k:=R.o.below y;obtain rfl:=k.addr (by omega);have au:=k.c0 a o;have av:=k.c1 a o;have aw:=k.c2 a o;have az:=k.c3 a o;have a0:=k.c4 a o;have a1:=k.c5 a o;have a2:=k.c6 a o;obtain⟨p,ae,a9,al,am,V⟩:=((Q.o rs[a] (Ui o)).below y).ex;have C:X (iU (kd rs[a].col) rs[a]=T5->¬∀i (h:i<rs.length),iU (kd rs[i].col) rs[i]=Z):=λh ba=>by
    have:=ba a o;rw[h] at this;cases this
   have L:X (iU (kd rs[a].col) rs[a]=Z->∀i (h:i<rs.length),i<a+1->iU (kd rs[i].col) rs[i]=Z):=λh i bc br=>by
    by_cases e:i=a
    ·subst e;exact h
    ·exact G.o i bc (by omega)
   clear y k G R Q W;generalize rs[a]=a6 at*;generalize kd a6.col=v at*;obtain⟨b6,g,f⟩:=a6;dsimp only at ae au av aw az a0 a1 a2;subst ae
   go_upto_region 4 with fail
   obtain⟨bu,bv,bx,bA,a3,a4,a5⟩:=jL (iT wr (.cells #[.int .i64 (p:Int),.bool g.null,.int .i64 g.n,.string g.s,.bool f.null,.int .i64 f.n,.string f.s] 61));have M:aP wr (wr.alloc (.cells #[.int .i64 (p:Int),.bool g.null,.int .i64 g.n,.string g.s,.bool f.null,.int .i64 f.n,.string f.s] 61)):=(Uo _ _).alloc (T6 _) _;have bo:=(M.cell (p:=⟨kb,p*2+1,K⟩) al).trans am;have Y:=(M.block _ (Ud t.o)).trans t.o;obtain⟨b0,b1,b2,b3,b4,b5⟩:=jC Y;have J:=af Y;have H:X (aP w (wr.alloc (.cells #[.int .i64 (p:Int),.bool g.null,.int .i64 g.n,.string g.s,.bool f.null,.int .i64 f.n,.string f.s] 61))):=O.o.trans (M.mono ar);have z:wr.heap.size<(wr.alloc (.cells #[.int .i64 (p:Int),.bool g.null,.int .i64 g.n,.string g.s,.bool f.null,.int .i64 f.n,.string f.s] 61)).heap.size:=by simp
   clear M au av aw az a0 a1 a2 Y t O ar al am;generalize wr.alloc (.cells #[.int .i64 (p:Int),.bool g.null,.int .i64 g.n,.string g.s,.bool f.null,.int .i64 f.n,.string f.s] 61)=bm at*;generalize wr.heap.size=x at*;have bs:(p:Int)<(n:Int):=by omega
   have q:=λT=>qG g v T V;have A:=λT=>qG f v T V;have l:iU v ⟨(p:Int),g,f⟩=(fP g v&&fP f v):=rfl;have aa:=H.o.size;clear V a9;cases D:fP g v
   ·rw[D] at q l;have S:X (¬∀i (h:i<rs.length),iU (kd rs[i].col) rs[i]=Z):=C.o l;clear C L l D A
    go_wp2_with (go_at_call 82;refine(q _).mono ?_;rintro e w' ⟨rfl,j⟩;have s:X (aP w w'):=H.o.trans (j.mono aa);clear j)
    go_ret;exact⟨T5,rfl,by simp only[UA,false_iff];exact S.o,s.o⟩
   ·rw[D] at q l;cases N:fP f v
    ·rw[N] at A l;have S:X (¬∀i (h:i<rs.length),iU (kd rs[i].col) rs[i]=Z):=C.o l;clear C L l D N
     go_wp2_with (first|(go_at_call 82;refine(q _).mono ?_;rintro e w' ⟨rfl,j⟩;have s:X (aP w w'):=H.o.trans (j.mono aa);have bi:=(j.cell (p:=⟨x,4,K⟩) z).trans a3;have bj:=(j.cell (p:=⟨x,5,K⟩) z).trans a4;have bl:=(j.cell (p:=⟨x,6,K⟩) z).trans a5;have B:X (w'.heap[w.heap.size]? =I (.cells #[.slice (I ⟨kb,0,K⟩) n m,b,c,d,.slice (I ⟨rb,bh,K⟩) rs.length aN,.bool sk] 115 (0,0))):=(j.block _ (Ud J.o)).trans J.o;clear j q)|(go_at_call 82;refine(A _).mono ?_;rintro e E ⟨rfl,u⟩;have P:X (aP w E):=s.o.trans (u.mono (by have:=s.o.size;omega));have ad:X (E.heap[w.heap.size]? =I (.cells #[.slice (I ⟨kb,0,K⟩) n m,b,c,d,.slice (I ⟨rb,bh,K⟩) rs.length aN,.bool sk] 115 (0,0))):=(u.block _ (Ud B.o)).trans B.o;clear u))
     go_ret;exact⟨T5,rfl,by simp only[UA,false_iff];exact S.o,P.o⟩
    ·rw[N] at A l;have a8:X (∀i (h:i<rs.length),i<a+1->iU (kd rs[i].col) rs[i]=Z):=L.o l;clear C L l D N
     go_wp2_with (first|(go_at_call 82;refine(q _).mono ?_;rintro e w' ⟨rfl,j⟩;have s:X (aP w w'):=H.o.trans (j.mono aa);have bi:=(j.cell (p:=⟨x,4,K⟩) z).trans a3;have bj:=(j.cell (p:=⟨x,5,K⟩) z).trans a4;have bl:=(j.cell (p:=⟨x,6,K⟩) z).trans a5;have B:X (w'.heap[w.heap.size]? =I (.cells #[.slice (I ⟨kb,0,K⟩) n m,b,c,d,.slice (I ⟨rb,bh,K⟩) rs.length aN,.bool sk] 115 (0,0))):=(j.block _ (Ud J.o)).trans J.o;clear j q)|(go_at_call 82;refine(A _).mono ?_;rintro e E ⟨rfl,u⟩;have P:X (aP w E):=s.o.trans (u.mono (by have:=s.o.size;omega));have ad:X (E.heap[w.heap.size]? =I (.cells #[.slice (I ⟨kb,0,K⟩) n m,b,c,d,.slice (I ⟨rb,bh,K⟩) rs.length aN,.bool sk] 115 (0,0))):=(u.block _ (Ud B.o)).trans B.o;clear u))
     go_roundw
     case rel=>exact⟨a+1,by omega,by go_num,a8.o,ad.o,P.o⟩
     case measure=>simp[US];omega
  ·have a7:X (∀i (h:i<rs.length),iU (kd rs[i].col) rs[i]=Z):=λi h=>G.o i h (by omega);clear G R Q y W t;go_wp2;go_ret;exact⟨Z,rfl,by simp only[true_iff];exact a7.o,O.o⟩
def an.Mq:(aI.info? 61).map (λi=>(i.zero,i.size,i.bytes))=I (I (.agg #[.int .i64 0,.bool T5,.int .i64 0,.string ⟨#[]⟩,.bool T5,.int .i64 0,.string ⟨#[]⟩]),7,72):=by kernel_rfl
def an.OZ:(aI.info? 3).map (λi=>(i.zero,i.size,i.bytes))=I (I (.int .i64 0),1,8):=by kernel_rfl
def z5(l:List Int)(s:Option UJ)(b off cap:Nat)(w:F)(L:l.length<=1000)(t:0<l.length->s=I ⟨b,off,K⟩)(hc:∀j u,(bz l)[j]? =I u->aM w b (off+j) u):
 UB aI 70 #[.slice s l.length cap] w λe w'=>aP w w'/\((l.length=0/\∃co,e= .returned (.slice co 0 0))\/(0<l.length/\∃v,e= .returned v/\w'.ownsRow w.heap.size 3 1 v l.length (bz l))):=by
 obtain⟨D,B,N,C,O⟩:=Ve an.OZ;have h:aP w (w.alloc (.cells #[] 3)):=(Uo _ _).alloc (T6 _) _;have p:(w.alloc (.cells #[] 3)).ownsRow w.heap.size 3 1 (.slice (I ⟨w.heap.size,0,K⟩) 0 0) 0 []:=⟨rfl,.inr ⟨w.heap.size,0,#[],rfl,T6 _,iT _ _,T6 _,UE _,rfl,rfl⟩⟩;have P:∀(n:UJ) (m g:Nat) (a:F),(binOp .eql 22 (.slice (I n) m g) aO).run aI a= .ok (.bool T5) a:=λn m g a=>by simp only[binOp];simp[run_equal_slice_nil a 22 3 _ _ _ an.underlying22]
 have Q:∀(m g:Nat) (a:F),(binOp .eql 22 (.slice K m g) aO).run aI a= .ok (.bool Z) a:=λm g a=>by simp only[binOp];simp[run_equal_slice_nil a 22 3 _ _ _ an.underlying22]
 by_cases o:0<l.length
 ·obtain rfl:=t o;have z:X (∀j u,(bz l)[j]? =I u->(w.alloc (.cells #[] 3)).cell? (Yr ⟨b,off,K⟩ j)=I u):=λj u J=>by
   rw[Xc];have d:=hc j u J;have H:b<w.heap.size:=by
    unfold Ur at d;rcases Vy b w.heap.size with c|c
    ·exact c
    ·simp[Vl c] at d
   exact(h.cell (p:=⟨b,off+j,K⟩) H).trans d
  have A:X (∀u∈bz l,u.oneCell'=Z):=λu M=>by obtain⟨S,_,rfl⟩:=U7.1 M;rfl
  have r:X ((bz l).length=l.length*1):=by show _=_;simp[bz]
  have f:=af h;clear hc h t;go_enter an.func70,Tryz.ntmps70
  go_wp2_with (at_builtin;refine aT _ Y _ _ 22 Y w.heap.size 3 D (.int .i64 0) 1 8 an.underlying22 B N C O Y (by decide) (.slice (I ⟨w.heap.size,0,K⟩) 0 0) 0 [] Y p ⟨b,off,K⟩ l.length cap (bz l) Y o r.o z.o A.o (by unfold Up;omega) (by omega) (by simp) ?_;intro R w' k i)
  have q:X (aP w w'):=by
   rcases i with⟨d,_⟩|⟨_,d⟩
   ·exact f.o.grown d (by simp) (by simp)
   ·exact f.o.grown d (by simp) (λG x=>by simp[Vz] at x;omega)
  rw[UT,List.nil_append] at k;have E:=af k;clear i k z A r f p;go_wp2;go_ret;exact⟨q.o,.inr ⟨o,_,rfl,E.o⟩⟩
 ·have y:l.length=0:=by omega
  rw[y];have r:=af y;have f:=af h;clear t hc L o y h;cases s with
  |none=>
   go_enter an.func70,Tryz.ntmps70;go_wp2;go_ret;exact⟨Uo _ _,.inl ⟨trivial,_,rfl⟩⟩
  |some n=>
   go_enter an.func70,Tryz.ntmps70
   go_wp2_with (at_builtin;refine VH _ Y _ _ 22 Y w.heap.size 3 D 1 an.underlying22 B C w.heap.size 0 0 [] Y p n 0 cap [] Y (by simp) (λj u c=>by simp at c) (λu c=>by simp at c) (by omega) ?_;intro w' k i)
   have q:X (aP w w'):=f.o.grown i (by simp) (λG x=>by simp at x;omega);clear i k f p;go_wp2;go_ret;exact⟨q.o,.inl ⟨trivial,_,rfl⟩⟩
def wK(l:List cE)(s:Option UJ)(b off cap:Nat)(w:F)(M:l.length<=1000)(t:0<l.length->s=I ⟨b,off,K⟩)(hc:∀j u,(dK l)[j]? =I u->aM w b (off+j) u):
 UB aI 107 #[.slice s l.length cap] w λe w'=>aP w w'/\((l.length=0/\∃co,e= .returned (.slice co 0 0))\/(0<l.length/\∃v,e= .returned v/\w'.ownsRow w.heap.size 61 7 v l.length (dK l))):=by
 obtain⟨E,B,O,D,P⟩:=Ve an.Mq;have h:aP w (w.alloc (.cells #[] 61)):=(Uo _ _).alloc (T6 _) _;have p:(w.alloc (.cells #[] 61)).ownsRow w.heap.size 61 7 (.slice (I ⟨w.heap.size,0,K⟩) 0 0) 0 []:=⟨rfl,.inr ⟨w.heap.size,0,#[],rfl,T6 _,iT _ _,T6 _,UE _,rfl,rfl⟩⟩;have Q:∀(n:UJ) (m g:Nat) (a:F),(binOp .eql 23 (.slice (I n) m g) aO).run aI a= .ok (.bool T5) a:=λn m g a=>by simp only[binOp];simp[run_equal_slice_nil a 23 61 _ _ _ an.underlying23]
 have R:∀(m g:Nat) (a:F),(binOp .eql 23 (.slice K m g) aO).run aI a= .ok (.bool Z) a:=λm g a=>by simp only[binOp];simp[run_equal_slice_nil a 23 61 _ _ _ an.underlying23]
 by_cases o:0<l.length
 ·obtain rfl:=t o;have z:X (∀j u,(dK l)[j]? =I u->(w.alloc (.cells #[] 61)).cell? (Yr ⟨b,off,K⟩ j)=I u):=λj u L=>by
   rw[Xc];have d:=hc j u L;have J:b<w.heap.size:=by
    unfold Ur at d;rcases Vy b w.heap.size with c|c
    ·exact c
    ·simp[Vl c] at d
   exact(h.cell (p:=⟨b,off+j,K⟩) J).trans d
  have A:X (∀u∈dK l,u.oneCell'=Z):=λu N=>by
   obtain⟨T,_,C⟩:=List.mem_flatMap.1 N;simp only[si,VM,XQ,or_false] at C;rcases C with rfl|rfl|rfl|rfl|rfl|rfl|rfl<;>rfl
  have r:=af (rH l);have f:=af h;clear hc h t;go_enter an.func107,Tryz.ntmps107
  go_wp2_with (at_builtin;refine aT _ Y _ _ 23 Y w.heap.size 61 E (.agg #[.int .i64 0,.bool T5,.int .i64 0,.string ⟨#[]⟩,.bool T5,.int .i64 0,.string ⟨#[]⟩]) 7 72 an.underlying23 B O D P Y (by decide) (.slice (I ⟨w.heap.size,0,K⟩) 0 0) 0 [] Y p ⟨b,off,K⟩ l.length cap (dK l) Y o r.o z.o A.o (by unfold Up;omega) (by omega) (by simp) ?_;intro S w' k i)
  have q:X (aP w w'):=by
   rcases i with⟨d,_⟩|⟨_,d⟩
   ·exact f.o.grown d (by simp) (by simp)
   ·exact f.o.grown d (by simp) (λH x=>by simp[Vz] at x;omega)
  rw[UT,List.nil_append] at k;have G:=af k;clear i k z A r f p;go_wp2;go_ret;exact⟨q.o,.inr ⟨o,_,rfl,G.o⟩⟩
 ·have y:l.length=0:=by omega
  rw[y];have r:=af y;have f:=af h;clear t hc M o y h;cases s with
  |none=>
   go_enter an.func107,Tryz.ntmps107;go_wp2;go_ret;exact⟨Uo _ _,.inl ⟨trivial,_,rfl⟩⟩
  |some n=>
   go_enter an.func107,Tryz.ntmps107
   go_wp2_with (at_builtin;refine VH _ Y _ _ 23 Y w.heap.size 61 E 7 an.underlying23 B D w.heap.size 0 0 [] Y p n 0 cap [] Y (by simp) (λj u c=>by simp at c) (λu c=>by simp at c) (by omega) ?_;intro w' k i)
   have q:X (aP w w'):=f.o.grown i (by simp) (λH x=>by simp at x;omega);clear i k f p;go_wp2;go_ret;exact⟨q.o,.inl ⟨trivial,_,rfl⟩⟩
def NA{W:F}{g o:Nat}{a:Array U}{t:Ug}{u:U}(h:W.heap[g]? =I (.cells a t (0,0)))(c:a[o]? =I u):(W.setCell ⟨g,o,K⟩ u).heap[g]? =I (.cells a t (0,0)):=by
 rw[Uq W g o _ _ u h];congr 2;apply Array.ext_getElem?;intro e;rw[UP]
 split
 ·rename_i b;subst b
  split
  ·exact c.symm
  ·rename_i d;rw[Vl (by omega)]
 ·rfl
def rJ{W:F}{base g o n cap:Nat}{c:List U}{u:U}(h:W.ownsRow base 61 7 (.slice (I ⟨g,0,K⟩) n cap) n c)(b:c[o]? =I u):(W.setCell ⟨g,o,K⟩ u).ownsRow base 61 7 (.slice (I ⟨g,0,K⟩) n cap) n c:=by
 obtain⟨m,⟨a,_⟩|⟨q,p,e,a,f,i,j,k,l,d⟩⟩:=h
 ·cases a
 ·simp only[VA,U8,Wh,and_true,true_and] at a;obtain⟨rfl,rfl⟩:=a;refine⟨m,.inr ⟨g,cap,e,rfl,f,NA i ?_,j,k,l,d⟩⟩;rw[<-d,V8] at b
  split at b
  ·simpa using b
  ·cases b
def PA{w:F}{base e d n:Nat}{v:U}{f:List U}(h:w.ownsRow base e d v n f)(l:0<n):∃g cap,v= .slice (I ⟨g,0,K⟩) n cap:=by
 obtain⟨k,⟨a,j⟩|⟨c,b,i,a,_⟩⟩:=h
 ·omega
 ·exact⟨c,b,a⟩
def dA.Gd{w:F}{base g cap:Nat}{l:List cE}(h:w.ownsRow base 61 7 (.slice (I ⟨g,0,K⟩) l.length cap) l.length (dK l)):dA w (I ⟨g,0,K⟩) g 0 l:=by
 obtain⟨o,⟨a,_⟩|⟨i,e,f,a,j,c,k,m,n,d⟩⟩:=h
 ·cases a
 ·simp only[VA,U8,Wh,and_true,true_and] at a;obtain⟨rfl,rfl⟩:=a;refine dA.D9 (Ud c) λp v b=>?_;rw[<-d,V8] at b
  split at b
  ·rw[UT];unfold Ur;simp only[c];simpa using b
  ·cases b
def MZ{w:F}{base g n cap c e:Nat}{d:List U}(h:w.ownsRow base e c (.slice (I ⟨g,0,K⟩) n cap) n d):base<=g:=by
 obtain⟨q,⟨a,_⟩|⟨j,f,i,a,b,k,l,m,o,p⟩⟩:=h
 ·cases a
 ·simp only[VA,U8,Wh,and_true,true_and] at a;obtain⟨rfl,rfl⟩:=a;exact b
def Ej{w:F}{base g n cap c e o:Nat}{d:List U}(h:w.ownsRow base e c (.slice (I ⟨g,0,K⟩) n cap) n d):w.frozen? ⟨g,o,K⟩=T5:=by
 obtain⟨r,⟨a,_⟩|⟨j,f,i,a,k,b,l,m,p,q⟩⟩:=h
 ·cases a
 ·simp only[VA,U8,Wh,and_true,true_and] at a;obtain⟨rfl,rfl⟩:=a;simp[UQ,b]
def Eg{w:F}{base g n cap o:Nat}{c:List U}{u:U}(h:w.ownsRow base 61 7 (.slice (I ⟨g,0,K⟩) n cap) n c)(b:c[o]? =I u):aM w g o u:=by
 obtain⟨q,⟨a,_⟩|⟨j,f,i,a,k,d,l,m,p,e⟩⟩:=h
 ·cases a
 ·simp only[VA,U8,Wh,and_true,true_and] at a;obtain⟨rfl,rfl⟩:=a;rw[<-e,V8] at b
  split at b
  ·unfold Ur;simp only[d];simpa using b
  ·cases b
def x9(l:List cE)(t:Option UJ)(b off cap:Nat)(w:F)(av:l.length<=1000)(au:0<l.length->t=I ⟨b,off,K⟩)(hc:∀j u,(dK l)[j]? =I u->aM w b (off+j) u)(a0:∀r∈l,r.low.s.size<=32/\r.high.s.size<=32):
 UB aI 71 #[.slice t l.length cap] w λe w'=>aP w w'/\((l.length=0/\∃co,e= .returned (.slice co 0 0))\/(0<l.length/\∃v,e= .returned v/\w'.ownsRow w.heap.size 61 7 v l.length (dK l))):=by
 have o:=wK l t b off cap w av au hc;have O:=af a0;clear au hc a0;by_cases B:0<l.length
 ·have ao:UB aI 107 #[.slice t l.length cap] w λe w'=>aP w w'/\∃c gO,e= .returned (.slice (I ⟨c,0,K⟩) l.length gO)/\w'.ownsRow w.heap.size 61 7 (.slice (I ⟨c,0,K⟩) l.length gO) l.length (dK l):=by
   refine o.mono λe w' g=>⟨g.1,?_⟩;obtain⟨_,v,rfl,m⟩:=g.2.resolve_left λg=>absurd g.1 (by omega);obtain⟨c,gO,rfl⟩:=PA m B;exact⟨c,gO,rfl,m⟩
  clear o;go_enter an.func71,Tryz.ntmps71
  go_wp2_with (go_at_call 107;refine ao.mono ?_;rintro e a3 ⟨x,c,gO,rfl,az⟩)
  have z:=af x;have p:=af az;clear x az ao
  go_loopw [10] (λn wr=>∃a:Nat,a<=l.length/\n= .int .i64 (a:Int)/\wr.ownsRow w.heap.size 61 7 (.slice (I ⟨c,0,K⟩) l.length gO) l.length (dK l)/\aP w wr) (λn _=>l.length-(US n).toNat)
  case atStart=>exact⟨0,UE _,rfl,p.o,z.o⟩
  case round=>
   clear z p;obtain⟨a,bu,rfl,m,C⟩:=hrel;have H:=af C;have A:=af m;have a1:=C.size;by_cases h:a<l.length
   ·have k:=dA.Gd m;have S:=k.c0 a h;have T:=k.c1 a h;have U:=k.c2 a h;have V:=k.c3 a h;have W:=k.c4 a h;have Z:=k.c5 a h;have aa:=k.c6 a h;simp only[UT] at S T U V W Z aa;have N:=af (n9 l a h 3 _ Y);have M:=af (n9 l a h 6 _ Y);obtain⟨a4,a5⟩:=O.o l[a] (Ui h);have E:=λP=>um l[a].low.s P a4;have G:=λP=>um l[a].high.s P a5;clear m C k O a4 a5;generalize l[a]=br at*;obtain⟨D,d,f⟩:=br;dsimp only at S T U V W Z aa N M E G
    go_upto_region 5 with fail
    obtain⟨bd,be,bi,bj,bl,bm,a2⟩:=jL (iT wr (.cells #[.int .i64 D,.bool d.null,.int .i64 d.n,.string d.s,.bool f.null,.int .i64 f.n,.string f.s] 61));have Q:aP wr (wr.alloc (.cells #[.int .i64 D,.bool d.null,.int .i64 d.n,.string d.s,.bool f.null,.int .i64 f.n,.string f.s] 61)):=(Uo _ _).alloc (T6 _) _;have L:=af (H.o.trans (Q.mono a1));have aw:=aK A.o Q;have p:=af aw;have bc:wr.heap.size<(wr.alloc (.cells #[.int .i64 D,.bool d.null,.int .i64 d.n,.string d.s,.bool f.null,.int .i64 f.n,.string f.s] 61)).heap.size:=by simp
    have ba:wr.heap.size≠c:=λg=>by have:=(dA.Gd A.o).lt B;omega
    clear Q S T U V W Z aa H a1 A aw;generalize wr.alloc (.cells #[.int .i64 D,.bool d.null,.int .i64 d.n,.string d.s,.bool f.null,.int .i64 f.n,.string f.s] 61)=bs at*;generalize wr.heap.size=ar at*;have bb:=L.o.size
    go_upto_region 6 with(go_at_call 66;refine(E _).mono ?_;rintro e y ⟨rfl,i⟩;have ae:=af (L.o.trans (i.mono bb));have q:=af (aK p.o i);have ab:=(i.cell (p:=⟨ar,6,K⟩) bc).trans a2;have u3:aM y c (a*7+1+2) (.string d.s):=Eg q.o N.o;have a8:y.frozen? ⟨c,a*7+1+2,K⟩=T5:=Ej q.o;have bv:=i.size;clear i E)
    have J:X (aP w (y.setCell ⟨c,a*7+1+2,K⟩ (.string d.s))):=ae.o.setCell (p:=⟨c,a*7+1+2,K⟩) (MZ q.o) _;have ap:=af (rJ q.o N.o);have bo:(y.setCell ⟨c,a*7+1+2,K⟩ (.string d.s)).cell? ⟨ar,6,K⟩=I (.string f.s):=by
     unfold Ur at ab ⊢;rw[Ut _ _ _ _ ba];exact ab
    clear u3 a8 ab ae q L p bd be bi bj bl bm a2;generalize y.setCell ⟨c,a*7+1+2,K⟩ (.string d.s)=bt at*
    go_upto_region 7 with(go_at_call 66;refine(G _).mono ?_;rintro e ad ⟨rfl,i⟩;have al:=af (J.o.trans (i.mono J.o.size));have s:=af (aK ap.o i);have u6:aM ad c (a*7+4+2) (.string f.s):=Eg s.o M.o;have a9:ad.frozen? ⟨c,a*7+4+2,K⟩=T5:=Ej s.o;clear i G)
    have a6:X (aP w (ad.setCell ⟨c,a*7+4+2,K⟩ (.string f.s))):=al.o.setCell (p:=⟨c,a*7+4+2,K⟩) (MZ s.o) _;have a7:=af (rJ s.o M.o);clear u6 a9 bo al s J ap;go_wp2
    go_roundw
    case rel=>exact⟨a+1,by omega,by go_num,a7.o,a6.o⟩
    case measure=>simp[US];omega
   ·clear m C;go_wp2;go_ret;exact⟨H.o,.inr ⟨B,_,rfl,A.o⟩⟩
 ·have R:l.length=0:=by omega
  have am:UB aI 107 #[.slice t 0 cap] w λe w'=>aP w w'/\∃co,e= .returned (.slice co 0 0):=by
   rw[R] at o;exact o.mono λe w' g=>⟨g.1,(g.2.resolve_right λg=>absurd g.1 (by omega)).2⟩
  rw[R];clear o R B O av;go_enter an.func71,Tryz.ntmps71
  go_wp2_with (go_at_call 107;refine am.mono ?_;rintro e a3 ⟨x,co,rfl⟩)
  have z:=af x;clear x am
  go_loopw [10] (λn wr=>n= .int .i64 0/\wr=a3) (λn _=>0)
  case atStart=>exact⟨rfl,rfl⟩
  case round=>
   obtain⟨rfl,rfl⟩:=hrel;go_wp2;go_ret;exact⟨z.o,.inl ⟨trivial,_,rfl⟩⟩
def Se (w:F)(s:ByteArray)(e:Xa)(w':F):Prop:=
 aP w w'/\((∃(b:List (bK×Int)) (a:List Bd) (c:List (Bd×U)) (d f h:U),e= .returned (.tuple #[.agg #[d,f,h],.bool Z])/\fY s b a/\c.map Uw=a/\cN w' w.heap.size b c d f h/\(∀i g,fY s i g->i=b/\g=a))\/
  (e= .returned (.tuple #[.agg #[aO,aO,aO],.bool T5])/\∀b a,¬fY s b a))
def uy(s:ByteArray)(w:F)(ba:s.size<=Up):
 UB aI 44 #[.string s] w (Se w s):=by
 have G:X ((w.alloc (.cells #[aO,aO,aO] 105)).heap[w.heap.size]? =I (.cells #[aO,aO,aO] 105 (0,0))):=bk w _;have P:X (aP w (w.alloc (.cells #[aO,aO,aO] 105))):=(Uo _ _).alloc (T6 _) _;have bc:∀(W:Fn) (first R:Array U) (w:F),(Instr.makeFunc W first R).run aI w= .ok (.func W first R) w:=λ_ _ _ _=>rfl;go_enter an.func44,Tryz.ntmps44
 go_wp2_with fail
 refine(OI s _ ba).mono ?_;rintro a6 b ⟨a9,M⟩;have q:X (b.heap[w.heap.size]? =I (.cells #[aO,aO,aO] 105 (0,0))):=(M.block _ (Ud G.o)).trans G.o;have B:X (aP w b):=P.o.trans (M.mono (by simp));have al:w.heap.size<b.heap.size:=Ud q.o;clear G P M;rcases a9 with⟨d,O,rfl,hcut⟩|⟨rfl,m⟩;rotate_left
 ·have E:X (∀a c,¬fY s a c):=λa c h=>m _ _ h.2;have j:(b.alloc (.cells #[.string ⟨#[]⟩] 9)).heap[w.heap.size]? =I (.cells #[aO,aO,aO] 105 (0,0)):=by rw[UN _ _ _ al];exact q.o
  have i:aP w (b.alloc (.cells #[.string ⟨#[]⟩] 9)):=B.o.alloc (by omega) _;clear m
  go_upto_region 2 with fail
  generalize b.alloc (.cells #[.string ⟨#[]⟩] 9)=H at*;have au:X (aP w (gS H w.heap.size aO aO aO)):=mM _ _ _ i (T6 _) (T6 _);obtain⟨⟨ao,ap,ar⟩,S,T,V⟩:=fJ j;obtain⟨⟨n,o,p⟩,-⟩:=fJ (qP aO aO aO j);clear j i;unfold gS at*;go_wp2;simp[VR,UX,Tryz.results44,go_sem,n,o,p];exact⟨au.o,.inr ⟨rfl,E.o⟩⟩
 ·have D:=af hcut;have ae:=hcut.len;have bb:=hcut.1;rw[aj,aj] at ae;have j:(b.alloc (.cells #[.string d] 9)).heap[w.heap.size]? =I (.cells #[aO,aO,aO] 105 (0,0)):=by rw[UN _ _ _ al];exact q.o
  have i:aP w (b.alloc (.cells #[.string d] 9)):=B.o.alloc (by omega) _;have Y:(b.alloc (.cells #[.string d] 9)).heap[b.heap.size]? =I (.cells #[.string d] 9 (0,0)):=bk b _;have N:w.heap.size<=(b.alloc (.cells #[.string d] 9)).heap.size:=i.size;have a8:O.size<=65536:=by omega
  have a7:d.size<=65536:=by omega
  clear hcut ae bb
  go_upto_region 2 with fail
  generalize b.alloc (.cells #[.string d] 9)=H at*;generalize b.heap.size=a5 at*;have r:=af j;have Q:=af i;have av:=af Y;clear j i Y q B
  go_wp2_with fail
  refine(Hi a5 O d H a8 a7 av.o).mono ?_;rintro a6 f ⟨k,⟨a,c,g,a2,a3,a4,rfl,ad,Z,aa,ab,hF,am⟩|⟨rfl,m⟩⟩
  ·have e:f.heap[w.heap.size]? =I (.cells #[aO,aO,aO] 105 (0,0)):=(k.block _ (Ud r.o)).trans r.o;have l:aP w f:=Q.o.trans (k.mono N);have L:cN f w.heap.size a g a2 a3 a4:=hF.base N;obtain⟨t,ac,v,u,z,y,rfl,rfl,rfl⟩:=L.Ia;have aw:X (cN (gS f w.heap.size (.slice t a.length ac) (.slice v a.length u) (.slice z g.length y)) w.heap.size a g (.slice t a.length ac) (.slice v a.length u) (.slice z g.length y)):=L.gS _ _ _ e;have C:X (aP w (gS f w.heap.size (.slice t a.length ac) (.slice v a.length u) (.slice z g.length y))):=mM _ _ _ l (T6 _) (T6 _);have az:X (fY s a c):=⟨ad,by rw[<-aa,<-ab];exact D.o⟩;have a1:X (∀A x,fY s A x->A=a/\x=c):=λA x h=>by
    obtain⟨J,K⟩:=D.o.IL h.2;exact am A x h.1 K J
   have a0:=af Z;obtain⟨⟨ao,ap,ar⟩,S,T,V⟩:=fJ e;obtain⟨⟨n,o,p⟩,-⟩:=fJ (qP (.slice t a.length ac) (.slice v a.length u) (.slice z g.length y) e);clear e l L hF ad aa ab am k Z;unfold gS at*;go_wp2;simp[VR,UX,Tryz.results44,go_sem,n,o,p];exact⟨C.o,.inl ⟨a,c,g,_,_,_,rfl,az.o,a0.o,aw.o,a1.o⟩⟩
  ·have e:f.heap[w.heap.size]? =I (.cells #[aO,aO,aO] 105 (0,0)):=(k.block _ (Ud r.o)).trans r.o;have l:aP w f:=Q.o.trans (k.mono N);have C:X (aP w (gS f w.heap.size aO aO aO)):=mM _ _ _ l (T6 _) (T6 _);have E:X (∀a c,¬fY s a c):=λa c h=>by
    obtain⟨J,K⟩:=D.o.IL h.2;exact m a c h.1 K J
   obtain⟨⟨ao,ap,ar⟩,S,T,V⟩:=fJ e;obtain⟨⟨n,o,p⟩,-⟩:=fJ (qP aO aO aO e);clear e l m k;unfold gS at*;go_wp2;simp[VR,UX,Tryz.results44,go_sem,n,o,p];exact⟨C.o,.inr ⟨rfl,E.o⟩⟩
def CA(s:ByteArray)(w:F)(ap:s.size<=Up):
 UB aI 21 #[.string s] w λe w'=>aP w w'/\∃(cs:List bK) (n m:Nat) (C:U),e= .returned (.tuple #[C,.int .i64 (n:Int),.int .i64 (m:Int)])/\R9 s cs n m/\w'.ownsRow w.heap.size 63 2 C cs.length (eG cs)/\(m≠0->C=aO):=by
 go_enter an.func21,Tryz.ntmps21
 go_wp2_with fail
 refine(uy s _ ap).mono ?_;rintro e k ⟨p,⟨a,x,b,au,o,av,rfl,v,y,hF,H⟩|⟨rfl,T⟩⟩;rotate_left
 ·have r:X (aP w (k.alloc (.cells #[aO,aO,aO] 105))):=p.alloc p.size _;have ae:=af T;clear p T;go_wp2;simp[VR,UX,Tryz.results21,go_sem];exact⟨r.o,[],0,3,_,⟨rfl,rfl,rfl⟩,.inr ⟨ae.o,rfl,rfl,rfl⟩,Vp _ _ _ _,λ_=>rfl⟩
 ·obtain⟨c,ac,d,f,h,g,rfl,rfl,rfl⟩:=hF.Ia;have r:X (aP w (k.alloc (.cells #[.slice c a.length ac,.slice d a.length f,.slice h b.length g] 105))):=p.alloc p.size _;have S:=bk k (.cells #[.slice c a.length ac,.slice d a.length f,.slice h b.length g] 105);have A:X (cN (k.alloc (.cells #[.slice c a.length ac,.slice d a.length f,.slice h b.length g] 105)) w.heap.size a b (.slice c a.length ac) (.slice d a.length f) (.slice h b.length g)):=hF.below ((Uo _ _).alloc (T6 _) _);obtain⟨⟨I,J,L⟩,-⟩:=fJ S;have Z:X (R9 s (a.map Uw) (eU x) 0):=.inl ⟨a,x,v,rfl,rfl,rfl,λV Q l=>⟨(H V Q l).1,by rw[(H V Q l).2]⟩⟩;have ad:=af y;have al:=tA x (λo E=>(v.1.b8 o E).lo);have am:=v.1.rows;have ao:b.length<=65536:=by rw[<-UG (f:=Uw),y];omega
  have ar:∀o∈b.map Uw,o.rows<=100:=by rw[y];exact λo E=>(v.1.b8 o E).hi
  clear p hF v H S al am y
  go_upto_region 4 with fail
  have P:X (UB aI 45 #[.agg #[.slice c a.length ac,.slice d a.length f,.slice h b.length g]] (k.alloc (.cells #[.slice c a.length ac,.slice d a.length f,.slice h b.length g] 105)).drew λe w'=>e= .returned (.int .i64 (eU (b.map Uw):Int))/\Below (k.alloc (.cells #[.slice c a.length ac,.slice d a.length f,.slice h b.length g] 105)).drew.heap.size (k.alloc (.cells #[.slice c a.length ac,.slice d a.length f,.slice h b.length g] 105)).drew w'):=AQ c d _ _ _ _ w.heap.size _ b _ (A.o.b8.below ((Uo _ _).drew)) ao ar;have ab:k.heap.size<(k.alloc (.cells #[.slice c a.length ac,.slice d a.length f,.slice h b.length g] 105)).heap.size:=by simp
  generalize k.alloc (.cells #[.slice c a.length ac,.slice d a.length f,.slice h b.length g] 105)=t at*;generalize k.heap.size=i at*;have G:i<t.heap.size:=ab;refine Un.open_ (λj=>aM j i 0 (.slice c a.length ac)/\aM j i 1 (.slice d a.length f)/\aM j i 2 (.slice h b.length g)) 6 (λ_ _ _ _ _ l=>l) λaw=>?_;have D:(λj=>aM j i 0 (.slice c a.length ac)/\aM j i 1 (.slice d a.length f)/\aM j i 2 (.slice h b.length g)) t.drew:=⟨I,J,L⟩;refine Un.pk 0 ?_
  try simp only[UW,Ub,Uk,Uj]
  refine Un.ld [6] 1 ?_
  try simp only[UW,Ub,Uk,Uj]
  refine Un.ld [6] 2 ?_
  try simp only[UW,Ub,Uk,Uj]
  refine Un.on 3 λB u=>?_;go_simp;go_at_call 45;refine P.o.mono ?_;rintro e z ⟨rfl,R⟩;have q:aP t z:=(Uo t.heap.size t).drew.trans R;have W:X (aP w z):=r.o.trans (q.mono r.o.size);have aa:X (cN z w.heap.size a b (.slice c a.length ac) (.slice d a.length f) (.slice h b.length g)):=A.o.below q;have M:=(q.cell (p:=⟨i,0,K⟩) G).trans I;have N:=(q.cell (p:=⟨i,1,K⟩) G).trans J;have O:=(q.cell (p:=⟨i,2,K⟩) G).trans L;refine u.o _ _ (λ_=>⟨M,N,O⟩) ?_;clear u B D R q P r A I J L
  try simp only[UW,Ub,Uk,Uj]
  have D:(λj=>aM j i 0 (.slice c a.length ac)/\aM j i 1 (.slice d a.length f)/\aM j i 2 (.slice h b.length g)) z:=⟨M,N,O⟩;refine Un.pk 4 ?_
  try simp only[UW,Ub,Uk,Uj]
  refine Un.pk 5 ?_
  try simp only[UW,Ub,Uk,Uj]
  refine Un.on 6 λB u=>?_;go_simp;refine u.o _ _ (λl=>absurd l (by decide)) ?_;clear u B
  try simp only[UW,Ub,Uk,Uj]
  clear D M N O;refine Un.done (by kernel_rfl) ?_ _
  try simp only[UW,Ub,Uk,Uj]
  go_wp2;simp[VR,UX,Tryz.results21,go_sem];exact⟨W.o,a.map Uw,eU x,0,_,⟨rfl,by rw[ad.o],rfl⟩,Z.o,by rw[UG];exact aa.o.ah,λl=>absurd Y l⟩
end Ec
namespace Cc
open Go Go.Conc
open Go.RowKit (Below)
open Ec
open Pk
open Pm
def lR{w:F}{base:Nat}{e:Ug}{j n:Nat}{v:U}{f:List U}(h:w.ownsRow base e j v n f)(r:0<n):∃g cap,v= .slice (I ⟨g,0,K⟩) n cap/\base<=g/\g<w.heap.size/\∀o u,f[o]? =I u->aM w g o u:=by
 obtain⟨q,⟨b,c⟩|⟨g,cap,k,b,c,d,l,m,p,i⟩⟩:=h
 ·omega
 ·refine⟨g,cap,b,c,(Ua.1 d).1,λo u a=>?_⟩;rw[<-i,V8] at a
  split at a
  ·unfold Ur;simp only[d];simpa using a
  ·cases a
def zM (kb eb c:Nat)(cQ:Nat->Nat)(cb rb n d e:Nat):Nat->Prop:=λa=>a=kb\/a=eb\/(0<n/\a=c)\/(∃b,b<n/\a=cQ b)\/(0<d/\a=cb)\/(0<e/\a=rb)
def FM.kept{W W':F}{l:List (bK×Int)}{bs:List Bd}{ah:List Int}{rs:List cE}{kb eb:Nat}{r:Option UJ}{p:Nat}{cQ nh:Nat->Nat}{co:Option UJ}{cb bE:Nat}{ro:Option UJ}{rb bh:Nat}(h:FM W l bs ah rs kb eb r p cQ nh co cb bE ro rb bh)(m:W.heap.size<=W'.heap.size)(w:∀b,zM kb eb p cQ cb rb bs.length ah.length rs.length b->m6 W' W b):FM W' l bs ah rs kb eb r p cQ nh co cb bE ro rb bh:=by
 have k:∀b,zM kb eb p cQ cb rb bs.length ah.length rs.length b->∀o v,aM W b o v->aM W' b o v:=λb i o v n=>by
  unfold Ur at n ⊢;cases q:W.heap[b]? with
  |none=>rw[q] at n;cases n
  |some j=>
   rw[q] at n;cases j<;>first|(cases n;done)|skip
   rw[w b i _ q trivial];exact n
 have s:∀d b,bs[d]? =I b->d<bs.length:=λd b h=>(Uz.1 h).1;have f:∀{o v},0<rs.length->aM W rb o v->aM W' rb o v:=λg=>k rb (.inr (.inr (.inr (.inr (.inr ⟨g,rfl⟩))))) _ _;have e:=h.nr;refine⟨λc j a=>k kb (.inl Y) _ _ (h.k c j a),λc j a=>k eb (.inr (.inl Y)) _ _ (h.e c j a),λd b i=>?_,λd b i c j a x y u=>k (cQ d) (.inr (.inr (.inr (.inl ⟨d,s d b i,rfl⟩)))) _ _ (h.c d b i c j a x y u),Uc h.lk m,Uc h.le m,h.da,λg=>Uc (h.ld g) m,λd t=>Uc (h.lc d t) m,h.ca,λg=>Uc (h.cl g) m,λc a=>k cb (.inr (.inr (.inr (.inr (.inl ⟨by omega,rfl⟩))))) _ _ (h.cc c a),
  ⟨e.addr,λg=>Uc (e.lt g) m,λc a=>f (by omega) (e.c0 c a),λc a=>f (by omega) (e.c1 c a),λc a=>f (by omega) (e.c2 c a),λc a=>f (by omega) (e.c3 c a),λc a=>f (by omega) (e.c4 c a),λc a=>f (by omega) (e.c5 c a),λc a=>f (by omega) (e.c6 c a)⟩⟩
 intro c v a;exact k p (.inr (.inr (.inl ⟨by have:=s d b i;omega,rfl⟩))) _ _ (h.d d b i c v a)
def D2{W' W:F}{b:Nat}(h:W'.heap[b]? =W.heap[b]?):m6 W' W b:=λc a _=>h.trans a
def MH{W' w':F}{b:Nat}(h:Un W' w'):m6 w' W' b:=λe d c=>h.o d λa=>(ez aI).Rh (a▸c)
def Lg (W:F)(base:Nat)(a:U)(ah:List Int):Prop:=(ah.length=0/\∃b,a= .slice b 0 0)\/(0<ah.length/\W.ownsRow base 3 1 a ah.length (bz ah))
def Qn (W:F)(base:Nat)(a:U)(rs:List cE):Prop:=(rs.length=0/\∃b,a= .slice b 0 0)\/(0<rs.length/\W.ownsRow base 61 7 a rs.length (dK rs))
def Lg.below{W W':F}{base:Nat}{a:U}{ah:List Int}(h:Lg W base a ah)(b:aP W W'):Lg W' base a ah:=h.imp (λh=>h) λh=>⟨h.1,aK h.2 b⟩
def Lg.at_{W:F}{base:Nat}{c:U}{ah:List Int}(h:Lg W base c ah):∃co cb cap,c= .slice co ah.length cap/\(0<ah.length->co=I ⟨cb,0,K⟩/\base<=cb/\cb<W.heap.size)/\∀j,j<ah.length->aM W cb (0+j) (.int .i64 (ah.getD j 0)):=by
 rcases h with⟨a,co,rfl⟩|⟨a,h⟩
 ·exact⟨co,0,0,by rw[a],λh=>absurd h (by omega),λj b=>absurd b (by omega)⟩
 ·obtain⟨d,cap,rfl,e,f,g⟩:=lR h a;refine⟨_,d,cap,rfl,λ_=>⟨rfl,e,f⟩,λj b=>?_⟩;rw[UT];refine g j _ ?_;simp[bz,Uh,Ul b]
def Qn.at_{W:F}{base:Nat}{d:U}{rs:List cE}(h:Qn W base d rs):∃ro rb cap,d= .slice ro rs.length cap/\(0<rs.length->base<=rb/\rb<W.heap.size)/\dA W ro rb 0 rs:=by
 rcases h with⟨b,ro,rfl⟩|⟨b,h⟩
 ·refine⟨ro,0,0,by rw[b],λh=>absurd h (by omega),?_⟩;have e:=Vh b;subst e;exact⟨λh=>absurd h (by simp),λh=>absurd h (by simp),λa h=>absurd h (by simp),λa h=>absurd h (by simp),λa h=>absurd h (by simp),λa h=>absurd h (by simp),λa h=>absurd h (by simp),λa h=>absurd h (by simp),λa h=>absurd h (by simp)⟩
 ·obtain⟨f,cap,rfl,g,c,i⟩:=lR h b;exact⟨_,f,cap,rfl,λ_=>⟨g,c⟩,dA.D9 c λk v j=>by rw[UT];exact i k v j⟩
def Dl:U->Nat
 | .slice (I a) _ _=>a.block
 |_=>0
def Qw:U->Nat
 | .slice _ _ a=>a
 |_=>0
def Qy{W:F}{base:Nat}{l:List (bK×Int)}{bs:List Bd}{L:List (Bd×U)}{a b c G Q:U}{ah:List Int}{rs:List cE}(N:xd l bs)(hL:L.map Uw=bs)(h:cN W base l L a b c)(hc:Lg W base G ah)(ad:Qn W base Q rs):
 ∃(kb ck eb ce:Nat) (p:Option UJ) (j dg:Nat) (cQ nh:Nat->Nat) (co:Option UJ) (cb aJ:Nat) (ro:Option UJ) (rb aN:Nat),a= .slice (I ⟨kb,0,K⟩) l.length ck/\b= .slice (I ⟨eb,0,K⟩) l.length ce/\c= .slice p bs.length dg/\G= .slice co ah.length aJ/\Q= .slice ro rs.length aN/\FM W l bs ah rs kb eb p j cQ nh co cb 0 ro rb 0/\∀x,zM kb eb j cQ cb rb bs.length ah.length rs.length x->base<=x/\x<W.heap.size:=by
 have B:0<l.length:=by
  have:=N.pl.1.1;simp at this;omega
 have A:L.length=bs.length:=by rw[<-hL,UG]
 obtain⟨kb,ck,rfl,am,P,ao⟩:=lR h.ah B;obtain⟨eb,ce,rfl,X,H,Y⟩:=lR h.eH B;obtain⟨co,cb,aJ,rfl,w,S⟩:=hc.at_;obtain⟨ro,rb,aN,rfl,au,av⟩:=ad.at_;have Z:∃p j dg,c= .slice p bs.length dg/\(0<bs.length->p=I ⟨j,0,K⟩/\base<=j/\j<W.heap.size)/\∀m g,(nG L)[m]? =I g->aM W j m g:=by
  rcases Nat.eq_zero_or_pos L.length with e|e
  ·obtain⟨R,n,z⟩:=bC h.b8.own;have V:=Vh e;refine⟨R,0,n,by rw[<-A];exact z,λh=>absurd h (by omega),λm g O=>?_⟩;rw[V] at O;simp[nG] at O
  ·obtain⟨k,n,z,s,y,T⟩:=lR h.b8.own e;exact⟨_,k,n,by rw[<-A];exact z,λ_=>⟨rfl,s,y⟩,T⟩
 obtain⟨p,j,dg,rfl,s,y⟩:=Z;have M:∀d b,bs[d]? =I b->∃(f:d<L.length),L[d].1=b/\∃k n,L[d].2= .slice (I ⟨k,0,K⟩) l.length n/\base<=k/\k<W.heap.size/\∀m g,(ei b.chunks)[m]? =I g->aM W k m g:=λd b i=>by
  have f:d<L.length:=by rw[A];exact(Uz.1 i).1
  have J:L[d].1=b:=by
   have:(L.map Uw)[d]? =I b:=by rw[hL];exact i
   rw[List.getElem?_map,Ul f] at this;simpa using this
  have ab:b.chunks.length=l.length:=by
   have:=(N.b8 b (VD i)).len;simpa using this
  have:=h.b8.each L[d] (Ui f);rw[J,ab] at this;obtain⟨k,n,r,C,D,E⟩:=lR this B;exact⟨f,J,k,n,r,C,D,E⟩
 have t:∀d b,bs[d]? =I b->(L.getD d (⟨0,[]⟩,.bool T5)).2= .slice (I ⟨Dl (L.getD d (⟨0,[]⟩,.bool T5)).2,0,K⟩) l.length (Qw (L.getD d (⟨0,[]⟩,.bool T5)).2)/\base<=Dl (L.getD d (⟨0,[]⟩,.bool T5)).2/\Dl (L.getD d (⟨0,[]⟩,.bool T5)).2<W.heap.size/\∀m g,(ei b.chunks)[m]? =I g->W.cell? ⟨Dl (L.getD d (⟨0,[]⟩,.bool T5)).2,m,K⟩=I g:=λd b i=>by
  obtain⟨f,_,k,n,r,C,D,E⟩:=M d b i;have:L.getD d (⟨0,[]⟩,.bool T5)=L[d]:=by rw[Uh,Ul f];rfl
  rw[this,r];exact⟨rfl,C,D,E⟩
 refine⟨kb,ck,eb,ce,p,j,dg,λd=>Dl (L.getD d (⟨0,[]⟩,.bool T5)).2,λd=>Qw (L.getD d (⟨0,[]⟩,.bool T5)).2,co,cb,aJ,ro,rb,aN,rfl,rfl,rfl,rfl,rfl,⟨λq x o=>?_,λq x o=>?_,λd b i=>?_,λd b i q x o aw g ae=>?_,P,H,λe=>(s e).1,λe=>(s e).2.2,λd f=>(t d _ (Ul f)).2.2.1,λe=>(w e).1,λe=>(w e).2.2,S,av⟩,λx al=>?_⟩
 ·obtain⟨u,rfl⟩:=Uz.1 o;rw[UT];have:=(AL (l.map Uw) q (by simpa using u)).2;simp only[Xr] at this;exact ao _ _ this
 ·obtain⟨u,rfl⟩:=Uz.1 o;rw[UT,Nat.mul_one];exact Y _ _ (by simp[bz,Ul u])
 ·obtain⟨f,ap,-⟩:=M d b i;have r:=(t d b i).1;have ar:L.getD d (⟨0,[]⟩,.bool T5)=L[d]:=by rw[Uh,Ul f];rfl
  intro q v o;have aa:(n5 L[d])[q]? =I v:=by
   unfold n5;rw[ap];rw[ar] at r o;rw[r];exact o
  have:=y _ _ (lP n5 2 qC L d f q v aa);rw[UT];exact this
 ·obtain⟨u,rfl⟩:=Uz.1 o;exact(t d b i).2.2.2 _ _ (lP dH 8 ux b.chunks q u aw g ae)
 ·rcases al with rfl|rfl|⟨e,rfl⟩|⟨d,f,rfl⟩|⟨e,rfl⟩|⟨e,rfl⟩
  ·exact⟨am,P⟩
  ·exact⟨X,H⟩
  ·exact(s e).2
  ·exact⟨(t d _ (Ul f)).2.1,(t d _ (Ul f)).2.2.1⟩
  ·exact(w e).2
  ·exact au e
end Cc
namespace Cc
open Go Go.Conc
open Go.RowKit (Below)
open Ec
open Pk (bz)
abbrev Fo:=Option (List (bK×Int)×List Bd)
def rS (s:ByteArray):Fo->Prop
 |none=>∀b a,¬fY s b a
 |some (b,a)=>fY s b a/\∀d c,fY s d c->d=b/\c=a
def wH (n:Nat)(ah:List Int)(rs:List cE):Bool:=ah.all (cW n)&&rs.all λa=>cW n a.col
def kC (l:List (bK×Int))(k:Int):Int:=(l.getD k.toNat (⟨⟨#[]⟩,0⟩,0)).1.kind
def Cu (l:List (bK×Int))(rs:List cE):Bool:=rs.all λa=>iU (kC l a.col) a
def jy (b:Fo)(ah:List Int)(rs:List cE):Nat:=match b with
 |none=>3
 |some (a,_)=>if wH a.length ah rs then(if Cu a rs then 0 else 5) else 4
def oS{n:Nat}{k:Int}:cW n k=Z↔0<=k/\k<(n:Int):=by
 unfold cW;simp
def sJ{n:Nat}{ah:List Int}{rs:List cE}:wH n ah rs=Z↔(∀k∈ah,0<=k/\k<(n:Int))/\∀r∈rs,0<=r.col/\r.col<(n:Int):=by
 unfold wH;rw[Uv,Uy,Uy];simp only[oS]
def I0{a:Fo}{ah:List Int}{rs:List cE}(h:jy a ah rs=0):∃l bs,a=I (l,bs)/\wH l.length ah rs=Z/\Cu l rs=Z:=by
 cases a with
 |none=>simp[jy] at h
 |some d=>
  obtain⟨l,bs⟩:=d;simp only[jy] at h
  split at h
  ·rename_i b
   split at h
   ·rename_i c;exact⟨l,bs,rfl,b,c⟩
   ·cases h
  ·cases h
def xp{l:List (bK×Int)}(h:nS l){k:Int}(e:cW l.length k=Z):kC l k=1\/kC l k=2\/kC l k=3:=by
 obtain⟨d,f⟩:=oS.1 e;obtain⟨b,rfl⟩:=WB d;have a:b<l.length:=by omega
 have c:=(h.1.2.2 b (by simpa using a)).1;simp only[Xr,nZ,fW,Uv,decide_eq_true_eq] at c;unfold kC;rw[Uh];simp[a];omega
def yF{v:aD}{k:Int}(b:k=1\/k=2\/k=3)(h:fP v k=Z):v.s.size<=32:=by
 have a:∀s:ByteArray,(s.toList==[])=Z->s.size<=32:=λs h=>by
  have:s.toList=[]:=by simpa using h
  rw[kO this];decide
 unfold fP at h
 split at h
 ·rw[Uv] at h;exact a _ h.2
 ·split at h
  ·exact a _ h
  ·split at h
   ·rw[Uv] at h;exact a _ h.2
   ·rw[Uv,decide_eq_true_eq] at h;have:=h.2;omega
end Cc
namespace Ec
open Go.RowKit Pk Pm
open Cc (Lg Qn Fo rS wH kC Cu jy oS sJ xp yF lR)
def wM (w:F)(g:Nat)(a b c d e f:U):F:=(((((w.setCell ⟨g,0,K⟩ a).setCell ⟨g,1,K⟩ b).setCell ⟨g,2,K⟩ c).setCell ⟨g,3,K⟩ d).setCell ⟨g,4,K⟩ e).setCell ⟨g,5,K⟩ f
def xw{w:F}{g:Nat}{a b c d e f:U}{t:Ug}(i j k l m n:U)(h:w.heap[g]? =I (.cells #[a,b,c,d,e,f] t (0,0))):(wM w g i j k l m n).heap[g]? =I (.cells #[i,j,k,l,m,n] t (0,0)):=by
 have o:=Uq w g 0 _ _ i h;have p:=Uq _ g 1 _ _ j o;have q:=Uq _ g 2 _ _ k p;have r:=Uq _ g 3 _ _ l q;have s:=Uq _ g 4 _ _ m r;exact Uq _ g 5 _ _ n s
def oB{w w0:F}{g n:Nat}(c d e f i j:U)(h:Below n w0 w)(b:n<=w0.heap.size)(a:n<=g):Below n w0 (wM w g c d e f i j):=
 bS (bS (bS (bS (bS (bS h b a _ _) b a _ _) b a _ _) b a _ _) b a _ _) b a _ _
def qj{W:F}{g:Nat}{a b c d e f:U}{t:Ug}(h:W.heap[g]? =I (.cells #[a,b,c,d,e,f] t (0,0))):W.frozen? ⟨g,0,K⟩=T5/\W.frozen? ⟨g,1,K⟩=T5/\W.frozen? ⟨g,2,K⟩=T5/\W.frozen? ⟨g,3,K⟩=T5/\W.frozen? ⟨g,4,K⟩=T5/\W.frozen? ⟨g,5,K⟩=T5:=by
 unfold UQ;simp[h]
def yw(n:Nat)(ah:List Int)(rs:List cE)(d:Option UJ)(a:Nat)(b c:U)(co:Option UJ)(cb bE aJ:Nat)(ro:Option UJ)(rb bh aN:Nat)(sk:Bool)(w:F)(l:ah.length<=Up)(m:rs.length<=Up)
 (h:0<ah.length->co=I ⟨cb,bE,K⟩) (k:0<ah.length->cb<w.heap.size) (i:∀j,j<ah.length->aM w cb (bE+j) (.int .i64 (ah.getD j 0))) (o:dA w ro rb bh rs):
 UB aI 68 #[.agg #[.slice d n a,b,c,.slice co ah.length aJ,.slice ro rs.length aN,.bool sk]] w λe w'=>e= .returned (.bool (wH n ah rs))/\aP w w':=by
 refine(yu n ah rs d a b c co cb bE aJ ro rb bh aN sk w l m h k i o).mono ?_;rintro e w' ⟨p,rfl,f,g⟩;refine⟨j4 ?_,g⟩;rw[XF,f];unfold wH;rw[Uv,Uy,Uy,List.forall_mem_iff_forall_getElem,List.forall_mem_iff_forall_getElem]
def Ah(l:List (bK×Int))(rs:List cE)(kb g:Nat)(b c d:U)(ro:Option UJ)(rb bh aN:Nat)(sk:Bool)(w:F)(t:rs.length<=Up)(i:nS l)(a:dA w ro rb bh rs)(k:∀r∈rs,cW l.length r.col=Z)(q:kb<w.heap.size)(p:∀j x,l[j]? =I x->aM w kb (j*2+1) (.int .i64 x.1.kind)):
 UB aI 69 #[.agg #[.slice (I ⟨kb,0,K⟩) l.length g,b,c,d,.slice ro rs.length aN,.bool sk]] w λe w'=>e= .returned (.bool (Cu l rs))/\aP w w':=by
 have s:l.length<=Up:=by have:=i.each.2;unfold Up;omega
 refine(Ag l.length rs (kC l) kb g b c d ro rb bh aN sk w t s a λr a=>?_).mono ?_
 ·obtain⟨n,v⟩:=oS.1 (k r a);obtain⟨j,h⟩:=WB n;have f:j<l.length:=by omega
  refine⟨j,h,f,q,?_,xp i (k r a)⟩;have:=p j _ (Ul f);rw[this];unfold kC;rw[h,Uh];simp[f]
 ·rintro e w' ⟨u,rfl,m,o⟩;refine⟨j4 ?_,o⟩;rw[XF,m];unfold Cu;rw[Uy,List.forall_mem_iff_forall_getElem]
def dA.cells{w:F}{f:Option UJ}{b off:Nat}{l:List cE}(h:dA w f b off l):∀j u,(dK l)[j]? =I u->aM w b (off+j) u:=by
 intro j u e;have o:j<l.length*7:=by rw[<-rH];exact(Uz.1 e).1
 have c:j/7<l.length:=by omega
 have g:j=j/7*7+j%7:=by omega
 have p:j%7<7:=Nat.mod_lt _ (by decide);have n:(dK l)[j/7*7+j%7]? =I u:=by rw[<-g];exact e
 have d:∀a v,j%7=a->(si l[j/7])[a]? =I v->u=v:=λa v k m=>by
  have:=n9 l (j/7) c a v m;rw[<-k,n] at this;exact Yk this
 have i:off+j=off+j/7*7+j%7:=by omega
 rw[i];generalize j%7=a at*;have:a=0\/a=1\/a=2\/a=3\/a=4\/a=5\/a=6:=by omega
 rcases this with rfl|rfl|rfl|rfl|rfl|rfl|rfl
 ·rw[d 0 _ Y Y];exact h.c0 _ c
 ·rw[d 1 _ Y Y];exact h.c1 _ c
 ·rw[d 2 _ Y Y];exact h.c2 _ c
 ·rw[d 3 _ Y Y];exact h.c3 _ c
 ·rw[d 4 _ Y Y];exact h.c4 _ c
 ·rw[d 5 _ Y Y];exact h.c5 _ c
 ·rw[d 6 _ Y Y];exact h.c6 _ c
structure Dd(W:F)(base:Nat)(l:List (bK×Int))(L:List (Bd×U))(a b c cv rv:U)(ah:List Int)(rs:List cE):Prop where
 f:cN W base l L a b c
 c:Lg W base cv ah
 r:Qn W base rv rs
def Dd.put{W:F}{base:Nat}{l:List (bK×Int)}{L:List (Bd×U)}{a b c e f:U}{ah:List Int}{rs:List cE}(h:Dd W base l L a b c e f ah rs){g:Nat}{cs:Array U}(d:W.heap[g]? =I (.cells cs 115 (0,0)))(o:Nat)(u:U):Dd (W.setCell ⟨g,o,K⟩ u) base l L a b c e f ah rs:=by
 refine⟨⟨h.f.ah.kept (aQ W g o u) (.inr (bw h.f.ah d (by decide)).symm),h.f.eH.kept (aQ W g o u) (.inr (bw h.f.eH d (by decide)).symm),h.f.b8.put d (by decide) (by decide) o u⟩,h.c.imp (λh=>h) λh=>⟨h.1,h.2.kept (aQ W g o u) (.inr (bw h.2 d (by decide)).symm)⟩,h.r.imp (λh=>h) λh=>⟨h.1,h.2.kept (aQ W g o u) (.inr (bw h.2 d (by decide)).symm)⟩⟩
def Dd.wM{W:F}{base:Nat}{l:List (bK×Int)}{L:List (Bd×U)}{a b c d m:U}{ah:List Int}{rs:List cE}(h:Dd W base l L a b c d m ah rs){g:Nat}{t u v w x y:U}(n o p q r z:U)(k:W.heap[g]? =I (.cells #[t,u,v,w,x,y] 115 (0,0))):Dd (wM W g n o p q r z) base l L a b c d m ah rs:=by
 have e:=Uq W g 0 _ _ n k;have f:=Uq _ g 1 _ _ o e;have i:=Uq _ g 2 _ _ p f;have j:=Uq _ g 3 _ _ q i;have s:=Uq _ g 4 _ _ r j;exact(((((h.put k _ _).put e _ _).put f _ _).put i _ _).put j _ _).put s _ _
def SX (w:F)(a:Fo)(ah:List Int)(rs:List cE)(sk:Bool)(e:Xa)(w':F):Prop:=
 aP w w'/\((jy a ah rs≠0/\e= .returned (.tuple #[.agg #[aO,aO,aO,aO,aO,.bool T5],.int .i64 (jy a ah rs:Int)]))\/
  (∃(i:List (bK×Int)) (f:List Bd) (b:List (Bd×U)) (c d g h j:U),a=I (i,f)/\jy a ah rs=0/\e= .returned (.tuple #[.agg #[c,d,g,h,j,.bool sk],.int .i64 0])/\b.map Uw=f/\cN w' w.heap.size i b c d g/\Lg w' w.heap.size h ah/\Qn w' w.heap.size j rs))
def Oq(s:ByteArray)(B:Fo)(ah:List Int)(rs:List cE)(co:Option UJ)(cb bE aJ:Nat)(ro:Option UJ)(rb bh aN:Nat)(sk:Bool)(w:F)(e5:s.size<=Up)(hF:rS s B)(ea:ah.length<=1000)(eh:rs.length<=1000)
 (d7:0<ah.length->co=I ⟨cb,bE,K⟩) (d9:0<ah.length->cb<w.heap.size) (d8:∀j,j<ah.length->aM w cb (bE+j) (.int .i64 (ah.getD j 0))) (al:dA w ro rb bh rs):
 UB aI 48 #[.string s,.slice co ah.length aJ,.slice ro rs.length aN,.bool sk] w (SX w B ah rs sk):=by
 have c6:=af d7;have a5:=af d9;have c7:=af d8;have dp:=af al;have am:=af hF;have da:=af ea;have br:=af eh;have aa:X ((w.alloc (.cells #[aO,aO,aO,aO,aO,.bool T5] 115)).heap[w.heap.size]? =I (.cells #[aO,aO,aO,aO,aO,.bool T5] 115 (0,0))):=bk w _;have a4:X (aP w (w.alloc (.cells #[aO,aO,aO,aO,aO,.bool T5] 115))):=(Uo _ _).alloc (T6 _) _;clear d7 d9 d8 al hF ea eh;go_enter an.func48,Tryz.ntmps48
 go_wp2_with fail
 refine(uy s _ e5).mono ?_;rintro x k ⟨N,⟨a,dE,b,fm,ft,fu,rfl,av,d2,ar,e8⟩|⟨rfl,ef⟩⟩;rotate_left
 ·have d0:jy B ah rs=3:=by
   cases B with
   |none=>rfl
   |some fa=>exact(ef _ _ am.o.1).elim
  have ae:=Ud aa.o;have bc:(k.alloc (.cells #[aO,aO,aO] 105)).heap[w.heap.size]? =I (.cells #[aO,aO,aO,aO,aO,.bool T5] 115 (0,0)):=by rw[UN _ _ _ (Uc ae N.size)];exact(N.block _ ae).trans aa.o
  have M:aP w k:=a4.o.trans (N.mono (by simp));have dO:aP w (k.alloc (.cells #[aO,aO,aO] 105)):=M.alloc M.size _;have r:=af d0;clear d0 ae ef N aa a4 am M
  go_upto_region 3 with fail
  generalize k.alloc (.cells #[aO,aO,aO] 105)=e0 at*;have q:X (aP w (wM e0 w.heap.size aO aO aO aO aO (.bool T5))):=oB _ _ _ _ _ _ dO (T6 _) (T6 _);obtain⟨cp,cs,cu,cv,cx,cR⟩:=jC bc;obtain⟨bu,bv,bx,bA,bB,b0⟩:=qj bc;obtain⟨P,Q,R,S,T,U⟩:=jC (xw aO aO aO aO aO (.bool T5) bc);clear bc dO;unfold wM at*;go_wp2;simp[VR,UX,Tryz.results48,go_sem,P,Q,R,S,T,U];exact⟨q.o,.inl ⟨by rw[r.o];decide,by rw[r.o];rfl⟩⟩
 ·have d1:B=I (a,dE):=by
   cases B with
   |none=>exact(am.o _ _ av).elim
   |some fa=>
    obtain⟨e1,e2⟩:=am.o.2 _ _ av;rw[e1,e2]
  have a6:=af d1;have et:=af d2;have e6:0<a.length:=by
   have:=av.1.pl.1.1;simp at this;omega
  have bl:=af av.1.pl;obtain⟨c,f,rfl,e9,ck,el⟩:=lR ar.ah e6;obtain⟨e,d,rfl⟩:=bC ar.eH;obtain⟨g,h,rfl⟩:=bC ar.b8.own;have ae:=Ud aa.o;have M:aP w k:=a4.o.trans (N.mono (by simp));have b2:k.heap[w.heap.size]? =I (.cells #[aO,aO,aO,aO,aO,.bool T5] 115 (0,0)):=(N.block _ ae).trans aa.o;have ee:w.heap.size<k.heap.size:=Ud b2;have ab:aP k ((k.alloc (.cells #[.slice (I ⟨c,0,K⟩) a.length f,.slice e a.length d,.slice g b.length h] 105)).alloc (.cells #[.slice (I ⟨c,0,K⟩) a.length f,.slice e a.length d,.slice g b.length h,.slice co ah.length aJ,.slice ro rs.length aN,.bool sk] 115)):=((Uo _ _).alloc (T6 _) _).alloc (by simp) _;have a7:X (((k.alloc (.cells #[.slice (I ⟨c,0,K⟩) a.length f,.slice e a.length d,.slice g b.length h] 105)).alloc (.cells #[.slice (I ⟨c,0,K⟩) a.length f,.slice e a.length d,.slice g b.length h,.slice co ah.length aJ,.slice ro rs.length aN,.bool sk] 115)).heap[k.heap.size+1]? =I (.cells #[.slice (I ⟨c,0,K⟩) a.length f,.slice e a.length d,.slice g b.length h,.slice co ah.length aJ,.slice ro rs.length aN,.bool sk] 115 (0,0))):=jG _ _ _;have ao:X (((k.alloc (.cells #[.slice (I ⟨c,0,K⟩) a.length f,.slice e a.length d,.slice g b.length h] 105)).alloc (.cells #[.slice (I ⟨c,0,K⟩) a.length f,.slice e a.length d,.slice g b.length h,.slice co ah.length aJ,.slice ro rs.length aN,.bool sk] 115)).heap[w.heap.size]? =I (.cells #[aO,aO,aO,aO,aO,.bool T5] 115 (0,0))):=(ab.block _ ee).trans b2;have q:X (aP w ((k.alloc (.cells #[.slice (I ⟨c,0,K⟩) a.length f,.slice e a.length d,.slice g b.length h] 105)).alloc (.cells #[.slice (I ⟨c,0,K⟩) a.length f,.slice e a.length d,.slice g b.length h,.slice co ah.length aJ,.slice ro rs.length aN,.bool sk] 115))):=M.trans (ab.mono M.size);have db:X (cN ((k.alloc (.cells #[.slice (I ⟨c,0,K⟩) a.length f,.slice e a.length d,.slice g b.length h] 105)).alloc (.cells #[.slice (I ⟨c,0,K⟩) a.length f,.slice e a.length d,.slice g b.length h,.slice co ah.length aJ,.slice ro rs.length aN,.bool sk] 115)) w.heap.size a b (.slice (I ⟨c,0,K⟩) a.length f) (.slice e a.length d) (.slice g b.length h)):=(ar.base (by simp)).below ab;have ec:c<((k.alloc (.cells #[.slice (I ⟨c,0,K⟩) a.length f,.slice e a.length d,.slice g b.length h] 105)).alloc (.cells #[.slice (I ⟨c,0,K⟩) a.length f,.slice e a.length d,.slice g b.length h,.slice co ah.length aJ,.slice ro rs.length aN,.bool sk] 115)).heap.size:=Uc ck ab.size;have df:X (∀j J,a[j]? =I J->((k.alloc (.cells #[.slice (I ⟨c,0,K⟩) a.length f,.slice e a.length d,.slice g b.length h] 105)).alloc (.cells #[.slice (I ⟨c,0,K⟩) a.length f,.slice e a.length d,.slice g b.length h,.slice co ah.length aJ,.slice ro rs.length aN,.bool sk] 115)).cell? ⟨c,j*2+1,K⟩=I (.int .i64 J.1.kind)):=λj J p=>by
   obtain⟨cd,rfl⟩:=Uz.1 p;have:=(AL (a.map Uw) j (by simpa using cd)).2;simp only[Xr] at this;exact(ab.cell (p:=⟨c,j*2+1,K⟩) ck).trans (el _ _ this)
  have dc:X (w.heap.size≠k.heap.size+1):=by show _≠_;omega
  have dd:X (w.heap.size<=k.heap.size+1):=by show _<=_;omega
  clear ar av e8 d2 d1 N aa a4 am M b2 ae e9 ck el ab ee
  go_upto_region 5 with fail
  generalize (k.alloc (.cells #[.slice (I ⟨c,0,K⟩) a.length f,.slice e a.length d,.slice g b.length h] 105)).alloc (.cells #[.slice (I ⟨c,0,K⟩) a.length f,.slice e a.length d,.slice g b.length h,.slice co ah.length aJ,.slice ro rs.length aN,.bool sk] 115)=a9 at*;generalize k.heap.size+1=o at*;have b5:=q.o.size;have b6:∀j,j<ah.length->aM a9 cb (bE+j) (.int .i64 (ah.getD j 0)):=λj p=>(q.o.cell (p:=⟨cb,bE+j,K⟩) (a5.o (by omega))).trans (c7.o j p);have ch:dA a9 ro rb bh rs:=dp.o.below q.o;have V:=yw a.length ah rs (I ⟨c,0,K⟩) f (.slice e a.length d) (.slice g b.length h) co cb bE aJ ro rb bh aN sk a9 (by have:=da.o;unfold Up;omega) (by have:=br.o;unfold Up;omega) c6.o (λl=>Uc (a5.o l) b5) b6 ch;have c8:=af b6;have dq:=af ch;have bi:X (0<ah.length->cb<a9.heap.size):=λl=>Uc (a5.o l) b5;obtain⟨aw,az,a0,a1,a2,a3⟩:=jC a7.o;have bj:=af ec;clear b6 ch c7 dp a5 ec b5;cases ad:wH a.length ah rs
  ·rw[ad] at V;have r:X (jy B ah rs=4):=by
    show _=_;rw[a6.o];simp[jy,ad]
   clear ad
   go_upto_region 6 with(go_at_call 68;refine V.mono ?_;rintro x m ⟨rfl,i⟩;have D:m.heap[w.heap.size]? =I (.cells #[aO,aO,aO,aO,aO,.bool T5] 115 (0,0)):=(i.block _ (Ud ao.o)).trans ao.o;have E:X (aP w m):=q.o.trans (i.mono q.o.size);clear i V)
   have C:X (aP w (wM m w.heap.size aO aO aO aO aO (.bool T5))):=oB _ _ _ _ _ _ E.o (T6 _) (T6 _);obtain⟨cp,cs,cu,cv,cx,cR⟩:=jC D;obtain⟨bu,bv,bx,bA,bB,b0⟩:=qj D;obtain⟨P,Q,R,S,T,U⟩:=jC (xw aO aO aO aO aO (.bool T5) D);clear D aw az a0 a1 a2 a3 E;unfold wM at*;go_wp2;simp[VR,UX,Tryz.results48,go_sem,P,Q,R,S,T,U];exact⟨C.o,.inl ⟨by rw[r.o];decide,by rw[r.o];rfl⟩⟩
  ·rw[ad] at V;have be:=af ad;clear ad
   go_upto_region 7 with(go_at_call 68;refine V.mono ?_;rintro x m ⟨rfl,i⟩;have a8:X (m.heap[w.heap.size]? =I (.cells #[aO,aO,aO,aO,aO,.bool T5] 115 (0,0))):=(i.block _ (Ud ao.o)).trans ao.o;have bm:X (m.heap[o]? =I (.cells #[.slice (I ⟨c,0,K⟩) a.length f,.slice e a.length d,.slice g b.length h,.slice co ah.length aJ,.slice ro rs.length aN,.bool sk] 115 (0,0))):=(i.block _ (Ud a7.o)).trans a7.o;have E:X (aP w m):=q.o.trans (i.mono q.o.size);have er:X (cN m w.heap.size a b (.slice (I ⟨c,0,K⟩) a.length f) (.slice e a.length d) (.slice g b.length h)):=db.o.below i;have en:X (∀j,j<ah.length->aM m cb (bE+j) (.int .i64 (ah.getD j 0))):=λj p=>(i.cell (p:=⟨cb,bE+j,K⟩) (bi.o (by omega))).trans (c8.o j p);have dr:X (dA m ro rb bh rs):=dq.o.below i;have eq:X (0<ah.length->cb<m.heap.size):=λl=>Uc (bi.o l) i.size;have dk:X (c<m.heap.size/\∀j J,a[j]? =I J->aM m c (j*2+1) (.int .i64 J.1.kind)):=⟨Uc bj.o i.size,λj J p=>(i.cell (p:=⟨c,j*2+1,K⟩) bj.o).trans (df.o j J p)⟩;clear i V)
   clear ao a7 q db c8 dq bi bj df aw az a0 a1 a2 a3;obtain⟨aw,az,a0,a1,a2,a3⟩:=jC bm.o;have ci:∀H∈rs,cW a.length H.col=Z:=by
    have:=be.o;unfold wH at this;rw[Uv,Uy,Uy] at this;exact this.2
   have W:=Ah a rs c f (.slice e a.length d) (.slice g b.length h) (.slice co ah.length aJ) ro rb bh aN sk m (by have:=br.o;unfold Up;omega) bl.o dr.o ci dk.o.1 dk.o.2;have dt:=af ci;clear ci;cases G:Cu a rs
   ·rw[G] at W;have r:X (jy B ah rs=5):=by
     show _=_;rw[a6.o];simp[jy,G,be.o]
    clear G
    go_upto_region 8 with(go_at_call 69;refine W.mono ?_;rintro x n ⟨rfl,i⟩;have D:n.heap[w.heap.size]? =I (.cells #[aO,aO,aO,aO,aO,.bool T5] 115 (0,0)):=(i.block _ (Ud a8.o)).trans a8.o;have C:X (aP w n):=E.o.trans (i.mono E.o.size);clear i W)
    have Y:X (aP w (wM n w.heap.size aO aO aO aO aO (.bool T5))):=oB _ _ _ _ _ _ C.o (T6 _) (T6 _);obtain⟨cp,cs,cu,cv,cx,cR⟩:=jC D;obtain⟨bu,bv,bx,bA,bB,b0⟩:=qj D;obtain⟨P,Q,R,S,T,U⟩:=jC (xw aO aO aO aO aO (.bool T5) D);clear D aw az a0 a1 a2 a3 E C;unfold wM at*;go_wp2;simp[VR,UX,Tryz.results48,go_sem,P,Q,R,S,T,U];exact⟨Y.o,.inl ⟨by rw[r.o];decide,by rw[r.o];rfl⟩⟩
   ·rw[G] at W;have r:X (jy B ah rs=0):=by
     show _=_;rw[a6.o];simp[jy,G,be.o]
    have eQ:X (∀H∈rs,H.low.s.size<=32/\H.high.s.size<=32):=λH al=>by
     unfold Cu at G;have ba:=Uy.1 G H al;unfold iU at ba;rw[Uv] at ba;exact⟨yF (xp bl.o (dt.o H al)) ba.1,yF (xp bl.o (dt.o H al)) ba.2⟩
    clear G
    go_upto_region 9 with(go_at_call 69;refine W.mono ?_;rintro x n ⟨rfl,i⟩;have du:X (n.heap[w.heap.size]? =I (.cells #[aO,aO,aO,aO,aO,.bool T5] 115 (0,0))):=(i.block _ (Ud a8.o)).trans a8.o;have dl:X (n.heap[o]? =I (.cells #[.slice (I ⟨c,0,K⟩) a.length f,.slice e a.length d,.slice g b.length h,.slice co ah.length aJ,.slice ro rs.length aN,.bool sk] 115 (0,0))):=(i.block _ (Ud bm.o)).trans bm.o;have C:X (aP w n):=E.o.trans (i.mono E.o.size);have es:X (cN n w.heap.size a b (.slice (I ⟨c,0,K⟩) a.length f) (.slice e a.length d) (.slice g b.length h)):=er.o.below i;have eo:X (∀j,j<ah.length->aM n cb (bE+j) (.int .i64 (ah.getD j 0))):=λj p=>(i.cell (p:=⟨cb,bE+j,K⟩) (eq.o (by omega))).trans (en.o j p);have ds:X (dA n ro rb bh rs):=dr.o.below i;clear i W)
    have c0:=z5 ah co cb bE aJ n da.o c6.o (λj fz p=>by
     obtain⟨cd,x⟩:=Uz.1 p;have eb:j<ah.length:=by simpa [bz] using cd
     rw[eo.o j eb,<-x];simp[bz,Uh,eb])
    have c1:=λdC (e3:aP n dC)=>x9 rs ro rb bh aN dC br.o (λl=>ds.o.addr l) (ds.o.below e3).cells eQ.o
    go_upto_region 10 with(first|(go_at_call 70;refine c0.mono ?_;rintro x cn ⟨b3,d5⟩;have e4:∃bs,x= .returned bs/\Lg cn n.heap.size bs ah:=d5.elim (fun⟨L,bt,O⟩=>⟨_,O,.inl ⟨L,bt,rfl⟩⟩) (fun⟨L,v,O,cf⟩=>⟨v,O,.inr ⟨L,cf⟩⟩);obtain⟨bs,rfl,ca⟩:=e4;obtain⟨t,fv,u,rfl,_⟩:=ca.at_;have c9:=af ca;have Y:=af b3;have c2:=c1 cn b3;clear b3 d5 ca c0 c1)|(go_at_call 71;refine c2.mono ?_;rintro x A ⟨b4,d6⟩;have e7:∃cl,x= .returned cl/\Qn A cn.heap.size cl rs:=d6.elim (fun⟨L,bt,O⟩=>⟨_,O,.inl ⟨L,bt,rfl⟩⟩) (fun⟨L,v,O,cf⟩=>⟨v,O,.inr ⟨L,cf⟩⟩);obtain⟨cl,rfl,cc⟩:=e7;obtain⟨y,fx,z,rfl,_⟩:=cc.at_;have ap:aP n A:=Y.o.trans (b4.mono Y.o.size);have c5:X (aP w A):=C.o.trans (ap.mono C.o.size);have d4:A.heap[w.heap.size]? =I (.cells #[aO,aO,aO,aO,aO,.bool T5] 115 (0,0)):=(ap.block _ (Ud du.o)).trans du.o;have bb:A.heap[o]? =I (.cells #[.slice (I ⟨c,0,K⟩) a.length f,.slice e a.length d,.slice g b.length h,.slice co ah.length aJ,.slice ro rs.length aN,.bool sk] 115 (0,0)):=(ap.block _ (Ud dl.o)).trans dl.o;have c3:X (Dd A w.heap.size a b (.slice (I ⟨c,0,K⟩) a.length f) (.slice e a.length d) (.slice g b.length h) (.slice t ah.length u) (.slice y rs.length z) ah rs):=⟨es.o.below ap,(c9.o.below b4).imp (λl=>l) (λl=>⟨l.1,bL l.2 C.o.size⟩),cc.imp (λl=>l) (λl=>⟨l.1,bL l.2 (Ux C.o.size Y.o.size)⟩)⟩;obtain⟨u0,u1,u2,u3,u4,u5⟩:=jC bb;obtain⟨fb,fd,fe,fg,fi,fk⟩:=qj bb;have dv:=af d4;have bo:=af bb;clear b4 d6 cc c2 ap c9 Y d4 bb))
    have b1:=Uq _ o 3 _ _ (.slice t ah.length u) bo.o;have d3:=Uq _ o 4 _ _ (.slice y rs.length z) b1;have au:((A.setCell ⟨o,3,K⟩ (.slice t ah.length u)).setCell ⟨o,4,K⟩ (.slice y rs.length z)).heap[w.heap.size]? =I (.cells #[aO,aO,aO,aO,aO,.bool T5] 115 (0,0)):=by
     rw[Ut _ _ _ _ dc.o,Ut _ _ _ _ dc.o];exact dv.o
    have c4:X (Dd ((A.setCell ⟨o,3,K⟩ (.slice t ah.length u)).setCell ⟨o,4,K⟩ (.slice y rs.length z)) w.heap.size a b (.slice (I ⟨c,0,K⟩) a.length f) (.slice e a.length d) (.slice g b.length h) (.slice t ah.length u) (.slice y rs.length z) ah rs):=(c3.o.put bo.o _ _).put b1 _ _;have dT:aP w ((A.setCell ⟨o,3,K⟩ (.slice t ah.length u)).setCell ⟨o,4,K⟩ (.slice y rs.length z)):=bS (bS c5.o (T6 _) dd.o _ _) (T6 _) dd.o _ _;clear u0 u1 u2 u3 u4 u5 fb fd fe fg fi fk c3 c5 dv bo;generalize ((A.setCell ⟨o,3,K⟩ (.slice t ah.length u)).setCell ⟨o,4,K⟩ (.slice y rs.length z))=fl at*;have bd:X _:=c4.o.wM (.slice (I ⟨c,0,K⟩) a.length f) (.slice e a.length d) (.slice g b.length h) (.slice t ah.length u) (.slice y rs.length z) (.bool sk) au;have em:X _:=oB (.slice (I ⟨c,0,K⟩) a.length f) (.slice e a.length d) (.slice g b.length h) (.slice t ah.length u) (.slice y rs.length z) (.bool sk) dT (T6 _) (T6 _);obtain⟨P,Q,R,S,T,U⟩:=jC (xw (.slice (I ⟨c,0,K⟩) a.length f) (.slice e a.length d) (.slice g b.length h) (.slice t ah.length u) (.slice y rs.length z) (.bool sk) au);obtain⟨cp,cs,cu,cv,cx,cR⟩:=jC au;obtain⟨bu,bv,bx,bA,bB,b0⟩:=qj au;obtain⟨aw,az,a0,a1,a2,a3⟩:=jC d3;clear au b1 d3 c4 dT;unfold wM at*;go_wp2;simp[VR,UX,Tryz.results48,go_sem,P,Q,R,S,T,U];exact⟨em.o,.inr ⟨a,dE,b,_,_,_,_,_,a6.o,r.o,rfl,et.o,bd.o.f,bd.o.c,bd.o.r⟩⟩
end Ec
namespace Ec
open Go.RowKit Pk Pm
open Cc (Lg Qn Fo rS wH kC Cu jy lR FM Qy zM gE jA FM.kept)
def vn (w:F)(a:Fo)(ah:List Int)(rs:List cE)(sk:Bool)(e:Xa)(w':F):Prop:=
 aP w w'/\((jy a ah rs≠0/\e= .returned (.tuple #[.pointer K,.int .i64 (jy a ah rs:Int)]))\/
  (∃(d:List (bK×Int)) (b:List Bd) (c g p f o:Nat) (k:Option UJ) (l dg:Nat) (cQ nh:Nat->Nat) (j:Option UJ) (i aJ:Nat) (n:Option UJ) (m aN:Nat),a=I (d,b)/\jy a ah rs=0/\e= .returned (.tuple #[.pointer (I ⟨c,0,K⟩),.int .i64 0])/\w.heap.size<=c/\w'.heap[c]? =I (.cells (jA (gE g d.length p f d.length o k b.length dg j ah.length aJ n rs.length aN sk) 0 0) 119 (0,0))/\FM w' d b ah rs g f k l cQ nh j i 0 n m 0/\∀h,zM g f l cQ i m b.length ah.length rs.length h->w.heap.size<=h/\h<c))
def xM(a:Fo)(ah:List Int)(rs:List cE):jy a ah rs=0\/jy a ah rs=3\/jy a ah rs=4\/jy a ah rs=5:=by
 unfold jy
 split
 ·simp
 ·split
  ·split<;>simp
  ·simp
def p7(s:ByteArray)(b:Fo)(ah:List Int)(rs:List cE)(co:Option UJ)(cb bE aJ:Nat)(ro:Option UJ)(rb bh aN:Nat)(sk:Bool)(w:F)(S:s.size<=Up)(hF:rS s b)(P:ah.length<=1000)(V:rs.length<=1000)
 (L:0<ah.length->co=I ⟨cb,bE,K⟩) (O:0<ah.length->cb<w.heap.size) (M:∀j,j<ah.length->aM w cb (bE+j) (.int .i64 (ah.getD j 0))) (U:dA w ro rb bh rs):
 UB aI 31 #[.string s,.slice co ah.length aJ,.slice ro rs.length aN,.bool sk] w (vn w b ah rs sk):=by
 have x:=Oq s b ah rs co cb bE aJ ro rb bh aN sk w S hF P V L O M U;have r:=af hF;clear L O M U hF P V S;go_enter an.func31,Tryz.ntmps31
 go_wp2_with fail
 refine x.mono ?_;rintro az e ⟨c,⟨T,rfl⟩|⟨a,d,ap,ar,au,av,aw,a0,B,E,rfl,J,H,N,Q⟩⟩
 ·have ae:=xM b ah rs;have D:aP w (e.alloc (.cells #[aO,aO,aO,aO,aO,.bool T5] 115)):=c.alloc c.size _;have y:=af D;have ao:=af T;clear c x D r;have z:X (∀m,jy b ah rs=m->m≠0->∀A,aP w A->vn w b ah rs sk (.returned (.tuple #[.pointer K,.int .i64 (m:Int)])) A):=λm C ab A al=>⟨al,.inl ⟨by rw[C];exact ab,by rw[C]⟩⟩;generalize jy b ah rs=m at*;have ad:m=3\/m=4\/m=5:=by omega
  clear T ae;rcases ad with rfl|rfl|rfl
  ·go_wp2;simp[VR,UX,Tryz.results31,go_sem];exact z.o 3 Y (by decide) _ y.o
  ·go_wp2;simp[VR,UX,Tryz.results31,go_sem];exact z.o 4 Y (by decide) _ y.o
  ·go_wp2;simp[VR,UX,Tryz.results31,go_sem];exact z.o 5 Y (by decide) _ y.o
 ·have R:xd a d:=by
   rw[B] at r;exact r.o.1.1
  obtain⟨n,h,l,g,k,aa,dg,cQ,nh,i,Z,f,p,am,o,rfl,rfl,rfl,rfl,rfl,G,u⟩:=Qy R J H N Q;have t:aP e ((e.alloc (.cells #[.slice (I ⟨n,0,K⟩) a.length h,.slice (I ⟨l,0,K⟩) a.length g,.slice k d.length dg,.slice i ah.length f,.slice p rs.length o,.bool sk] 115)).alloc (.cells #[.slice (I ⟨n,0,K⟩) a.length h,.slice (I ⟨l,0,K⟩) a.length g,.slice k d.length dg,.slice i ah.length f,.slice p rs.length o,.bool sk,.int .i64 0,.int .i64 0] 119)):=((Uo _ _).alloc (T6 _) _).alloc (by simp) _;have W:X (vn w b ah rs sk (.returned (.tuple #[.pointer (I ⟨e.heap.size+1,0,K⟩),.int .i64 0])) ((e.alloc (.cells #[.slice (I ⟨n,0,K⟩) a.length h,.slice (I ⟨l,0,K⟩) a.length g,.slice k d.length dg,.slice i ah.length f,.slice p rs.length o,.bool sk] 115)).alloc (.cells #[.slice (I ⟨n,0,K⟩) a.length h,.slice (I ⟨l,0,K⟩) a.length g,.slice k d.length dg,.slice i ah.length f,.slice p rs.length o,.bool sk,.int .i64 0,.int .i64 0] 119))):=
   ⟨c.trans (t.mono c.size),.inr ⟨a,d,e.heap.size+1,n,h,l,g,k,aa,dg,cQ,nh,i,Z,f,p,am,o,B,E,rfl,by have:=c.size;omega,jG _ _ _,G.kept t.size (λq v=>Cc.D2 (t.block q (u q v).2)),λq v=>⟨(u q v).1,by have:=(u q v).2;omega⟩⟩⟩
  clear c t x r G u H N Q R J B E;go_wp2;simp[VR,UX,Tryz.results31,go_sem];exact W.o
def kW(cu:Nat)(w:F):UB aI 36 #[.pointer (I ⟨cu,0,K⟩)] w λe w'=>e= .returned (.func (.func 53) #[] #[.pointer (I ⟨w.heap.size,0,K⟩)])/\w'=w.alloc (.cells #[.pointer (I ⟨cu,0,K⟩)] 74):=by
 have c:∀(b:Fn) (first a:Array U) (w:F),(Instr.makeFunc b first a).run aI w= .ok (.func b first a) w:=λ_ _ _ _=>rfl;go_enter an.func36,Tryz.ntmps36;go_wp2;go_ret;exact⟨rfl,rfl⟩
def mE(cu:Nat)(v:U)(w:F)(h:aM w cu 7 v):UB aI 32 #[.pointer (I ⟨cu,0,K⟩)] w λe w'=>e= .returned v/\w'=w:=by
 go_enter an.func32,Tryz.ntmps32;go_wp2;go_ret;exact⟨rfl,rfl⟩
end Ec
namespace Cc
open Go Go.Conc
open Go.RowKit (Below)
open Ec (aD aG cE dA qv bK Bd aY fY vn p7 kW mE)
section
variable {P0 P:Ue}{Post:U->F->Prop}{own:Nat->Prop}{cs:List Us}{w:F}{b:Us}{a:V5}{k:List WM}{ops:Array Vu}{i:Nat}{rest:List Nat}{o:Vu}
def ng{W:F}(d:∀(b:Nat) o,w.heap[b]? =I o->bn P0 o->W.heap[b]? =I o){p:UJ}{v:U}(h:w.cell? p=I v):W.cell? p=I v:=by
 unfold Ur at h ⊢;cases c:w.heap[p.block]? with
 |none=>rw[c] at h;cases h
 |some e=>
  rw[c] at h;cases e<;>first|(cases h;done)|skip
  rw[d _ _ c trivial];exact h
def Pu{W:F}(e:∀(b:Nat) o,w.heap[b]? =I o->bn P0 o->W.heap[b]? =I o)(j:w.heap.size<=W.heap.size){f:Option UJ}{b off:Nat}{l:List cE}(h:dA w f b off l):dA W f b off l:=
 ⟨h.addr,λg=>Uc (h.lt g) j,λd c=>ng e (h.c0 d c),λd c=>ng e (h.c1 d c),λd c=>ng e (h.c2 d c),λd c=>ng e (h.c3 d c),λd c=>ng e (h.c4 d c),λd c=>ng e (h.c5 d c),λd c=>ng e (h.c6 d c)⟩
def gd (w:F):Nat->Prop:=λb=>b<w.heap.size
def RP{fr:Us}(h:∀c,RelB own w c->Xe P0 P Post (gd c) fr cs c):Xe P0 P Post own fr cs w:=λf c e d=>h c e (λb h=>h) c (RelB.refl _ _) d
def oW(h:Twins P0 P){f:FuncId}{fn:WC}{c:WU}{args:Array U6}{ats:Array Ug}{vs:Array U}{R:F->U->F->Prop}(L:b.kind= .normal)(n:ops[i]? =I o)(aa:UF o (Vj ops a.tmps)=Z)(S:o.op= .call {callee:=.value (.func f),args,argTypes:=ats})(J:args.map a.eval=vs)
 (N:P.funcs[f]? =I fn) (Q:(fn.name == "runtime.NumGoroutine")=T5) (K:fn.body=I c) (O:P.funcs[f]? =P0.funcs[f]?) (V:eM P0 (b.at a (.inRegion ops (i::rest)::k)) [])
 (hR:∀W,(∀(b:Nat) o,w.heap[b]? =I o->bn P0 o->W.heap[b]? =I o)->w.heap.size<=W.heap.size->UB P0 f vs W λe W'=>aP W W'/\∃v,e= .returned v/\R W v W')
 (G:∀v W W' w',(∀(b:Nat) o,w.heap[b]? =I o->bn P0 o->W.heap[b]? =I o)->w.heap.size<=W.heap.size->aP W W'->R W v W'->Un W' w'->RelB (gd w) w w'->Xe P0 P Post (gd w') (b.at (a.put o.dst v) (.inRegion ops rest::k)) cs w'):Xe P0 P Post (gd w) (b.at a (.inRegion ops (i::rest)::k)) cs w:=by
 intro y;refine sC (P0:=P0) (R:=λm e ab=>∃l,Mk P0 l m/\Tl l m (λe W'=>∃W,W.heap=l.heap/\aP W W'/\∃v,e= .returned v/\R W v W') e ab) L n aa S J N Q K V (λm d=>?_) (λm v w' d Y u T=>?_) (λm ad w' ⟨_,_,_,_,_,_,W,_,_,v,e,_⟩=>by cases e) (λm w' ⟨_,_,_,_,_,_,W,_,_,v,e,_⟩=>by cases e) y
 ·obtain⟨l,j⟩:=D5 P0 m;intro A B p g D E;exact pL h j.hp j.un O (λw' ⟨W,_,_,v,e,_⟩=>by cases e) (λq=>(hR (sh q 0 l) (λb o n s=>j.at_ b o ((d.at_ b (Ua.1 n).1).trans n) s) (by show w.heap.size<=l.heap.size;rw[<-j.un.size];exact d.size)).mono λe W' ⟨p,g⟩=>⟨sh q 0 l,rfl,p,g⟩) A B p g D λe w' M=>E e w' ⟨l,j,M⟩
 obtain⟨l,j,q,C,W',g,W,t,r,ae,e,H⟩:=Y;cases e;have X:W.heap.size<=w'.heap.size:=by rw[g.un.size];exact r.size
 have x:W.heap.size=m.heap.size:=by rw[t,j.un.size]
 have hrel:RelB (gd w) w w':=⟨λb z=>by
  have p:W'.heap[b]? =W.heap[b]? :=r.block b (by rw[x];exact Uc (y b z) d.size);exact(g.same j.un (by rw[p,t])).trans (d.at_ b z),Ux d.size (by rw[<-x];exact X),u.tape.trans d.tape,u.os.trans d.os,u.output.trans d.output⟩
 exact Xe.go (G v W (sh q C W') w' (λb o n s=>by rw[t];exact j.at_ b o ((d.at_ b (Ua.1 n).1).trans n) s) (by rw[x];exact d.size) r H ⟨g.un.size,g.un.at_,g.un.os,g.un.output⟩ hrel) (λb h=>h) T
def NB{P:Ue}{b:Us}{a:V5}{todo:List WM}{D:Nat}{m:FrameMode}(d:b.kind= .normal)(g:a.defers=[{target:=.collected D,args:= #[]}])(n:(todo.all (yz P))=Z):eM P {b.at a todo with mode:=m} []:=by
 refine⟨⟨λi l=>?_,λe h=>?_,.inl d⟩,λf j=>by simp at j,d⟩
 ·have:=Uy.1 n i l;cases i<;>first|exact this|trivial|cases this
 ·have c:e∈a.defers:=h;rw[g] at c;simp only[WI] at c;subst c;rfl
def IB{P:Ue}{b:Us}{a:V5}{todo:List WM}{D:Nat}(c:b.kind= .normal)(d:a.defers=[{target:=.collected D,args:= #[]}])(e:(todo.all (yz P))=Z):eM P (b.at a todo) []:=NB (m:=.run) c d e
end
def xJ{a:V5}{x y z u:U6}{d e f c:U}(h1:a.eval x=d)(g:a.eval y=e)(h:a.eval z=f)(j:a.eval u=c): #[x,y,z,u].map a.eval=#[d,e,f,c]:=by simp[h1,g,h,j]
def xE (f:Fo)(V:Nat->Nat->List aD):Prop:=match f with
 |none=>True
 |some (h,g)=>∀(i:Nat) b,g[i]? =I b->∀(c:Nat) e d,b.chunks[c]? =I e->h[c]? =I d->pi e.text d.1.kind d.2 (b.rows:Int) (V i c)
def su (d:Fo)(V:Nat->Nat->List aD)(ah:List Int)(rs:List cE)(sk:Bool)(Go:List dx->Bool):List dx×Nat×Nat:=match d with
 |none=>([],0,0)
 |some (e,c)=>iV sk c ah rs (aY e.length (ah++rs.map cE.col)) V Go 0 c.length [] 0
def oL (c:Fo)(V:Nat->Nat->List aD)(ah:List Int)(rs:List cE)(sk:Bool):List (List aD)×Nat:=
 if jy c ah rs=0 then(if (su c V ah rs sk λ_=>Z).2.2=0 then((su c V ah rs sk λ_=>Z).1.map VU,0) else([],(su c V ah rs sk λ_=>Z).2.2)) else([],jy c ah rs)
def sH (W:F)(base:Nat)(v:U)(h:List (List aD)):Prop:=
 ∃d,W.ownsRow base 43 1 v h.length d/\(∀(i:Nat) e,h[i]? =I e->∃c,d[i]? =I c/\W.ownsRow base 59 3 c e.length (aG e))/\∀(i g:Nat) c j f,d[i]? =I c->d[g]? =I j->c.ownBlock=I f->j.ownBlock=I f->i=g
def Df (c:List (List aD)×Nat)(w0:F)(e:Xa)(w':F):Prop:=
 ∃v,e= .returned (.tuple #[v,.int .i64 (c.2:Int)])/\sH w' w0.heap.size v c.1/\(c.2≠0->v=aO)/\(∀b,b<w0.heap.size->w'.heap[b]? =w0.heap[b]?)/\w0.heap.size<=w'.heap.size
def RZ:(Tryz.f31.name == "runtime.NumGoroutine")=T5:=by kernel_rfl
def K4:(Tryz.f36.name == "runtime.NumGoroutine")=T5:=by kernel_rfl
def Fb:(Tryz.f32.name == "runtime.NumGoroutine")=T5:=by kernel_rfl
def sH.nil(W:F)(base:Nat):sH W base aO []:=⟨[],Vp _ _ _ _,λi h c=>by simp at c,λi e g f d c=>by simp at c⟩
def Sk{s:ByteArray}{l:List (bK×Int)}{bs:List Bd}{ah:List Int}{rs:List cE}{V:Nat->Nat->List aD}(d:fY s l bs)(e:wH l.length ah rs=Z)(j:ah.length<=1000)(x:rs.length<=1000)(h:xE (I (l,bs)) V):FQ l bs ah rs V:=by
 have u:l.length<=8:=by
  have:=d.1.pl.1.2.1;simpa using this
 have v:bs.length<=2000:=by
  have r:=Ec.tA bs (λb c=>(d.1.b8 b c).lo);have t:=d.1.rows;omega
 refine⟨λb c=>by have:=(d.1.b8 b c).len;simpa using this,by omega,by have:=d.1.pl.1.1;simp at this;omega,λb c=>(d.1.b8 b c).hi,d.1.rows,by omega,j,by unfold Up;omega,(sJ.1 e).1,(sJ.1 e).2,λi b c g p q f n=>⟨?_,h i b c g p q f n⟩⟩;obtain⟨m,rfl⟩:=Uz.1 f;have:=((d.1.b8 b (VD c)).each g m).n;unfold Up;omega
def zi (fn:WC):WU:=match fn.body with
 |some (.seq _ (.seq _ (.seq _ (.seq _ (.seq _ c)))))=>c
 |_=>.skip
section
variable {Post:U->F->Prop}{cs:List Us}{w:F}{a:V5}{c:Us}
def Knows.same{a a':V5}{n:Nat}{l:List (Nat×U)}(b:Knows a n l)(h:a'.tmps=a.tmps):Knows a' n l:=⟨by rw[h];exact b.size,λs v d=>by unfold aW;rw[h];exact b.slot s v d⟩
def tM{D:Nat}{todo:List WM}(f:a.defers=[{target:=.collected D,args:= #[]}])(e:w.heap[D]? =I (.deferred (I [])))(l:(todo.all (yz aI))=Z){b:Us}(k:b.kind= .normal)
 (j:∀a' w',a'.tmps=a.tmps->a'.defers=[]->w.heap.size<=w'.heap.size->(∀x,x<w.heap.size->x≠D->w'.heap[x]? =w.heap[x]?)->w'.tape=w.tape->w'.os=w.os->w'.output=w.output->Xe aI T9 Post (gd w') {b.at a' todo with mode:=.returning} cs w'):Xe aI T9 Post (gd w) {b.at a todo with mode:=.returning} cs w:=by
 intro r q d n;have i:D<w.heap.size:=(Ua.1 e).1;have h:q.heap[D]? =I (.deferred (I [])):=(d.at_ D i).trans e;refine B9 cU f h (λ_ o=>Xe.go (j {a with defers:=[]} _ Y Y ?_ ?_ d.tape d.os d.output) (λb g=>g) o) (NB k f l) n
 ·rw[World.putObj_size];exact d.size
 ·intro x p m;rw[World.putObj_heap_other m];exact d.at_ x p
structure TP(w w':F)(D:Nat):Prop where
 at_:∀x,x<w.heap.size->x≠D->w'.heap[x]? =w.heap[x]?
 size:w.heap.size<=w'.heap.size
 tape:w'.tape=w.tape
 os:w'.os=w.os
 output:w'.output=w.output
def Ku{cu rb D n e:Nat}{q:Array U}{C:U}(b:Knows a 40 [(12,.pointer (I ⟨rb,0,K⟩)),(10,.pointer (I ⟨cu,0,K⟩))])(s:a.defers=[{target:=.collected D,args:= #[]}])(u:w.heap[D]? =I (.deferred (I [])))(hc:w.heap[cu]? =I (.cells (jA q n e) 119 (0,0)))(ad:q.size=6)(M:w.heap[rb]? =I (.cells #[C] 26 (0,0)))
 (J:∀w',TP w w' D->Xe aI T9 Post (gd w') (c.finish (.tuple #[if e=0 then C else aO,.int .i64 (e:Int)])) cs w'):Xe aI T9 Post (gd w) ((base 13).at a [.inBlock 0,.code (zi VT)]) (c::cs) w:=by
 have d:=iq aI T9 Post;have Q:(jA q n e)[7]? =I (.int .i64 (e:Int)):=by simp[jA,Array.getElem?_append,ad]
 have av:cu<w.heap.size:=(Ua.1 hc).1;have N:rb<w.heap.size:=(Ua.1 M).1;have B:D<w.heap.size:=(Ua.1 u).1;have G:∀h,(∀(m:Nat) r,w.heap[m]? =I r->bn aI r->h.heap[m]? =I r)->w.heap.size<=h.heap.size->UB aI 32 #[.pointer (I ⟨cu,0,K⟩)] h λf i=>aP h i/\∃v,f= .returned v/\(v= .int .i64 (e:Int)/\i=h):=λh o t=>(mE cu _ h (kH (o cu _ hc trivial) Q)).mono λf i ⟨P,F⟩=>⟨by rw[F];exact Below.refl _ _,_,P,rfl,F⟩;refine iI d ?_;refine aS d ?_;refine aS d ?_;refine bq d [0,1,2] Y ?_;refine cG d b λb=>?_;refine oW (vs:= #[.pointer (I ⟨cu,0,K⟩)]) (R:=λh v i=>v= .int .i64 (e:Int)/\i=h) cU Y Y Y Y (mq (b.of Y)) Tryz.func32 Fb Y (jW Y Y Y).symm (IB Y (by simp only[put_defers];exact s) (by kernel_rfl)) G λv h i aw o t R A V g=>?_;obtain⟨rfl,-⟩:=A;replace b:=b.put (d:=35) (by decide) (.int .i64 (e:Int));by_cases H:e=0
 ·subst H;refine dB d b Y (.bool T5) (qJ (c:=T5) Y (b.of Y) Y (by decide)) λb=>?_;refine ak d ?_;refine dm d T5 (b.of Y) ?_;refine ig d ?_;refine aS d ?_;refine bq d [0,1,2] Y ?_;refine q9 d b Y C (bY Y (b.of Y) Tryz.isAgg26 (.inr (Uc N g.size)) (kH ((g.at_ rb N).trans M) Y)) λb=>?_;refine gW d b λb=>?_;refine mZ d b (.int .i64 0) λb=>?_;refine ak d ?_;refine pK d ?_;refine tM (by simp only[put_defers];exact s) ((g.at_ D B).trans u) (by kernel_rfl) Y λO E z x ae W am aa ap=>?_;replace b:=b.same z;have p:=gH (P:=T9) Tryz.results13 (b.slot 8 _ Y) (b.slot 9 _ Y);refine jd d Y x Tryz.func13 p.1 p.2 ?_;have:=J E ⟨λl k y=>(W l (Uc k g.size) y).trans (g.at_ l k),Ux g.size ae,am.trans g.tape,aa.trans g.os,ap.trans g.output⟩;rw[if_pos Y] at this;exact this
 ·refine dB d b Y (.bool Z) (qJ (c:=Z) Y (b.of Y) Y (by simp;omega)) λb=>?_;refine ak d ?_;refine dm d Z (b.of Y) ?_;refine aS d ?_;refine bq d [0,1,2,3] Y ?_;refine cG d b λb=>?_;refine oW (vs:= #[.pointer (I ⟨cu,0,K⟩)]) (R:=λh v i=>v= .int .i64 (e:Int)/\i=h) cU Y Y Y Y (mq (b.of Y)) Tryz.func32 Fb Y (jW Y Y Y).symm (IB Y (by simp only[put_defers];exact s) (by kernel_rfl)) (λh o t=>G h (λm r L T=>o m r ((g.at_ m (Ua.1 L).1).trans L) T) (Ux g.size t)) λv h i E o t R A V j=>?_;obtain⟨rfl,-⟩:=A;replace b:=b.put (d:=38) (by decide) (.int .i64 (e:Int));refine mZ d b aO λb=>?_;refine gW d b λb=>?_;refine ak d ?_;refine pK d ?_;have S:E.heap[D]? =I (.deferred (I [])):=(j.at_ D (Uc B g.size)).trans ((g.at_ D B).trans u);refine tM (by simp only[put_defers];exact s) S (by kernel_rfl) Y λO au z x al X ao ab ar=>?_;replace b:=b.same z;have p:=gH (P:=T9) Tryz.results13 (b.slot 8 _ Y) (b.slot 9 _ Y);refine jd d Y x Tryz.func13 p.1 p.2 ?_;have:=J au ⟨λl k y=>(X l (Uc k (Ux g.size j.size)) y).trans ((j.at_ l (Uc k g.size)).trans (g.at_ l k)),Ux g.size (Ux j.size al),ao.trans (j.tape.trans g.tape),ab.trans (j.os.trans g.os),ar.trans (j.output.trans g.output)⟩;rw[if_neg H] at this;exact this
end
def Nt (fn:WC):WU:=match fn.body with
 |some (.seq _ (.seq _ (.seq _ (.seq _ (.seq (.seq _ (.block _ c)) _)))))=>c
 |_=>.skip
section
variable {Post:U->F->Prop}{cs:List Us}{w:F}{a:V5}{c:Us}{l:List (bK×Int)}{bs:List Bd}{ah:List Int}{rs:List cE}{kb ck eb ce db:Nat}{dO:Option UJ}{cQ nh:Nat->Nat}{co:Option UJ}{cb bE aJ:Nat}{ro:Option UJ}{rb bh aN:Nat}{V:Nat->Nat->List aD}{dg:Nat}{sk:Bool}{cu xb bx vt:Nat}
structure QL(w w':F)(vt cu bx:Nat)(q:Array U)(res:List dx×Nat×Nat)(D:Nat)(rv:U):Prop where
 d:w'.heap[D]? =I (.deferred (I []))
 dl:w.heap.size<=D
 c:w'.heap[cu]? =I (.cells (jA q res.2.1 res.2.2) 119 (0,0))
 b:w'.heap[bx]? =I (.cells #[rv] 26 (0,0))
 own:sH w' vt rv (res.1.map VU)
 keep:∀x,x<vt->w'.heap[x]? =w.heap[x]?
 size:w.heap.size<=w'.heap.size
 tape:w'.tape=w.tape
 os:w'.os=w.os
 output:w'.output=w.output
def GH(q:FQ l bs ah rs V)(hF:FM w l bs ah rs kb eb dO db cQ nh co cb bE ro rb bh)(aa:∀x,zM kb eb db cQ cb rb bs.length ah.length rs.length x->x<cu)(b6:vt<=cu)(cc:cu<bx)(ci:bx<xb)
 (hc:w.heap[cu]? =I (.cells (jA (gE kb l.length ck eb l.length ce dO bs.length dg co ah.length aJ ro rs.length aN sk) 0 0) 119 (0,0))) (Q:w.heap[bx]? =I (.cells #[aO] 26 (0,0))) (d:w.heap[xb]? =I (.cells #[.pointer (I ⟨cu,0,K⟩)] 74 (0,0)))
 (f:Knows a 40 [(27,.func (.func 53) #[] #[.pointer (I ⟨xb,0,K⟩)]),(12,.pointer (I ⟨bx,0,K⟩)),(10,.pointer (I ⟨cu,0,K⟩))]) (S:a.defers=[])
 (T:∀a' w' D E,Knows a' 40 [(12,.pointer (I ⟨bx,0,K⟩)),(10,.pointer (I ⟨cu,0,K⟩))]->a'.defers=[{target:=.collected D,args:= #[]}]->QL w w' vt cu bx (gE kb l.length ck eb l.length ce dO bs.length dg co ah.length aJ ro rs.length aN sk) (iV sk bs ah rs (aY l.length (ah++rs.map cE.col)) V (λ_=>Z) 0 bs.length [] 0) D E->Xe aI T9 Post (gd w') ((base 13).at a' [.inBlock 0,.code (zi VT)]) (c::cs) w'):
 Xe aI T9 Post (gd w) ((base 13).at a [.code (Nt VT),.inBlock 0,.code (zi VT)]) (c::cs) w:=by
 intro ca b n be;have bt:cu<w.heap.size:=(Ua.1 hc).1;have br:bx<w.heap.size:=(Ua.1 Q).1;have bu:xb<w.heap.size:=(Ua.1 d).1;have bm:=n.size;generalize t:A8 (base 13).fn a.tmps #[28,29] (.region 6 (fR VT) T5) (.block 1 (.region 7 (eg VT) T5)) b.heap.size=i;have X:qA i bx:=by
  rw[<-t];exact⟨rfl,rfl,rfl,f.size,f.slot 12 _ Y⟩
 generalize o:(b.alloc (.deferred (I []))).alloc (.loop i)=j;have a1:∀x,x<b.heap.size->j.heap[x]? =b.heap[x]? :=λx d=>by
  rw[<-o];show((b.heap.push _).push _)[x]? =_;rw[VB,if_neg (by simp;omega),VB,if_neg (by omega)]
 have a2:j.heap[b.heap.size]? =I (.deferred (I [])):=by
  rw[<-o];show((b.heap.push _).push _)[b.heap.size]? =_;rw[VB,if_neg (by simp),VB,if_pos Y]
 have a3:j.heap[b.heap.size+1]? =I (.loop i):=by
  rw[<-o];show((b.heap.push _).push _)[b.heap.size+1]? =_;rw[VB,if_pos (by simp)]
 have b5:j.heap.size=b.heap.size+2:=by
  rw[<-o];show((b.heap.push _).push _).size=_;simp
 have m:∀x,x<w.heap.size->j.heap[x]? =w.heap[x]? :=λx d=>(a1 x (by omega)).trans (n.at_ x d);let ad:Nat->Prop:=λx=>x=b.heap.size+1\/x=b.heap.size\/x=bx;have bl:i.state= .ready:=by rw[<-t];rfl
 have bj:i.pending=K:=by rw[<-t];rfl
 have a5:lK (b.heap.size+1) b.heap.size bx i [] ad j:=by
  refine⟨bl,bj,a3,a2,aO,[],(m bx br).trans Q,Vp _ _ _ _,λu x h=>by simp at h,λu cl v G e h=>by simp at h,λx=>?_⟩;show(x=_\/x=_\/x=_)↔_;simp[Vz]
 have R:=Jj (Post:=Post) (cu:=cu) (xb:=xb) (n0:=0) (e0:=0) (Kr (Post:=Post) (D:=b.heap.size) (l:=b.heap.size+1) X) q a5 (λb1 a9 cf=>hF.kept (by omega) λx d=>by
  have g:=aa x d;refine λbv bd a8=>a9 x (by omega) (λh=>?_) (by omega) bv ((m x (by omega)).trans bd) a8;rcases h with h|h|h<;>omega) (λaz h=>by
  have g:=aa db (.inr (.inr (.inl ⟨az,rfl⟩)));rcases h with h|h|h<;>omega) (λh=>by rcases h with h|h|h<;>omega) (λh=>by rcases h with h|h|h<;>omega) (by omega) ((m xb bu).trans d) ((m cu bt).trans hc)
 generalize iV sk bs ah rs (aY l.length (ah++rs.map cE.col)) V (λ_=>Z) 0 bs.length [] 0=bA at R T;subst o;subst t;refine MT cU (g:=.tmp 27) (gf:=53) (cap:= #[.pointer (I ⟨xb,0,K⟩)]) (f.of Y) (λargs w=>an.call53 args w) (.inl (jW Y Y Y).symm) R (λv r a4 A=>?_) (λb4 w' h=>by cases h.1) (λw' h=>by cases h.1) (λs h=>?_) (dI Y S (by kernel_rfl)) be
 ·obtain⟨-,⟨J,a6,bb⟩,bc,ba,ch⟩:=a4;obtain⟨ao,M,N,ap,E,bB,ar,au,av,aw,O⟩:=a6;refine Ed cU N (zk X M) (by rw[ao];decide) M (by intro s;simp) ?_;intro _ bi;refine Xe.go (own:=gd _) (T _ _ b.heap.size E ?_ (by show _::a.defers=_;rw[S]) ?_) (λb3 h=>h) bi
  ·exact((f.nil.cons (f.slot 10 _ Y)).cons (f.slot 12 _ Y)).same Y
  ·have a7:∀x,J x->vt<=x:=λx d=>by
    rcases bb x d with h|h
    ·rcases h with h|h|h<;>omega
    ·omega
   have cd:b.heap.size+1<r.heap.size:=by omega
   have p:∀x,x≠b.heap.size+1->(r.putObj (b.heap.size+1) (.loop {A8 (base 13).fn a.tmps #[28,29] (.region 6 (fR VT) T5) (.block 1 (.region 7 (eg VT) T5)) b.heap.size with state:=.exhausted})).heap[x]? =r.heap[x]? :=λx d=>World.putObj_heap_other d;have ab:∀{k:Ug} {F C:Nat} {v:U} {H:List U},r.ownsRow 0 k F v C H->(∀e,v.ownBlock=I e->J e)->(r.putObj (b.heap.size+1) (.loop {A8 (base 13).fn a.tmps #[28,29] (.region 6 (fR VT) T5) (.block 1 (.region 7 (eg VT) T5)) b.heap.size with state:=.exhausted})).ownsRow vt k F v C H:=λ{k F C v H} h bo=>by
    obtain⟨W,⟨g,P⟩|⟨e,al,am,g,P,y,a0⟩⟩:=h
    ·exact⟨W,.inl ⟨g,P⟩⟩
    ·refine⟨W,.inr ⟨e,al,am,g,a7 e (bo e (by rw[g];rfl)),(p e (λk=>?_)).trans y,a0⟩⟩;rw[k,N] at y;cases y
   refine⟨(p _ (by omega)).trans ap,bm,(p _ (by omega)).trans ba,(p _ (by omega)).trans ar,⟨bB,by rw[UG];exact ab au (λe z=>(O e).2 (.inr (.inr (.inr (.inl z.symm))))),λu x d=>?_,aw⟩,λx d=>?_,?_,A.tape.trans n.tape,A.os.trans n.os,A.output.trans n.output⟩
   ·rw[List.getElem?_map] at d;cases B:bA.1[u]? with
    |none=>rw[B] at d;cases d
    |some b0=>
     rw[B] at d;simp only[V2,U8] at d;subst d;obtain⟨G,L,b2,ae⟩:=av u b0 B;exact⟨G,L,ab ae λe z=>(O e).2 (.inr (.inr (.inr (.inr ⟨G,VD L,z.symm⟩))))⟩
   ·refine(p x (by omega)).trans ((bc x (by omega) (λh=>?_) (by omega)).trans (m x (by omega)));rcases h with h|h|h<;>omega
   ·rw[World.putObj_size];omega
 ·rw[enter_at _ an.func53 Y] at h;cases h
end
end Cc
namespace Cc
open Go Go.Conc
open Go.RowKit (Below)
open Ec (aD aG cE dA qv bK Bd aY fY vn p7 kW mE xM)
def Og(w:F):(zeroValue 26).run T9 w= .ok aO w:=Tryz.zeroValue26 w
section
variable {Post:U->F->Prop}{s:ByteArray}{F0:Fo}{V:Nat->Nat->List aD}{ah:List Int}{rs:List cE}{co:Option UJ}{cb bE aJ:Nat}{ro:Option UJ}{rb bh aN:Nat}{sk:Bool}{w0:F}
def GG(ca:s.size<=Up)(hF:rS s F0)(bo:xE F0 V)(aw:ah.length<=1000)(a1:rs.length<=1000)
 (bv:0<ah.length->co=I ⟨cb,bE,K⟩) (bA:0<ah.length->cb<w0.heap.size) (bx:∀j,j<ah.length->aM w0 cb (bE+j) (.int .i64 (ah.getD j 0))) (cl:dA w0 ro rb bh rs):
 mh aI T9 Post 13 #[.string s,.slice co ah.length aJ,.slice ro rs.length aN,.bool sk] w0 (Df (oL F0 V ah rs sk) w0):=by
 intro dd df a3 ds ch au;have b:=iq aI T9 Post;refine Xe.go (own:=gd w0) ?_ (λc d=>d) ch;rw[enter_at _ Tryz.func13 Y];have a:=TK (.string s) (.slice co ah.length aJ) (.slice ro rs.length aN) (.bool sk) 40 (by decide);refine aS b ?_;refine bq b [0,1] Y ?_;refine mZ b a aO λa=>?_;refine mZ b a (.int .i64 0) λa=>?_;refine ak b ?_;refine aS b ?_;refine bq b [0,1,2,3,4,5,6,7,8,9] Y ?_;refine cG b a λa=>?_;refine cG b a λa=>?_;refine cG b a λa=>?_;refine cG b a λa=>?_;refine oW (vs:= #[.string s,.slice co ah.length aJ,.slice ro rs.length aN,.bool sk]) (R:=λn v w=>vn n F0 ah rs sk (.returned v) w) cU Y Y Y Y (xJ (a.of Y) (a.of Y) (a.of Y) (a.of Y)) Tryz.func31 RZ Y (jW Y Y Y).symm (dI Y (by simp only[put_defers]) (by kernel_rfl)) (λn L F=>?_) λv n w u L F dl cp S g=>?_
 ·refine(p7 s F0 ah rs co cb bE aJ ro rb bh aN sk n ca hF aw a1 bv (λd=>Uc (bA d) F) (λj b4=>ng L (bx j b4)) (Pu L F cl)).mono λk w d=>⟨d.1,?_⟩
  ·rcases d.2 with⟨_,rfl⟩|⟨p,f,r,T,bi,Q,be,al,O,dg,cQ,nh,ae,N,bd,a7,W,c6,_,_,rfl,_⟩
   ·exact⟨_,rfl,d⟩
   ·exact⟨_,rfl,d⟩
 ·rcases cp.2 with⟨cf,k⟩|⟨p,f,r,T,bi,Q,be,al,O,dg,cQ,nh,ae,N,bd,a7,W,c6,J,ar,k,bB,M,bl,a5⟩
  ·have P:=YA k;subst P;have cc:jy F0 ah rs≠0:=cf;generalize cd:jy F0 ah rs=m at*;replace a:=a.put (d:=20) (by decide) (.tuple #[.pointer K,.int .i64 (m:Int)]);refine cG b a λa=>?_;refine rf b a λa=>?_;refine rf b a λa=>?_;refine gW b a λa=>?_;refine gW b a λa=>?_;refine ak b ?_;refine aS b ?_;refine aS b ?_;refine bq b [0,1] Y ?_;refine cG b a λa=>?_;refine dB b a Y (.bool Z) (qJ (c:=Z) Y (a.of Y) Y (by simp;omega)) λa=>?_;refine ak b ?_;refine dm b Z (a.of Y) ?_;refine aS b ?_;refine bq b [0,1,2] Y ?_;refine cG b a λa=>?_;refine mZ b a aO λa=>?_;refine gW b a λa=>?_;refine ak b ?_;refine pK b ?_;have a0:=gH (P:=T9) Tryz.results13 (a.slot 8 _ Y) (a.slot 9 _ Y);refine jd b Y (by simp only[put_defers]) Tryz.func13 a0.1 a0.2 ?_;intro _ H h ci;have A:oL F0 V ah rs sk=([],m):=by
    unfold oL;rw[cd,if_neg cc]
   refine au (.returned (.tuple #[aO,.int .i64 (m:Int)])) H ⟨aO,by rw[A],by rw[A];exact sH.nil _ _,λ_=>rfl,λc e=>(h.at_ c (Uc e g.size)).trans (g.at_ c e),Ux g.size h.size⟩ ci ⟨h.tape.trans g.tape,h.os.trans g.os,h.output.trans g.output,Ux g.size h.size⟩ (n7 a3 _)
  ·have P:=YA k;subst P;have b0:=Ux F bB;replace M:=S.row.1 M;have bm:FM u p f ah rs T Q al O cQ nh ae N 0 a7 W 0:=bl.kept (by rw[S.size];exact T6 _) (λc _=>MH S);have c0:r<u.heap.size:=(Ua.1 M).1;replace a:=a.put (d:=20) (by decide) (.tuple #[.pointer (I ⟨r,0,K⟩),.int .i64 0]);refine cG b a λa=>?_;refine rf b a λa=>?_;refine rf b a λa=>?_;refine gW b a λa=>?_;refine gW b a λa=>?_;refine ak b ?_;refine aS b ?_;refine aS b ?_;refine bq b [0,1] Y ?_;refine cG b a λa=>?_;refine dB b a Y (.bool T5) (qJ (c:=T5) Y (a.of Y) Y (by decide)) λa=>?_;refine ak b ?_;refine dm b T5 (a.of Y) ?_;refine ig b ?_;refine aS b ?_;refine bq b [0] Y ?_;refine mA b (λc e=>e.elim Yq (λd=>d)) (by decide) Y Y (.cells #[aO] 26) trivial (λG=>.pointer (I ⟨G,0,K⟩)) (sY Y Og) λB dE dr du E bu=>?_;replace a:=a.put (d:=12) (by decide) (.pointer (I ⟨B,0,K⟩));refine ak b ?_;refine RP λH h=>?_;have x:RelB (gd u) u H:=⟨λc e=>(h.at_ c (.inl e)).trans (E.at_ c (.inr e)),Ux E.size h.size,h.tape.trans E.tape,h.os.trans E.os,h.output.trans E.output⟩;have av:H.heap[B]? =I (.cells #[aO] 26 (0,0)):=(h.at_ B (.inr Y)).trans bu;have cR:B<H.heap.size:=(Ua.1 av).1;refine aS b ?_;refine aS b ?_;refine bq b [0,1] Y ?_;refine cG b a λa=>?_;refine oW (vs:= #[.pointer (I ⟨r,0,K⟩)]) (R:=λn v w=>v= .func (.func 53) #[] #[.pointer (I ⟨n.heap.size,0,K⟩)]/\w=n.alloc (.cells #[.pointer (I ⟨r,0,K⟩)] 74)) cU Y Y Y Y (mq (a.of Y)) Tryz.func36 K4 Y (jW Y Y Y).symm (dI Y (by simp only[put_defers]) (by kernel_rfl)) (λn L F=>(kW r n).mono λk w ⟨ap,C⟩=>⟨by rw[C];exact(Below.refl _ _).alloc (T6 _) _,_,ap,rfl,C⟩) λv bc da a9 dq dt dp cs bs y=>?_;obtain⟨rfl,br⟩:=cs;generalize cv:bc.heap.size=ba at*;have cu:a9.heap[ba]? =I (.cells #[.pointer (I ⟨r,0,K⟩)] 74 (0,0)):=by
    refine bs.row.1 ?_;rw[br,<-cv];exact Ec.bk _ _
   replace a:=a.put (d:=27) (by decide) (.func (.func 53) #[] #[.pointer (I ⟨ba,0,K⟩)]);refine ak b ?_;refine gA b ?_;have bt:wH p.length ah rs=Z:=by
    obtain⟨dv,dc,am,bj,_⟩:=I0 ar;rw[J] at am;cases am;exact bj
   have b2:fY s p f:=by
    rw[J] at hF;exact hF.1
   have o:RelB (gd u) u a9:=⟨λc e=>(y.at_ c (Uc e x.size)).trans (x.at_ c e),Ux x.size y.size,y.tape.trans x.tape,y.os.trans x.os,y.output.trans x.output⟩;have b6:∀l,zM T Q O cQ N W f.length ah.length rs.length l->l<u.heap.size:=λl t=>by have:=(a5 l t).2;omega
   refine GH (vt:=w0.heap.size) (Sk b2 bt aw a1 (J▸bo)) (bm.kept o.size λl t=>D2 (o.at_ l (b6 l t))) (λl t=>(a5 l t).2) b0 (by omega) (by omega) ((o.at_ r c0).trans M) ((y.at_ B cR).trans av) cu (((a.nil.cons (a.slot 10 _ Y)).cons (a.slot 12 _ Y)).cons (a.slot 27 _ Y)) (by simp only[put_defers]) λdb c9 D a8 bb b1 i=>?_;refine Ku bb b1 i.d i.c Y i.b λdO q=>?_;intro _ ab z ck;have a4:=Ux g.size (Ux o.size i.size);have cn:su F0 V ah rs sk (λ_=>Z)=iV sk f ah rs (aY p.length (ah++rs.map cE.col)) V (λ_=>Z) 0 f.length [] 0:=by rw[J];rfl
   have A:oL F0 V ah rs sk=if (iV sk f ah rs (aY p.length (ah++rs.map cE.col)) V (λ_=>Z) 0 f.length [] 0).2.2=0 then((iV sk f ah rs (aY p.length (ah++rs.map cE.col)) V (λ_=>Z) 0 f.length [] 0).1.map VU,0) else([],(iV sk f ah rs (aY p.length (ah++rs.map cE.col)) V (λ_=>Z) 0 f.length [] 0).2.2):=by
    unfold oL;rw[if_pos ar,cn]
   generalize iV sk f ah rs (aY p.length (ah++rs.map cE.col)) V (λ_=>Z) 0 f.length [] 0=X at*;have dC:=Ux g.size (Ux o.size i.dl);have b5:∀c,c<w0.heap.size->ab.heap[c]? =w0.heap[c]? :=λc e=>(z.at_ c (Uc e (Ux a4 q.size))).trans ((q.at_ c (by omega) (by omega)).trans ((i.keep c e).trans ((o.at_ c (Uc e g.size)).trans (g.at_ c e))));have a2:=Ux a4 (Ux q.size z.size);refine au (.returned (.tuple #[if X.2.2=0 then a8 else aO,.int .i64 (X.2.2:Int)])) ab ⟨if X.2.2=0 then a8 else aO,?_,?_,?_,b5,a2⟩ ck ⟨z.tape.trans (q.tape.trans (i.tape.trans (o.tape.trans g.tape))),z.os.trans (q.os.trans (i.os.trans (o.os.trans g.os))),z.output.trans (q.output.trans (i.output.trans (o.output.trans g.output))),a2⟩ (n7 a3 _)
   ·rw[A]
    split
    ·rename_i R;rw[R]
    ·rfl
   ·rw[A]
    split
    ·obtain⟨c8,c1,c2,c3⟩:=i.own;have a6:∀{k:Ug} {aa G:Nat} {v:U} {ad:List U},c9.ownsRow w0.heap.size k aa v G ad->ab.ownsRow w0.heap.size k aa v G ad:=λ{k aa G v ad} d=>jV d (T6 _) λao b3 ap C=>by
      refine(z.at_ ao (Uc C q.size)).trans (q.at_ ao C λk=>?_);obtain⟨dk,az⟩:=Ec.Gj d b3;rw[k,i.d] at az;cases az
     exact⟨c8,a6 c1,λcx l t=>by
      obtain⟨c7,c4,c5⟩:=c2 cx l t;exact⟨c7,c4,a6 c5⟩,c3⟩
    ·exact sH.nil _ _
   ·rw[A];intro d
    split at d
    ·exact absurd Y d
    ·rename_i R;rw[if_neg R]
end
end Cc
namespace Cc
open Go Go.Conc
open Ec
def OQ(s:ByteArray)(w0:F)(e:s.size<=Up):∃b,rS s b:=by
 obtain⟨k,m,l,⟨_,a⟩,_⟩:=uy s w0 e [];rcases a with⟨f,bs,g,h,i,j,_,c,_,_,d⟩|⟨_,a⟩
 ·exact⟨I (f,bs),c,d⟩
 ·exact⟨K,a⟩
def PW(s:ByteArray)(k e cn:Int)(w0:F)(g:s.size<=Up):∃vs,pi s k e cn vs:=by
 obtain⟨n,m,j,⟨_,a⟩,_⟩:=pJ s k e cn w0 g [];rcases a with⟨a,_⟩|⟨b,rfl,d,c,l,⟨v,i,_,_,f⟩|⟨_,h⟩⟩
 ·exact⟨[],.inr ⟨rfl,.inl a⟩⟩
 ·exact⟨i,.inl ⟨b,rfl,d,c,f⟩⟩
 ·exact⟨[],.inr ⟨rfl,.inr ⟨b,rfl,h⟩⟩⟩
def Mo{s:ByteArray}{i:Fo}(w0:F)(hF:rS s i):∃V,xE i V:=by
 cases i with
 |none=>exact⟨λ_ _=>[],trivial⟩
 |some v=>
  obtain⟨p,bs⟩:=v;have o:∀e c:Nat,∃l,∀b d a,bs[e]? =I b->b.chunks[c]? =I d->p[c]? =I a->pi d.text a.1.kind a.2 (b.rows:Int) l:=λe c=>by
   cases k:bs[e]? with
   |none=>exact⟨[],λb d a h=>by cases h⟩
   |some b=>
    cases g:b.chunks[c]? with
    |none=>exact⟨[],λm d a h f=>by cases h;rw[g] at f;cases f⟩
    |some d=>
     cases n:p[c]? with
     |none=>exact⟨[],λm d a h f j=>by cases j⟩
     |some a=>
      have t:d.text.size<=Up:=by
       obtain⟨r,rfl⟩:=Uz.1 g;have:=((hF.1.1.b8 b (VD k)).each c r).n;unfold Up;omega
      obtain⟨l,u⟩:=PW d.text a.1.kind a.2 (b.rows:Int) w0 t;exact⟨l,λm w x q f j=>by
       cases q;rw[g] at f;cases f;cases j;exact u⟩
  exact⟨λe c=>Vq (o e c),λe b k c d a g n=>Uu (o e c) b d a k g n⟩
theorem DQ:∀(a pre:List dx),feed (λ_=>Z) pre a=(pre++a,Z)
 | [],pre=>by simp[feed]
 |x::a,pre=>by
  rw[uu,if_pos Y,DQ a (pre++[x])];simp
section
variable {bs:List Bd}{ah:List Int}{rs:List cE}{ws:List Bool}{V:Nat->Nat->List aD}
def Nq(sk:Bool)(r i:Nat)(pre:List dx)(n:Nat):iV sk bs ah rs ws V (λ_=>Z) i (r+1) pre n=if sk&&sZ bs rs i then iV sk bs ah rs ws V (λ_=>Z) (i+1) r pre n else if Ld bs ws V i then iV sk bs ah rs ws V (λ_=>Z) (i+1) r (pre++iw bs ah rs V i) (n+1) else(pre,n+1,3):=by
 rw[iV,DQ];simp
end
end Cc
namespace Ec
open Go.RowKit Pk Pm
theorem xV:∀A B C:List UInt8,Vd A B<=0->Vd B C<=0->Vd A C<=0
 | [],B,[],_,_=>by simp[Vd]
 | [],B,_::_,_,_=>by simp[Vd]
 |_::_,[],C,b,_=>by simp[Vd] at b
 |_::_,_::_,[],_,b=>by simp[Vd] at b
 |a::A,h::B,i::C,b,c=>by
  have f:=xV A B C;simp only[Vd] at b c ⊢;have g:∀d e:UInt8,d<e↔d.toNat<e.toNat:=λd e=>UInt8.lt_iff_toNat_lt;simp only[g] at b c ⊢
  split at b
  ·split at c
   ·rw[if_pos (by omega)];omega
   ·split at c
    ·omega
    ·rw[if_pos (by omega)];omega
  ·split at b
   ·omega
   ·split at c
    ·rw[if_pos (by omega)];omega
    ·split at c
     ·omega
     ·rw[if_neg (by omega),if_neg (by omega)];exact f b c
def oT{x y z:aD}(h:fo x y<=0)(a:fo y z<=0):fo x z<=0:=by
 unfold fo at h a ⊢
 split at h
 ·split at a
  ·rw[if_pos (by omega)];omega
  ·split at a
   ·omega
   ·rw[if_pos (by omega)];omega
 ·split at h
  ·omega
  ·split at a
   ·rw[if_pos (by omega)];omega
   ·split at a
    ·omega
    ·rw[if_neg (by omega),if_neg (by omega)];exact xV _ _ _ h a
def C9 (l:List aD)(b:lA):Prop:=(b=cD/\∀a∈l,a.null=Z)\/(b.there=Z/\b.least∈l/\b.least.null=T5/\b.most∈l/\b.most.null=T5/\∀a∈l,a.null=T5->fo b.least a<=0/\fo a b.most<=0)
def Fz{l:List aD}{b:lA}(h:C9 l b)(v:aD):C9 (l++[v]) (nW b v):=by
 unfold nW;cases f:v.null with
 |true=>
  rw[if_pos Y];rcases h with⟨g,e⟩|⟨g,e,i,j,k,m⟩
  ·refine .inl ⟨g,λd a=>?_⟩;rcases U1.1 a with a|a
   ·exact e d a
   ·simp at a;rw[a];exact f
  ·refine .inr ⟨g,List.mem_append_left _ e,i,List.mem_append_left _ j,k,λd a c=>?_⟩;rcases U1.1 a with a|a
   ·exact m d a c
   ·simp at a;rw[a,f] at c;cases c
 |false=>
  rw[if_neg (by simp)];rcases h with⟨rfl,e⟩|⟨g,e,i,j,k,m⟩
  ·refine .inr ⟨rfl,?_,?_,?_,?_,λd a c=>?_⟩
   ·simp[cD]
   ·simp[cD,f]
   ·simp[cD]
   ·simp[cD,f]
   ·rcases U1.1 a with a|a
    ·rw[e d a] at c;cases c
    ·simp at a;subst a;simp[cD,vg]
  ·have p:v∈l++[v]:=by simp
   refine .inr ⟨rfl,?_,?_,?_,?_,λd a c=>?_⟩
   ·dsimp only;split
    ·exact p
    ·exact List.mem_append_left _ e
   ·dsimp only;split
    ·exact f
    ·exact i
   ·dsimp only;split
    ·exact p
    ·exact List.mem_append_left _ j
   ·dsimp only;split
    ·exact f
    ·exact k
   ·dsimp only;simp only[g,Bool.true_eq_false,false_or];rcases U1.1 a with a|a
    ·obtain⟨n,o⟩:=m d a c;constructor
     ·split
      ·rename_i h;exact oT (by omega) n
      ·exact n
     ·split
      ·rename_i h;exact oT o (by have:=me v b.most;omega)
      ·exact o
    ·simp at a;subst a;constructor
     ·split
      ·rw[vg];omega
      ·rename_i h;have:=me b.least d;omega
     ·split
      ·rw[vg];omega
      ·rename_i h;omega
def Qv(l:List aD):C9 l (ct l):=by
 have g:∀(a l:List aD) (b:lA),C9 l b->C9 (l++a) (a.foldl nW b):=by
  intro a
  induction a with
  |nil=>intro l b c;simpa using c
  |cons d a f=>
   intro l b c;have:=f (l++[d]) _ (Fz c d);rw[UC] at this;exact this
 exact g l [] cD (.inl ⟨rfl,λd e=>by cases e⟩)
def QW{k:Int}{l:List aD}(h:∀x∈l,VC k x):Le k (ct l):=by
 rcases Qv l with⟨b,_⟩|⟨b,c,d,f,g,i⟩
 ·exact .inl b
 ·have e:∀x∈l,x.null=T5->VK k x:=λx m j=>by
   rcases h x m with⟨a,_⟩|a
   ·rw[j] at a;cases a
   ·exact a
  exact .inr ⟨b,e _ c d,e _ f g,by have:=(i _ c d).2;omega⟩
def sQ{α:Type}{f:α->List Nat}{l:List α}(h:∀a∈l,∀x∈f a,x<256):∀x∈l.flatMap f,x<256:=λx b=>by
 obtain⟨a,c,b⟩:=List.mem_flatMap.1 b;exact h a c x b
def ku{a b:List Nat}(h1:∀x∈a,x<256)(c:∀x∈b,x<256):∀x∈a++b,x<256:=λx d=>(U1.1 d).elim (h1 x) (c x)
def I7(k:Int)(b:lA):∀x∈cm k b,x<256:=by
 unfold cm
 split
 ·exact ku (by simp) (ku (uG _ _) (uG _ _))
 ·simp
def OF(cs:List bK)(es:List Int)(i:Nat):∀x∈xX cs es i,x<256:=by
 unfold xX;refine ku (kR _) (ku (jz _) λx a=>?_);simp only[VM,XQ,or_false] at a;rcases a with rfl|rfl<;>exact nX _
def M2(cs:List bK)(l:List ki)(n:Nat):∀x∈fj cs l n,x<256:=by
 unfold fj;refine sQ λa _=>?_;unfold o7;exact ku (kR _) (I7 _ _)
def Mg(cs:List bK)(es:List Int)(bs:List Bd):∀x∈jh cs es bs,x<256:=by
 unfold jh;refine ku (kR _) (ku (sQ λa _=>OF cs es a) (ku (kR _) (sQ λb _=>?_)));unfold ej;exact ku (kR _) (M2 _ _ _)
def D4:∀x∈dM,x<256:=by decide
def O9(n:Nat):∀x∈iz n,x<256:=by
 intro x a;unfold iz at a;simp only[VM,XQ,or_false] at a;omega
def Mc(cs:List bK)(es:List Int)(bs:List Bd):∀x∈vA cs es bs,x<256:=by
 unfold vA;exact ku D4 (ku (sQ λa _=>sQ λb _=>jz _) (ku (Mg _ _ _) (ku (O9 _) D4)))
section
variable {cs:List bK}{rows:List (List aD)}{es:List Int}{bd:Nat}
def tO(h:mY cs rows es bd):(cs.zip es).map Uw=cs:=List.map_fst_zip (by rw[h.FV];exact T6 _)
def IT(h:mY cs rows es bd):(cs.zip es).map VU=es:=List.map_snd_zip (by rw[h.FV];exact T6 _)
theorem BS(rows:List (List aD)){bd:Nat}(a:0<bd):∀n,((UK n).map λj=>(bX rows bd j).length).sum=min (n*bd) rows.length
 |0=>by simp
 |n+1=>by
  rw[XI,U0,List.sum_append,BS rows a n];simp only[Xw,List.map_nil,List.sum_cons,List.sum_nil,ir,Nat.succ_mul];omega
def xO(h:mY cs rows es bd)(bo:Bool):eU (bO rows cs es bo bd (bZ rows.length bd))=rows.length:=by
 unfold eU bO;rw[List.map_map];have:=BS rows h.lo (bZ rows.length bd);have c:((λb:Bd=>b.rows) ∘ λa=>gK (bX rows bd a) cs es bo)=λa=>(bX rows bd a).length:=rfl;rw[c,this];have e:¬bZ rows.length bd*bd<rows.length:=λd=>Nat.lt_irrefl _ ((mv (len:=rows.length) h.lo (bZ rows.length bd)).1 d);omega
def mY.vc(h:mY cs rows es bd)(j p:Nat)(a:p<cs.length):∀x∈bH (bX rows bd j) p,VC cs[p].kind x:=by
 intro x e;unfold bH at e;obtain⟨f,k,rfl⟩:=U7.1 e;have d:=DF k;obtain⟨m,g,l⟩:=Vv d;have c:=h.table.2.2 m g;rw[l] at c;have b:p<f.length:=by rw[c.1];exact a
 have i:=c.2 p b a;rw[Uh,Ul b];exact KU (gu h.table.1 _ (Ui a)) (h.vals f d _ (Ui b)) i
def pU(h:mY cs rows es bd)(bo:Bool)(j:(eB cs rows es bo bd).length<=65536):fY (strOf (eB cs rows es bo bd)) (cs.zip es) (bO rows cs es bo bd (bZ rows.length bd)):=by
 refine⟨⟨⟨by rw[tO h];exact h.table.1,by rw[tO h,IT h];exact h.eH⟩,λl d=>?_,by rw[xO h bo];exact h.table.2.1⟩,by rw[kJ];exact j,?_⟩
 ·rw[tO h];unfold bO at d;obtain⟨a,g,rfl⟩:=U7.1 d;have p:=(mv (len:=rows.length) h.lo a).2 (Vt.1 g);have e:(gK (bX rows bd a) cs es bo).rows=min bd (rows.length-a*bd):=ir;have m:=h.lo;have n:=h.hi;refine⟨by rw[e];omega,by rw[e];omega,cS _ _ _ _ _,λb o=>?_⟩;have c:b<cs.length:=by
   have:(gK (bX rows bd a) cs es bo).chunks.length=cs.length:=cS _ _ _ _ _;omega
  have f:(gK (bX rows bd a) cs es bo).chunks[b]=BP (bX rows bd a) cs es bo b:=by simp[gK,ep]
  rw[f];have k:BP (bX rows bd a) cs es bo b∈ep (bX rows bd a) cs es bo cs.length:=U7.2 ⟨b,Vt.2 c,rfl⟩;have q:=(h.chunks bo a _ k).1;refine⟨by omega,?_⟩;have i:(cs.getD b ⟨⟨#[]⟩,0⟩).kind=cs[b].kind:=by rw[Uh,Ul c];rfl
  rw[i,h.lM bo a b c];cases bo with
  |false=>exact .inl Y
  |true=>exact QW (h.vc a b c)
 ·unfold eB;rw[nF _ (Mc _ _ _)];unfold vA;rw[<-Mf,tO h,IT h]
end
def MX{cs:List bK}{b:List (List aD)}{es:List Int}{a:Int}(h:iG cs b)(d:mo a es cs)(e:∀r∈b,∀x∈r,rB x):mY cs b es a.toNat/\a=(a.toNat:Int):=by
 obtain⟨f,g,c⟩:=d;exact⟨⟨h,c,by omega,by omega,e⟩,by omega⟩
def GF{es:List Int}(a3:(∀e∈es,e=0)\/xD/\rR)(cs:List bK)(a:List (List aD))(b:Int)(bo:Bool)(aw a9 az:U)(w:F)(ae:cs.length<=Up)(a4:a.length<=Up)(a5:∀r∈a,r.length<=Up)(a6:es.length<=Up)(a8:∀r∈a,∀x∈r,rB x)
 (E:vm w aw cs) (Q:AA w a9 a) (O:rz w az es):
 UB aI 20 #[.agg #[aw,a9],.agg #[.int .i64 b,az,.bool bo]] w λe w'=>∃s n,e= .returned (.tuple #[.string s,.int .i64 n])/\Lp cs a b es bo s n/\aP w w':=by
 have bb:=af a3;clear a3;have bl:=E;have br:=Q;have bm:=O;obtain⟨d,bu,bE,aJ,rfl,bx,-⟩:=bl;obtain⟨l,bB,bh,aN,rfl,bA,-⟩:=br;obtain⟨h,bv,jf,bV,rfl,-,-,-⟩:=bm;have ao:=af E;have bc:=af Q;have ap:=af O;have bd:=af a8;have K:X (∀c,aP w c->UB aI 40 #[.agg #[.slice d cs.length aJ,.slice l a.length aN]] c λe w'=>∃A,e= .returned (.bool A)/\(A=Z↔iG cs a)/\aP c w'):=λc k=>
  DZ cs a _ _ c ae a4 a5 (E.below k) (Q.below k)
 have J:X (∀c,aP w c->UB aI 41 #[.agg #[.int .i64 b,.slice h es.length bV,.bool bo],.slice d cs.length aJ] c λe w'=>∃A,e= .returned (.bool A)/\(A=Z↔mo b es cs)/\aP c w'):=λc k=>
  xL b es bo cs _ _ c ae a6 (E.below k) (O.lower k)
 clear E Q O ae a4 a5 a6 a8;go_enter an.func20,Tryz.ntmps20
 go_upto_region 1 with fail
 have a1:aP w ((w.alloc (.cells #[.slice d cs.length aJ,.slice l a.length aN] 46)).alloc (.cells #[.int .i64 b,.slice h es.length bV,.bool bo] 48)):=gz _ _;have al:((w.alloc (.cells #[.slice d cs.length aJ,.slice l a.length aN] 46)).alloc (.cells #[.int .i64 b,.slice h es.length bV,.bool bo] 48)).heap[w.heap.size]? =I (.cells #[.slice d cs.length aJ,.slice l a.length aN] 46 (0,0)):=alloc_old _ (by simp) (bk w _);have am:((w.alloc (.cells #[.slice d cs.length aJ,.slice l a.length aN] 46)).alloc (.cells #[.int .i64 b,.slice h es.length bV,.bool bo] 48)).heap[w.heap.size+1]? =I (.cells #[.int .i64 b,.slice h es.length bV,.bool bo] 48 (0,0)):=jG w _ _;generalize (w.alloc (.cells #[.slice d cs.length aJ,.slice l a.length aN] 46)).alloc (.cells #[.int .i64 b,.slice h es.length bV,.bool bo] 48)=q at*;have y:=af a1;have Y:X (∀c,aP q c->(aM c w.heap.size 0 (.slice d cs.length aJ)/\aM c w.heap.size 1 (.slice l a.length aN))/\aM c (w.heap.size+1) 0 (.int .i64 b)/\aM c (w.heap.size+1) 1 (.slice h es.length bV)/\aM c (w.heap.size+1) 2 (.bool bo)):=λc k=>
  ⟨qz ((k.block _ (Ud al)).trans al),cA ((k.block _ (Ud am)).trans am)⟩
 clear a1 al am;obtain⟨⟨V,W⟩,R,S,T⟩:=Y.o q (Uo _ _);by_cases z:iG cs a
 ·have G:X (UB aI 40 #[.agg #[.slice d cs.length aJ,.slice l a.length aN]] q λe w'=>e= .returned (.bool Z)/\aP q w'):=pO (K.o _ y.o) z;have M:=af z;clear K z
  go_upto_region 3 with(go_at_call 40;refine G.o.mono ?_;rintro e v ⟨rfl,C⟩)
  have o:X (aP w v):=y.o.trans (C.mono y.o.size);have N:=af C;clear V W R S T C G;obtain⟨⟨V,W⟩,R,S,T⟩:=Y.o v N.o;by_cases t:mo b es cs
  ·have H:X (UB aI 41 #[.agg #[.int .i64 b,.slice h es.length bV,.bool bo],.slice d cs.length aJ] v λe w'=>e= .returned (.bool Z)/\aP v w'):=pO (J.o _ o.o) t;obtain⟨a7,a2⟩:=MX M.o t bd.o;have g:=af a7;have ba:=af a2;have av:=af t;clear J t a7 a2
   go_upto_region 5 with(go_at_call 41;refine H.o.mono ?_;rintro e m ⟨rfl,D⟩)
   have f:X (aP w m):=o.o.trans (D.mono o.o.size);have be:X (aP q m):=N.o.trans (D.mono N.o.size);clear V W R S T D H N o;obtain⟨⟨V,W⟩,R,S,T⟩:=Y.o m be.o;have ar:X (UB aI 43 #[.agg #[.slice d cs.length aJ,.slice l a.length aN],.agg #[.int .i64 b,.slice h es.length bV,.bool bo]] m λe w'=>∃j i,e= .returned (.agg #[.slice d cs.length aJ,.slice h es.length bV,j])/\i.map Uw=bO a cs es bo b.toNat (bZ a.length b.toNat)/\iX w' m.heap.size j i/\aP m w'):=by
    have k:=F1 bb.o a cs b.toNat bo (.slice l a.length aN) (.slice d cs.length aJ) (.slice h es.length bV) m g.o.lo g.o.hi g.o.table.2.1 g.o.len g.o.vals g.o.table.1.2.1 g.o.FV (bc.o.below f.o) (ao.o.below f.o) (ap.o.lower f.o);rw[<-ba.o] at k;exact k
   have au:X (∀c j i,aP w c->i.map Uw=bO a cs es bo b.toNat (bZ a.length b.toNat)->(∃base,iX c base j i)->UB aI 42 #[.agg #[.slice d cs.length aJ,.slice h es.length bV,j]] c λe w'=>e= .returned (.string (strOf (eB cs a es bo b.toNat)))/\aP c w'):=λc j i a0 B aa=>by
    obtain⟨base,aa⟩:=aa;exact Mu cs es (bO a cs es bo b.toNat (bZ a.length b.toNat)) _ _ j c g.o.table.1.2.1 g.o.FV (vH g.o.table.1) (gu g.o.table.1) (by rw[ja];exact g.o.nb) (g.o.b8 bo _) (g.o.pos bo) (g.o.body bo) (ao.o.below a0) (ap.o.lower a0) ⟨base,i,B,aa⟩
   have L:X ((strOf (eB cs a es bo b.toNat)).size=(eB cs a es bo b.toNat).length):=kJ _;by_cases P:65536<(eB cs a es bo b.toNat).length
   ·have p:X (Lp cs a b es bo ⟨#[]⟩ 6):=.inr (.inr (.inl ⟨M.o,av.o,P,rfl,rfl⟩));have bi:decide (65536<((strOf (eB cs a es bo b.toNat)).size:Int))=Z:=by rw[L.o];simp;omega
    clear P L;generalize strOf (eB cs a es bo b.toNat)=bj at*
    go_wp2_with (first|(go_at_call 43;refine ar.o.mono ?_;rintro e bs ⟨j,i,rfl,B,ad,u⟩)|(go_at_call 42;refine(au.o _ j i ?_ B ⟨_,ad⟩).mono ?_;(exact f.o.trans (u.mono f.o.size));rintro e bt ⟨rfl,ab⟩))
    go_ret2
    exact⟨_,_,rfl,p.o,(f.o.trans (u.mono f.o.size)).trans (ab.mono (f.o.trans (u.mono f.o.size)).size)⟩
   ·have p:X (Lp cs a b es bo (strOf (eB cs a es bo b.toNat)) 0):=.inr (.inr (.inr ⟨M.o,av.o,P,rfl,rfl⟩));have bi:decide (65536<((strOf (eB cs a es bo b.toNat)).size:Int))=T5:=by rw[L.o];simp;omega
    clear P L;generalize strOf (eB cs a es bo b.toNat)=bj at*
    go_wp2_with (first|(go_at_call 43;refine ar.o.mono ?_;rintro e bs ⟨j,i,rfl,B,ad,u⟩)|(go_at_call 42;refine(au.o _ j i ?_ B ⟨_,ad⟩).mono ?_;(exact f.o.trans (u.mono f.o.size));rintro e bt ⟨rfl,ab⟩))
    go_ret2
    exact⟨_,_,rfl,p.o,(f.o.trans (u.mono f.o.size)).trans (ab.mono (f.o.trans (u.mono f.o.size)).size)⟩
  ·have H:X (UB aI 41 #[.agg #[.int .i64 b,.slice h es.length bV,.bool bo],.slice d cs.length aJ] v λe w'=>e= .returned (.bool T5)/\aP v w'):=n6 (J.o _ o.o) t;have p:X (Lp cs a b es bo ⟨#[]⟩ 2):=.inr (.inl ⟨M.o,t,rfl,rfl⟩);clear J t
   go_wp2_with (go_at_call 41;refine H.o.mono ?_;rintro e m ⟨rfl,D⟩)
   go_ret2
   exact⟨_,_,rfl,p.o,o.o.trans (D.mono o.o.size)⟩
 ·have G:X (UB aI 40 #[.agg #[.slice d cs.length aJ,.slice l a.length aN]] q λe w'=>e= .returned (.bool T5)/\aP q w'):=n6 (K.o _ y.o) z;have p:X (Lp cs a b es bo ⟨#[]⟩ 1):=.inl ⟨z,rfl,rfl⟩;clear K z
  go_wp2_with (go_at_call 40;refine G.o.mono ?_;rintro e v ⟨rfl,C⟩)
  go_ret2
  exact⟨_,_,rfl,p.o,y.o.trans (C.mono y.o.size)⟩
end Ec
namespace Cc
open Go Go.Conc
open Go.RowKit (Below)
open Ec
def Aj{cs:List bK}{b:List (List aD)}{es:List Int}{a:Nat}{bo:Bool}(h:mY cs b es a){V:Nat->Nat->List aD}(r:xE (I (cs.zip es,bO b cs es bo a (bZ b.length a))) V):∀j,j<bZ b.length a->∀p,p<cs.length->V j p=bH (bX b a j) p:=by
 intro j u p c;have n:(bO b cs es bo a (bZ b.length a))[j]? =I (gK (bX b a j) cs es bo):=by simp[bO,u]
 have o:(gK (bX b a j) cs es bo).chunks[p]? =I (BP (bX b a j) cs es bo p):=by simp[gK,ep,c]
 have m:p<es.length:=by rw[h.FV];exact c
 have q:(cs.zip es)[p]? =I (cs[p],es[p]):=by simp[List.getElem?_zip_eq_some,c,m]
 have f:=r j _ n p _ _ o q;have k:es.getD p 0=es[p]:=by rw[Uh,Ul m];rfl
 rw[h.lM bo j p c,k] at f;have w:((gK (bX b a j) cs es bo).rows:Int)=((bH (bX b a j) p).length:Int):=by rw[fZ];rfl
 rw[w] at f;have z:=h.cut j p;have l:=h.eH.2 p c;rw[k] at l;have s:jB ((bH (bX b a j) p).length:Int) cs[p].kind es[p]=0:=by
  unfold jB;rw[if_neg (by omega),l];rfl
 have i:=Pk.nF _ (xZ cs[p].kind es[p] (bH (bX b a j) p));rcases f with⟨g,d,x,y,t⟩|⟨_,d|⟨g,d,v⟩⟩
 ·have e:(bH (bX b a j) p).length=g:=by omega
  exact(t.IL _ e (h.vc j p c) (eN i.symm)).symm
 ·exact absurd s d
 ·have e:(bH (bX b a j) p).length=g:=by omega
  exact absurd i.symm (v _ e (h.vc j p c))
end Cc
namespace Cc
open Go Go.Conc
open Go.RowKit (Below)
section
variable {P0 P:Ue}{Post:U->F->Prop}{cs:List Us}{w:F}{b:Us}{a:V5}{k:List WM}
def RO(h:Twins P0 P){c:WU}{Q:F->V5->F->Prop}(E:∀s,Item.code (.refuse s)∉k)(K:eM P0 (b.at a (.code c::k)) [])
 (G:∀W,(∀(b:Nat) o,w.heap[b]? =I o->bn P0 o->W.heap[b]? =I o)->w.heap.size<=W.heap.size->c.wp P0 (λe a' W'=>e= .normal/\aP W W'/\Q W a' W') a W)
 (C:∀a' W W' w',(∀(b:Nat) o,w.heap[b]? =I o->bn P0 o->W.heap[b]? =I o)->w.heap.size<=W.heap.size->aP W W'->Q W a' W'->Un W' w'->RelB (gd w) w w'->Xe P0 P Post (gd w') (b.at a' k) cs w'):Xe P0 P Post (gd w) (b.at a (.code c::k)) cs w:=by
 intro O N d H;refine Ip h (Q:=λg e a' W'=>e= .normal/\∃W,W.heap=g.heap/\aP W W'/\Q W a' W') (λg j m=>?_) E (λg id a w f=>by cases f.1) (λg R a w f=>by cases f.1) (λg a w f=>by cases f.1) (λg e a' x w' m A j f i t=>?_) K H
 ·intro y M z;obtain⟨e,a',w',⟨n,i,B⟩,D⟩:=G (sh m 0 g) (λb o l q=>j.at_ b o ((d.at_ b (Ua.1 l).1).trans l) q) (by show w.heap.size<=g.heap.size;rw[<-j.un.size];exact d.size) y M z;exact⟨e,a',w',⟨n,sh m 0 g,rfl,i,B⟩,D⟩
 ·obtain⟨rfl,W,r,p,f⟩:=f;have L:W.heap.size<=w'.heap.size:=by rw[i.un.size];exact p.size
  have u:W.heap.size=N.heap.size:=by rw[r,j.un.size]
  have hrel:RelB (gd w) w w':=⟨λb v=>by
   have n:x.heap[b]? =W.heap[b]? :=p.block b (by rw[u];exact Uc v d.size);exact(i.same j.un (by rw[n,r])).trans (d.at_ b v),Ux d.size (by rw[<-u];exact L),t.tape.trans d.tape,t.os.trans d.os,t.output.trans d.output⟩
  intro _ J;exact Xe.go (C a' W (sh m A x) w' (λb o l q=>by rw[r];exact j.at_ b o ((d.at_ b (Ua.1 l).1).trans l) q) (by rw[u];exact d.size) p f ⟨i.un.size,i.un.at_,i.un.os,i.un.output⟩ hrel) (λb h=>h) J
end
end Cc
namespace Cc
open Go Go.Conc
open Go.RowKit (Below)
open Ec
open Pk
def Q3{a:V5}{n:Nat}(h:a.tmps.size=n)(c:a.defers=[]):a=⟨((UK n).map (aW a)).toArray,[]⟩:=by
 obtain⟨f,e⟩:=a;simp only at h c;subst c;congr 1;apply Array.ext_getElem?;intro d;simp only[List.getElem?_toArray,List.getElem?_map,List.getElem?_range];rcases Vy d n with b|b
 ·simp[b,aW,h]
 ·simp[b,h]
end Cc
namespace Ec
open Go.RowKit Pk Pm
def Tj(W:F)(v:Nat->U):(Tb Wc).wp aI (λe a' W'=>e= .normal/\W'=W.alloc (.cells #[aO,aO,.int .i64 0,aO,.bool T5] 50)/\Cc.Knows a' 156 [(0,v 0),(1,v 1),(2,v 2),(3,v 3),(4,v 4),(10,.pointer (I ⟨W.heap.size,0,K⟩))]/\a'.defers=[]) (pV v) W:=by
 unfold Tb Wc pV;dsimp only
 go_wp2_with fail
 exact(((((Ak Y Y).cons Y).cons Y).cons Y).cons Y).cons Y
def Tk(W:F)(v:Nat->U):(Tc Wc).wp aI (λe a' W'=>e= .normal/\W'=W.alloc (.cells #[aO,aO,.int .i64 0,aO,.bool T5] 50)/\Cc.Knows a' 156 [(0,v 0),(1,v 1),(2,v 2),(3,v 3),(4,v 4),(10,v 10),(11,.pointer (I ⟨W.heap.size,0,K⟩))]/\a'.defers=[]) (pV v) W:=by
 unfold Tc Wc pV;dsimp only
 go_wp2_with fail
 exact((((((Ak Y Y).cons Y).cons Y).cons Y).cons Y).cons Y).cons Y
def pW{a:V5}(h:a.tmps.size=156)(b:a.defers=[]):a=pV (Cc.aW a):=Cc.Q3 h b
def MK(w:F):eL w ((w.alloc (.cells #[aO,aO,.int .i64 0,aO,.bool T5] 50)).alloc (.cells #[aO,aO,.int .i64 0,aO,.bool T5] 50)) (w.heap.size+1) aO [] aO [] 0 aO [] T5:=
 ⟨alloc_old _ (by simp) (bk w _),jG w _ _,Vp _ _ _ _,Vp _ _ _ _,λb a=>absurd a (by simp),Vp _ _ _ _,gz _ _,by omega⟩
def MI(kinds:List Int)(raw:List aD)(dS:List Int)(m:Int)(bo:Bool)(q:Option UJ)(kb gL fE:Nat)(ro:Option UJ)(rb bh aN:Nat)(co:Option UJ)(s bE r:Nat)(w:F)(az:kinds.length<=Up)(a0:raw.length<=Up)(aw:dS.length<=Up)
 (ar:(0<kinds.length->q=I ⟨kb,gL,K⟩)/\(0<kinds.length->kb<w.heap.size)/\∀j,j<kinds.length->aM w kb (gL+j) (.int .i64 (kinds.getD j 0))) (a2:sI w ro rb bh raw) (ae:(0<dS.length->co=I ⟨s,bE,K⟩)/\(0<dS.length->s<w.heap.size)/\∀j,j<dS.length->aM w s (bE+j) (.int .i64 (dS.getD j 0)))
 (ao:∀x∈kinds,lO x) (am:∀x∈dS,lO x) (ap:∀x∈raw,rB x/\x.s.size<=Up) (ad:lO m):
 UB aI 19 #[.slice q kinds.length fE,.slice ro raw.length aN,.slice co dS.length r,.int .i64 m,.bool bo] w (TE w raw.length bo):=by
 refine calls_of_wp an.func19 Pg ?_;have a:=Cc.TL (.slice q kinds.length fE) (.slice ro raw.length aN) (.slice co dS.length r) (.int .i64 m) (.bool bo) 156 (by decide);generalize T:(#[.slice q kinds.length fE,.slice ro raw.length aN,.slice co dS.length r,.int .i64 m,.bool bo]++U3 (156-5) Vk:Array U)=a6 at a;have a3:({tmps:= #[.slice q kinds.length fE,.slice ro raw.length aN,.slice co dS.length r,.int .i64 m,.bool bo]++U3 (Wc.ntmps-5) Vk,defers:=[]}:V5)=⟨a6,[]⟩:=by rw[<-T];rfl
 show Code.wp _ _ _ {tmps:= #[.slice q kinds.length fE,.slice ro raw.length aN,.slice co dS.length r,.int .i64 m,.bool bo]++U3 (Wc.ntmps-5) Vk,defers:=[]} w;rw[a3,pW a.size Y];refine wp_seq (Yf ?_ (Tj w _));rintro o G bc ⟨rfl,rfl,l,P⟩;show Code.wp _ _ _ G _;rw[pW l.size P];refine wp_seq (Yf ?_ (Tk _ _));rintro o H E ⟨rfl,rfl,i,Q⟩;have S:=(i.slot 0 _ Y).trans ((l.slot 0 _ Y).trans (a.slot 0 _ Y));have h:=(i.slot 1 _ Y).trans ((l.slot 1 _ Y).trans (a.slot 1 _ Y));have p:=(i.slot 2 _ Y).trans ((l.slot 2 _ Y).trans (a.slot 2 _ Y));have d:=(i.slot 3 _ Y).trans ((l.slot 3 _ Y).trans (a.slot 3 _ Y));have e:=(i.slot 4 _ Y).trans ((l.slot 4 _ Y).trans (a.slot 4 _ Y));have c:=(i.slot 10 _ Y).trans (l.slot 10 _ Y);have b:_=Value.pointer (I ⟨w.heap.size+1,0,K⟩):=(i.slot 11 _ Y).trans (by simp);have f:=MK w;generalize (w.alloc (.cells #[aO,aO,.int .i64 0,aO,.bool T5] 50)).alloc (.cells #[aO,aO,.int .i64 0,aO,.bool T5] 50)=E at*;show Code.wp _ _ _ H _;rw[pW i.size Q];refine wp_seq (Yf ?_ (Pj w _ _ _ kinds q kb gL fE S b az ar ao f));rintro o J bd ⟨rfl,n,k,X,Z,f,a,g⟩;replace h:=(a.slot 1 _ Y).trans h;replace p:=(a.slot 2 _ Y).trans p;replace d:=(a.slot 3 _ Y).trans d;replace e:=(a.slot 4 _ Y).trans e;replace c:=(a.slot 10 _ Y).trans c;replace b:=(a.slot 11 _ Y).trans b;show Code.wp _ _ _ J _;rw[pW a.size g];refine wp_seq (Yf ?_ (To w _ _ _ n k b X Z f));rintro o L be ⟨rfl,n,k,A,f,a,g⟩;replace h:=(a.slot 1 _ Y).trans h;replace p:=(a.slot 2 _ Y).trans p;replace d:=(a.slot 3 _ Y).trans d;replace e:=(a.slot 4 _ Y).trans e;replace c:=(a.slot 10 _ Y).trans c;replace b:=(a.slot 11 _ Y).trans b;show Code.wp _ _ _ L _;rw[pW a.size g];refine wp_seq (Yf ?_ (Tn w _ _ _ n k b f));rintro o M bi ⟨rfl,rfl,a,g⟩;replace h:=(a.slot 1 _ Y).trans h;replace p:=(a.slot 2 _ Y).trans p;replace d:=(a.slot 3 _ Y).trans d;replace e:=(a.slot 4 _ Y).trans e;replace c:=(a.slot 10 _ Y).trans c;replace b:=(a.slot 11 _ Y).trans b;have t:=a.slot 13 _ Y;show Code.wp _ _ _ M _;rw[pW a.size g];refine wp_seq (Yf ?_ (Pn w _ _ _ dS co s bE r n k p b t aw ae am A f));rintro o N bj ⟨rfl,y,u,al,f,a,g⟩;replace h:=(a.slot 1 _ Y).trans h;replace d:=(a.slot 3 _ Y).trans d;replace e:=(a.slot 4 _ Y).trans e;replace c:=(a.slot 10 _ Y).trans c;replace b:=(a.slot 11 _ Y).trans b;replace t:=(a.slot 13 _ Y).trans t;show Code.wp _ _ _ N _;rw[pW a.size g];refine wp_seq (Yf ?_ (Po w _ _ _ raw ro rb bh aN n k y u h b t a0 a2 ap A f));rintro o O bl ⟨rfl,C,B,f,aa,a1,au,a,g⟩;replace d:=(a.slot 3 _ Y).trans d;replace e:=(a.slot 4 _ Y).trans e;replace c:=(a.slot 10 _ Y).trans c;replace b:=(a.slot 11 _ Y).trans b;show Code.wp _ _ _ O _;rw[pW a.size g];refine Yf ?_ (Pp w _ _ _ k n B C u y m bo d e c b ad f λv V W=>MJ A al aa au V W);rintro o br bm ⟨rfl,⟨v,a5,av,ab,a4⟩,D,R⟩;refine⟨R,.agg #[k,B,.int .i64 (v:Int),u,.bool bo],?_,ab,k,n,B,C,u,y,v,rfl,av,a4,a1⟩;obtain⟨⟨a7,a8,a9,ba,bb⟩,-⟩:=fc a5;have z:=D.slot 10 _ Y;unfold Cc.aW at z;rw[UD] at z;simp[UX,Tryz.results19,go_sem,z,a7,a8,a9,ba,bb]
def Jh(k e:Int)(l:List aD)(h:∀x∈l,pp x)(j:l.length<=100):(bJ k e l).length<=54*l.length+11:=by
 have o:=lV l;have b:=oK (l.map nK).length (l.map nK);have d:(dU k e (there l)).length<=43*(there l).length+11:=by
  have a:∀x∈there l,pp x:=λx a=>h x (uZ a);generalize there l=l at*;unfold dU
  split
  ·have:=nH 0 l;omega
  ·split
   ·unfold ew;have c:=pP l l.length (T6 _);rw[Vf] at c;obtain⟨b,d,i,f⟩:=c;have n:=ga k (dfold l).1 (λx g=>a x (f x g));have p:=cj 10 (dfold l).1.length;have m:(dfold l).2.length*wid (dfold l).1.length<=(dfold l).2.length*7:=Ws (T6 _) (vi _);rw[T8,T8,eY];unfold aL;omega
   ·split
    ·have:=oK (l.map aD.n).length (l.map aD.n);unfold cw;rw[UG] at this ⊢;omega
    ·have:=ga k l a;omega
 unfold bJ cw;rw[UG] at b;rw[T8,UG];omega
section
variable {cs:List bK}{rows:List (List aD)}{es:List Int}{bd:Nat}
def P6(h:mY cs rows es bd)(bo:Bool)(j:Nat):(cr (gK (bX rows bd j) cs es bo).chunks).length<=cs.length*(54*(bX rows bd j).length+11):=by
 have:=lQ (λc:ki=>bytesOf c.text) (54*(bX rows bd j).length+11) (gK (bX rows bd j) cs es bo).chunks (λc d=>by
  obtain⟨a,b,rfl⟩:=U7.1 d;have b:a<cs.length:=by simpa using b
  rw[h.lM bo j a b,nF _ (xZ _ _ _)];have:=Jh cs[a].kind (es.getD a 0) (bH (bX rows bd j) a) (λf e=>(h.col j a b f e).2) (h.cut j a);rw[fZ] at this;exact this)
 rwa [show(gK (bX rows bd j) cs es bo).chunks.length=cs.length from cS _ _ _ _ _] at this
theorem Hz(h:mY cs rows es bd)(bo:Bool):∀n,(bQ (bO rows cs es bo bd n)).length<=cs.length*(54*((UK n).map λj=>(bX rows bd j).length).sum+11*n)
 |0=>UE _
 |n+1=>by
  have b:=Hz h bo n;have c:=P6 h bo n;rw[vq,XI,U0,List.sum_append];unfold bQ at b ⊢;rw[List.flatMap_append,List.flatMap_singleton,T8];have a:cs.length*(54*(((UK n).map λj=>(bX rows bd j).length).sum+([n].map λj=>(bX rows bd j).length).sum)+11*(n+1))=cs.length*(54*((UK n).map λj=>(bX rows bd j).length).sum+11*n)+cs.length*(54*(bX rows bd n).length+11):=by
   rw[<-Ye];congr 1;simp;omega
  rw[a];omega
def OS(h:mY cs rows es bd)(bo:Bool)(n:Nat):(jh cs es (bO rows cs es bo bd n)).length<=20+cs.length*28+n*(10+cs.length*95):=by
 have r:(iR cs es cs.length).length<=cs.length*28:=by
  have:=lQ (xX cs es) 28 (UK cs.length) (λc a=>by
   have a:c<cs.length:=by simpa using a
   have w:=vH h.table.1 cs[c] (Ui a);have i:=cj 10 cs[c].name.size;unfold xX aL;rw[Uh,Ul a];simp only[V1,T8,aj,VI,XH];omega)
  rwa [List.length_range] at this
 have s:(cP cs (bO rows cs es bo bd n)).length<=n*(10+cs.length*95):=by
  have:=lQ (ej cs) (10+cs.length*95) (bO rows cs es bo bd n) (λb g=>by
   obtain⟨d,v,rfl⟩:=U7.1 g;have l:=h.chunks bo d;have e:(gK (bX rows bd d) cs es bo).chunks.length=cs.length:=cS _ _ _ _ _;have o:=lQ (o7 cs (gK (bX rows bd d) cs es bo).chunks) 95 (UK (gK (bX rows bd d) cs es bo).chunks.length) (λc a=>by
    have a:c<(gK (bX rows bd d) cs es bo).chunks.length:=by simpa using a
    obtain⟨p,j,k,q⟩:=l _ (Ui a);have i:=cj 10 (gK (bX rows bd d) cs es bo).chunks[c].text.size;unfold o7 aL;rw[Uh,Ul a];simp only[V1,T8];have g:∀(f:Int) (b:lA),pp b.least->pp b.most->(cm f b).length<=85:=λf b e m=>by
     have x:=gQ f b.least e.sz;have y:=gQ f b.most m.sz;unfold cm
     split
     ·simp only[T8,VI,XH];omega
     ·simp
    have:=g (cs.getD c ⟨⟨#[]⟩,0⟩).kind _ j k;simp only[Uh] at this ⊢;omega)
   rw[List.length_range,e] at o;have i:=cj 10 (gK (bX rows bd d) cs es bo).rows;unfold ej fj aL;rw[T8,e];omega)
  rwa [ja] at this
 have t:=cj 10 cs.length;have u:=cj 10 (bO rows cs es bo bd n).length;unfold jh aL;simp only[T8];omega
def GK(h:mY cs rows es bd)(bo:Bool)(d:rows.length*cs.length<=100):(eB cs rows es bo bd).length<=65536:=by
 have n:1<=cs.length/\cs.length<=8:=⟨h.table.1.1,h.table.1.2.1⟩;have o:rows.length<=100:=Ux (Nat.le_mul_of_pos_right _ (by omega)) d;have c:bZ rows.length bd<=rows.length:=by
  rcases Vy rows.length (bZ rows.length bd) with a|a
  ·have:=(mv (len:=rows.length) h.lo rows.length).2 a;have:=Nat.le_mul_of_pos_right rows.length h.lo;omega
  ·exact a
 have b:=Hz h bo (bZ rows.length bd);rw[BS rows h.lo] at b;have m:=OS h bo (bZ rows.length bd);have i:cs.length*(54*min (bZ rows.length bd*bd) rows.length+11*bZ rows.length bd)<=cs.length*(65*rows.length):=Ws (T6 _) (by omega);have j:cs.length*(65*rows.length)=65*(rows.length*cs.length):=by rw[Nat.mul_left_comm,Xx cs.length]
 have k:bZ rows.length bd*(10+cs.length*95)<=rows.length*(10+cs.length*95):=Ws c (T6 _);have l:rows.length*(10+cs.length*95)=rows.length*10+95*(rows.length*cs.length):=by rw[Ye,<-Nat.mul_assoc,Xx 95]
 unfold eB vA;simp only[T8];have e:dM.length=4:=rfl;have f:∀g,(iz g).length=4:=λ_=>rfl;rw[e,f];omega
end
end Ec
namespace Cc
open Go Go.Conc
open Go.RowKit (Below)
open Ec
section
variable {P0 P:Ue}{S own:Nat->Prop}{w:F}{a:V5}{o:Vu}
end
section
variable {P0 P:Ue}{Post:U->F->Prop}{cs:List Us}{w:F}{b:Us}{a:V5}{k:List WM}
def nB(h:Twins P0 P){n:Nat}{l:List (Nat×U)}(d:Knows a n l)(i:a.defers=[])(c:WU)(Q:F->V5->F->Prop)(j:∀s,Item.code (.refuse s)∉k)(q:eM P0 (b.at a (.code c::k)) [])
 (m:∀v W,(∀s x,l.lookup s=I x->v s=x)->(∀(b:Nat) o,w.heap[b]? =I o->bn P0 o->W.heap[b]? =I o)->w.heap.size<=W.heap.size->c.wp P0 (λe a' W'=>e= .normal/\aP W W'/\Q W a' W') ⟨((UK n).map v).toArray,[]⟩ W)
 (f:∀a' W W' w',(∀(b:Nat) o,w.heap[b]? =I o->bn P0 o->W.heap[b]? =I o)->w.heap.size<=W.heap.size->aP W W'->Q W a' W'->Un W' w'->RelB (gd w) w w'->Xe P0 P Post (gd w') (b.at a' k) cs w'):Xe P0 P Post (gd w) (b.at a (.code c::k)) cs w:=
 RO h j q (λW g p=>by
  have:=m (aW a) W d.slot g p;rwa [<-Q3 d.size i] at this) f
end
def Ps{c:WU}(hc:∀s,c≠.refuse s):∀s,Item.code (.refuse s)∉[Item.code c]:=λs d=>by
 simp only[WI,Item.code.injEq] at d;exact hc s d.symm
def sH.like{P0:Ue}{w W:F}{base:Nat}{v:U}{n:List (List aD)}(h:sH w base v n)(x:∀(b:Nat) o,w.heap[b]? =I o->bn P0 o->W.heap[b]? =I o):sH W base v n:=by
 have p:∀{e:Ug} {i g:Nat} {v:U} {j:List U},w.ownsRow base e i v g j->W.ownsRow base e i v g j:=λ{e i g v j} h=>by
  obtain⟨m,⟨c,d⟩|⟨l,s,t,c,d,f,u⟩⟩:=h
  ·exact⟨m,.inl ⟨c,d⟩⟩
  ·exact⟨m,.inr ⟨l,s,t,c,d,x l _ f trivial,u⟩⟩
 obtain⟨B,c,d,f⟩:=h;exact⟨B,p c,λz C y=>by
  obtain⟨A,q,r⟩:=d z C y;exact⟨A,q,p r⟩,f⟩
def Oh:(VT.name == "runtime.NumGoroutine")=T5:=by kernel_rfl
end Cc
namespace Ec
open Go.RowKit Pk
def Si (x y:bK):Bool:=(x.name.toList==y.name.toList)&&(x.kind==y.kind)
def H7{x y:bK}:Si x y=Z↔x=y:=by
 obtain⟨b,c⟩:=x;obtain⟨d,e⟩:=y;unfold Si;simp only[Uv,beq_iff_eq,bK.mk.injEq];exact⟨λa=>⟨toList_inj a.1,a.2⟩,λa=>⟨by rw[a.1],a.2⟩⟩
def EA(w:F)(x y:bK):(binOp .neq 63 (.agg #[.string x.name,.int .i64 x.kind]) (.agg #[.string y.name,.int .i64 y.kind])).run aI w= .ok (.bool (!Si x y)) w:=by
 go_simp;unfold Si;by_cases a:x.name.toList=y.name.toList<;>by_cases b:x.kind=y.kind<;>simp[a,b]
def wR(c d:List bK)(v bo:Option UJ)(b off cap b2 t G:Nat)(w:F)(H:c.length<=Up)(I:d.length<=Up)
 (h1:xA w v b off c) (m:xA w bo b2 t d):
 UB aI 22 #[.slice v c.length cap,.slice bo d.length G] w λe w'=>∃b,e= .returned (.bool b)/\(b=Z↔c=d)/\∃n,w'=w.drewN n:=by
 unfold Up at H I;by_cases k:c.length=d.length
 ·have x:((c.length:Int) !=(d.length:Int))=T5:=by simp[k]
  have u:=af k;clear k;go_enter an.func22,Tryz.ntmps22
  go_wp2_with fail
  clear x
  go_loopw [5] (λs wr=>∃a:Nat,a<=c.length/\s= .int .i64 a/\c.take a=d.take a/\∃n,wr=w.drewN n) (λs _=>c.length-(US s).toNat)
  case atStart=>exact⟨0,UE _,rfl,rfl,0,rfl⟩
  case round=>
   obtain⟨a,J,rfl,z,n,f⟩:=hrel;have p:=af z;clear z;by_cases o:a<c.length
   ·have r:a<d.length:=by rw[<-u.o];exact o
    obtain rfl:=h1.addr (by omega);obtain rfl:=m.addr (by omega);have K:aM wr b (off+a*2) (.string c[a].name):=by rw[f];exact h1.c0 a o
    have L:aM wr b (off+a*2+1) (.int .i64 c[a].kind):=by rw[f];exact h1.c1 a o
    have M:aM wr b2 (t+a*2) (.string d[a].name):=by rw[f];exact m.c0 a r
    have N:aM wr b2 (t+a*2+1) (.int .i64 d[a].kind):=by rw[f];exact m.c1 a r
    have l:=af f;have h:X (c[a]≠d[a]->c≠d):=λi e=>i (by subst e;rfl);have q:X (c[a]=d[a]->c.take (a+1)=d.take (a+1)):=λi=>by rw[Um o,Um r,p.o,i]
    have y:=λw=>EA w c[a] d[a];clear f h1 m p;generalize c[a]=A at*;generalize d[a]=B at*;by_cases g:A=B
    ·have j:=H7.2 g;have E:=af (q.o g);rw[j] at y;clear q h g j
     go_wp2_with fail
     go_quiet (fail)
     go_wp2
     go_roundw
     case rel=>exact⟨a+1,by omega,by go_num,E.o,n+nq,by rw[l.o];exact Xh _ _ _⟩
     case measure=>simp[US];omega
    ·have j:Si A B=T5:=by rw[Bool.eq_false_iff];intro i;exact g (H7.1 i)
     have D:=af (h.o g);rw[j] at y;clear q h g j
     go_wp2_with fail
     go_quiet (fail)
     go_wp2;go_ret;exact⟨T5,rfl,by simp only[UA,false_iff];exact D.o,n+nq,by rw[l.o];exact Xh _ _ _⟩
   ·have C:X (c=d):=by
     have:=p.o;rw[UO (by omega),UO (by have:=u.o;omega)] at this;exact this
    have l:=af f;clear f;go_wp2;go_ret;exact⟨Z,rfl,by simp only[true_iff];exact C.o,n,l.o⟩
 ·have x:((c.length:Int) !=(d.length:Int))=Z:=by simp;omega
  have h:X (c≠d):=λe=>k (by rw[e]);clear k;go_enter an.func22,Tryz.ntmps22;go_wp2;go_ret;exact⟨T5,rfl,by simp only[UA,false_iff];exact h.o,0,rfl⟩
def Jr{Q:Prop}{P:Ue}{f:Nat}{args:Array U}{w:F}(h:UB P f args w λe w'=>∃b,e= .returned (.bool b)/\(b=Z↔Q)/\∃n,w'=w.drewN n)(d:Q):UB P f args w λe w'=>e= .returned (.bool Z)/\∃n,w'=w.drewN n:=
 h.mono (by rintro e w' ⟨g,rfl,c,a⟩;rw[c.2 d];exact⟨rfl,a⟩)
def FR{Q:Prop}{P:Ue}{f:Nat}{args:Array U}{w:F}(h:UB P f args w λe w'=>∃b,e= .returned (.bool b)/\(b=Z↔Q)/\∃n,w'=w.drewN n)(g:¬Q):UB P f args w λe w'=>e= .returned (.bool T5)/\∃n,w'=w.drewN n:=
 h.mono (by
  rintro e w' ⟨a,rfl,d,c⟩;cases a
  ·exact⟨rfl,c⟩
  ·exact absurd (d.1 Y) g)
def CC(c d:List (List aD))(G bo:Option UJ)(b off cap b2 Q aa:Nat)(w:F)(ab:c.length<=Up)(ad:d.length<=Up)(L:∀r∈c,r.length<=Up)(M:∀r∈d,r.length<=Up)
 (h1:De w G b off c) (x:De w bo b2 Q d):
 UB aI 14 #[.slice G c.length cap,.slice bo d.length aa] w λe w'=>∃b,e= .returned (.bool b)/\(b=Z↔c=d)/\∃n,w'=w.drewN n:=by
 have S:=af L;have T:=af M;unfold Up at ab ad;clear L M;by_cases i:c.length=d.length
 ·have K:((c.length:Int) !=(d.length:Int))=T5:=by simp[i]
  have C:=af i;clear i;go_enter an.func14,Tryz.ntmps14
  go_wp2_with fail
  clear K
  go_loopw [5] (λz wr=>∃a:Nat,a<=c.length/\z= .int .i64 a/\c.take a=d.take a/\∃n,wr=w.drewN n) (λz _=>c.length-(US z).toNat)
  case atStart=>exact⟨0,UE _,rfl,rfl,0,rfl⟩
  case round=>
   obtain⟨a,ar,rfl,N,n,f⟩:=hrel;have t:=af N;clear N;by_cases l:a<c.length
   ·have y:a<d.length:=by rw[<-C.o];exact l
    obtain rfl:=h1.addr (by omega);obtain rfl:=x.addr (by omega);obtain⟨am,D,W⟩:=h1.c a l;obtain⟨ao,E,Y⟩:=x.c a y;have av:aM wr b (off+a) am:=by rw[f];exact D
    have aw:aM wr b2 (Q+a) ao:=by rw[f];exact E
    have k:=af f;have h:X (c[a]≠d[a]->c≠d):=λv e=>v (by subst e;rfl);have u:X (c[a]=d[a]->c.take (a+1)=d.take (a+1)):=λv=>by rw[Um l,Um y,t.o,v]
    have I:=S.o c[a] (Ui l);have J:=T.o d[a] (Ui y);have au:(a:Int)<(d.length:Int):=by omega
    obtain⟨q,ap,kg,gO,rfl,O⟩:=W;obtain⟨p,ae,al,o,rfl,P⟩:=Y;have j:X (∀m,UB aI 29 #[.slice q c[a].length gO,.slice p d[a].length o] (wr.drewN m) λe w'=>∃b,e= .returned (.bool b)/\(b=Z↔c[a]=d[a])/\∃n,w'=(wr.drewN m).drewN n):=λm=>by
     have H:aP w (wr.drewN m):=by rw[f];exact below_drewN (below_drewN (Uo _ _) n) m
     exact zh c[a] d[a] q p ap kg gO ae al o _ I J (O.below H) (P.below H)
    clear f h1 x t D E O P I J;generalize c[a]=A at*;generalize d[a]=B at*;by_cases g:A=B
    ·have V:=af (u.o g);have s:X (∀m,UB aI 29 #[.slice q A.length gO,.slice p B.length o] (wr.drewN m) λe w'=>e= .returned (.bool Z)/\∃n,w'=(wr.drewN m).drewN n):=λm=>Jr (j.o m) g;clear u h g j
     go_wp2_with fail
     go_quiet ((go_at_call 29;exact Calls.quiet_of (s.o _)))
     go_wp2
     go_roundw
     case rel=>exact⟨a+1,by omega,by go_num,V.o,n+nq,by rw[k.o];exact Xh _ _ _⟩
     case measure=>simp[US];omega
    ·have U:=af (h.o g);have s:X (∀m,UB aI 29 #[.slice q A.length gO,.slice p B.length o] (wr.drewN m) λe w'=>e= .returned (.bool T5)/\∃n,w'=(wr.drewN m).drewN n):=λm=>FR (j.o m) g;clear u h g j
     go_wp2_with fail
     go_quiet ((go_at_call 29;exact Calls.quiet_of (s.o _)))
     go_wp2;go_ret;exact⟨T5,rfl,by simp only[UA,false_iff];exact U.o,n+nq,by rw[k.o];exact Xh _ _ _⟩
   ·have R:X (c=d):=by
     have:=t.o;rw[UO (by omega),UO (by have:=C.o;omega)] at this;exact this
    have k:=af f;clear f;go_wp2;go_ret;exact⟨Z,rfl,by simp only[true_iff];exact R.o,n,k.o⟩
 ·have K:((c.length:Int) !=(d.length:Int))=Z:=by simp;omega
  have h:X (c≠d):=λe=>i (by rw[e]);clear i;go_enter an.func14,Tryz.ntmps14;go_wp2;go_ret;exact⟨T5,rfl,by simp only[UA,false_iff];exact h.o,0,rfl⟩
end Ec
namespace Ec
open Go.RowKit Pk Pm
def OP(a:Option UJ)(n cap:Nat)(w:F)(g:n<=Up)(hc:n<=cap)(f:0<n->∃b off,a=I ⟨b,off,K⟩):
 UB aI 8 #[.slice a n cap] w λe w'=>(∃d,min n 16<=d/\e= .returned (.slice a (min n 16) d))/\w'=w:=by
 unfold Up at g;by_cases h:16<n
 ·obtain⟨b,off,rfl⟩:=f (by omega);have c:min n 16=16:=by omega
  rw[c];go_enter an.func8,Tryz.ntmps8;go_wp2;go_ret;exact⟨⟨_,by omega,rfl⟩,rfl⟩
 ·have c:min n 16=n:=by omega
  rw[c];go_enter an.func8,Tryz.ntmps8;go_wp2;go_ret;exact⟨⟨_,hc,rfl⟩,rfl⟩
def Ad(a:Option UJ)(n cap:Nat)(w:F)(g:n<=Up)(hc:n<=cap)(f:0<n->∃b off,a=I ⟨b,off,K⟩):
 UB aI 9 #[.slice a n cap] w λe w'=>(∃d,min n 16<=d/\e= .returned (.slice a (min n 16) d))/\w'=w:=by
 unfold Up at g;by_cases h:16<n
 ·obtain⟨b,off,rfl⟩:=f (by omega);have c:min n 16=16:=by omega
  rw[c];go_enter an.func9,Tryz.ntmps9;go_wp2;go_ret;exact⟨⟨_,by omega,rfl⟩,rfl⟩
 ·have c:min n 16=n:=by omega
  rw[c];go_enter an.func9,Tryz.ntmps9;go_wp2;go_ret;exact⟨⟨_,hc,rfl⟩,rfl⟩
end Ec
namespace Cc
open Go Go.Conc
open Go.RowKit
open Ec
open Pk
section
variable {P0 P:Ue}{Post:U->F->Prop}{cs:List Us}{w:F}{b:Us}{a:V5}{k:List WM}
def IQ(h:Twins P0 P){n:Nat}{l:List (Nat×U)}(A:Knows a n l)(M:a.defers=[])(c:WU)(Q:F->V5->F->Prop)(N:∀s,Item.code (.refuse s)∉k)(T:eM P0 (b.at a (.code c::k)) [])
 (O:∀v W,(∀s x,l.lookup s=I x->v s=x)->(∀(b:Nat) o,w.heap[b]? =I o->bn P0 o->W.heap[b]? =I o)->w.heap.size<=W.heap.size->c.wp P0 (λe a' W'=>e= .ret/\aP W W'/\Q W a' W') ⟨((UK n).map v).toArray,[]⟩ W)
 (K:∀a' W W' w' todo,(∀(b:Nat) o,w.heap[b]? =I o->bn P0 o->W.heap[b]? =I o)->w.heap.size<=W.heap.size->aP W W'->Q W a' W'->Un W' w'->RelB (gd w) w w'->Xe P0 P Post (gd w') {b.at a' todo with mode:=.returning} cs w'):Xe P0 P Post (gd w) (b.at a (.code c::k)) cs w:=by
 intro Z Y d R;refine Ip h (Q:=λg e a' W'=>e= .ret/\∃W,W.heap=g.heap/\aP W W'/\Q W a' W') (λg j p=>?_) N (λg id a w f=>by cases f.1) (λg l a w f=>by cases f.1) (λg a w f=>by cases f.1) (λg e a' D w' p H j f i y=>?_) T R
 ·intro E X G;have B:=O (aW a) (sh p 0 g) A.slot (λb o m t=>j.at_ b o ((d.at_ b (Ua.1 m).1).trans m) t) (by show w.heap.size<=g.heap.size;rw[<-j.un.size];exact d.size);rw[<-Q3 A.size M] at B;obtain⟨e,a',w',⟨q,i,J⟩,L⟩:=B E X G;exact⟨e,a',w',⟨q,sh p 0 g,rfl,i,J⟩,L⟩
 ·obtain⟨rfl,W,u,r,f⟩:=f;have V:W.heap.size<=w'.heap.size:=by rw[i.un.size];exact r.size
  have z:W.heap.size=Y.heap.size:=by rw[u,j.un.size]
  have hrel:RelB (gd w) w w':=⟨λb C=>by
   have q:D.heap[b]? =W.heap[b]? :=r.block b (by rw[z];exact Uc C d.size);exact(i.same j.un (by rw[q,u])).trans (d.at_ b C),Ux d.size (by rw[<-z];exact V),y.tape.trans d.tape,y.os.trans d.os,y.output.trans d.output⟩
  intro todo _ S;exact Xe.go (K a' W (sh p H D) w' todo (λb o m t=>by rw[u];exact j.at_ b o ((d.at_ b (Ua.1 m).1).trans m) t) (by rw[z];exact d.size) r f ⟨i.un.size,i.un.at_,i.un.os,i.un.output⟩ hrel) (λb h=>h) S
end
end Cc
namespace Cc
open Go Go.Conc
open Go.RowKit (Below)
open Ec
def ed{w0 a b:F}(h:RelB (gd w0) w0 a)(c:RelB (gd a) a b):RelB (gd w0) w0 b:=h.trans (c.mono λe d=>Uc d h.size)
def Es{w0 a c:F}(h:RelB (gd w0) w0 a)(e:∀b,b<a.heap.size->c.heap[b]? =a.heap[b]?)(f:a.heap.size<=c.heap.size)(d:Sm a c):RelB (gd w0) w0 c:=ed h ⟨e,f,d.tape,d.os,d.output⟩
def Nh{w0 c:F}(h:RelB (gd w0) w0 c):∀(b:Nat) o,w0.heap[b]? =I o->bn aI o->c.heap[b]? =I o:=λb o a _=>(h.at_ b (Ua.1 a).1).trans a
def sH.TN{W:F}{base:Nat}{v:U}{a:List (List aD)}(h:sH W base v a):AA W v a/\a.length<=Up/\∀r∈a,r.length<=Up:=by
 obtain⟨H,d,l,-⟩:=h;have n:∀{j:Ug} {t f:Nat} {v:U} {u:List U},W.ownsRow base j t v f u->f<=Up:=λ{j t f v u} h=>by
  rcases h.2 with⟨_,k⟩|⟨b,i,w,_,_,_,o,x,_⟩
  ·omega
  ·omega
 refine⟨?_,n d,λr B=>?_⟩
 ·have C:=d;rcases d.2 with⟨rfl,k⟩|⟨b,i,w,rfl,D,y,o,x,E,G⟩
  ·have:a=[]:=Vh k;subst this;exact⟨K,0,0,0,rfl,T6 _,λh=>by simp at h,λh=>by simp at h,λc h=>by simp at h⟩
  ·refine⟨I ⟨b,0,K⟩,b,0,i,rfl,o,λ_=>rfl,λ_=>(Ua.1 y).1,λc A=>?_⟩;obtain⟨g,p,e⟩:=l c a[c] (Ul A);have m:=C.cells (g:=b) Y c g p;rw[Xc] at m;exact⟨g,m,rX.bN e⟩
 ·obtain⟨q,z,rfl⟩:=Vv B;obtain⟨g,p,e⟩:=l q a[q] (Ul z);exact n e
def dA.take{w:F}{f:Option UJ}{b off:Nat}{l:List cE}(h:dA w f b off l)(n:Nat):dA w f b off (l.take n):=by
 have d:∀a,a<(l.take n).length->a<l.length:=λa c=>by simp at c;omega
 exact⟨λe=>h.addr (d 0 e),λe=>h.lt (d 0 e),λa c=>by rw[VF];exact h.c0 a (d a c),λa c=>by rw[VF];exact h.c1 a (d a c),λa c=>by rw[VF];exact h.c2 a (d a c),λa c=>by rw[VF];exact h.c3 a (d a c),λa c=>by rw[VF];exact h.c4 a (d a c),λa c=>by rw[VF];exact h.c5 a (d a c),λa c=>by rw[VF];exact h.c6 a (d a c)⟩
def SJ:(Tryz.f8.name == "runtime.NumGoroutine")=T5:=by kernel_rfl
def Fc:(Tryz.f9.name == "runtime.NumGoroutine")=T5:=by kernel_rfl
def QH{Post:U->F->Prop}{b:Us}{a:V5}{todo:List WM}{w:F}{fn:WC}{v:U}(q:T9.inits.idxOf? b.fn=K)(n:b.kind= .normal)(o:a.defers=[])(i:T9.funcs[b.fn]? =I fn)(j:(∀w,(UX fn a.tmps).run T9 w= .ok v w)/\∀w,(UX fn a.tmps).events T9 w #[]=#[])(r:∀c,RelB (gd w) w c->Post v c):Xe aI T9 Post (gd w) {b.at a todo with mode:=.returning} [] w:=by
 intro u c t x;refine Gf (v:=v) q (λy k=>⟨rfl,o,n,fn,i,j.1 _⟩) (λd f e p l g=>?_) (λd f=>?_)
 ·have:e=fn:=Yk (p.symm.trans i);subst this;rw[Sem.runT_eq] at g;have m:=j.2 d;have h:l∈(UX e a.tmps).events T9 d #[]:=g;rw[m] at h;simp at h
 ·obtain⟨k,rfl⟩:=f;exact r _ (t.trans (RelB.at _ _ _))
section
variable {Post:U->F->Prop}{s:ByteArray}{ah:List Int}{rs:List cE}{co:Option UJ}{cb bE aJ:Nat}{ro:Option UJ}{rb bh aN:Nat}{w0:F}
end
end Cc
namespace Ec
open Go.RowKit Pk Pm
def Ce (w W:F):Prop:=(∀(a:Nat) b c f,w.heap[a]? =I (.cells b c f)->W.heap[a]? =I (.cells b c f))/\w.heap.size<=W.heap.size
def Ce.trans{w W W':F}(h:Ce w W)(a:Ce W W'):Ce w W':=⟨λc d e f b=>a.1 _ _ _ _ (h.1 _ _ _ _ b),Ux h.2 a.2⟩
def LI{w W:F}(h:aP w W):Ce w W:=⟨λb c d f a=>(h.block b (Ud a)).trans a,h.size⟩
def ij{w W:F}(h:Cc.RelB (Cc.gd w) w W):Ce w W:=⟨λb c d f a=>(h.at_ b (Ud a)).trans a,h.size⟩
def m9{P0:Ue}{w W:F}(h:∀(b:Nat) o,w.heap[b]? =I o->Cc.bn P0 o->W.heap[b]? =I o)(c:w.heap.size<=W.heap.size):Ce w W:=⟨λb d e f a=>h b _ a trivial,c⟩
def AM{w W:F}(h:Cc.Un w W):Ce w W:=⟨λb c d f a=>h.row.1 a,Nat.le_of_eq h.size.symm⟩
def Ce.cell{w W:F}(h:Ce w W){p:UJ}{v:U}(a:w.cell? p=I v):W.cell? p=I v:=by
 unfold Ur at a ⊢;cases b:w.heap[p.block]? with
 |none=>rw[b] at a;cases a
 |some c=>
  rw[b] at a;cases c<;>first|(cases a;done)|skip
  rw[h.1 _ _ _ _ b];exact a
def Ce.own{w W:F}(m:Ce w W){base:Nat}{e:Ug}{f n:Nat}{v:U}{g:List U}(h:w.ownsRow base e f v n g):W.ownsRow base e f v n g:=by
 obtain⟨d,⟨a,b⟩|⟨c,i,j,a,b,k,l⟩⟩:=h
 ·exact⟨d,.inl ⟨a,b⟩⟩
 ·exact⟨d,.inr ⟨c,i,j,a,b,m.1 c _ _ _ k,l⟩⟩
def Ce.Su{w W:F}(d:Ce w W){e:Option UJ}{b off:Nat}{l:List cE}(h:dA w e b off l):dA W e b off l:=
 ⟨h.addr,λf=>Uc (h.lt f) d.2,λc a=>d.cell (h.c0 c a),λc a=>d.cell (h.c1 c a),λc a=>d.cell (h.c2 c a),λc a=>d.cell (h.c3 c a),λc a=>d.cell (h.c4 c a),λc a=>d.cell (h.c5 c a),λc a=>d.cell (h.c6 c a)⟩
def Ce.R7{w W:F}(a:Ce w W){base:Nat}{b:U}{cs:List bK}{d:U}{L:List (List aD×U)}{c:U}{es:List Int}(h:Lj w base b cs d L c es):Lj W base b cs d L c es:=
 ⟨a.own h.ah,a.own h.rows,λf e=>a.own (h.each f e),a.own h.eH⟩
def nJ (v:Nat->U):V5:=⟨#[v 0,v 1,v 2,v 3,v 4,v 5,v 6,v 7,v 8,v 9,v 10,v 11,v 12,v 13,v 14,v 15,v 16,v 17,v 18,v 19,v 20,v 21,v 22,v 23,v 24,v 25,v 26,v 27,v 28,v 29,v 30,v 31,v 32,v 33,v 34,v 35,v 36,v 37,v 38,v 39,v 40,v 41,v 42,v 43,v 44,v 45,v 46,v 47,v 48,v 49,v 50,v 51,v 52,v 53,v 54,v 55,v 56,v 57,v 58,v 59,v 60,v 61,v 62,v 63,v 64,v 65,v 66,v 67,v 68,v 69,v 70,v 71,v 72,v 73,v 74,v 75,v 76,v 77,v 78,v 79,v 80,v 81,v 82,v 83,v 84,v 85,v 86,v 87,v 88,v 89,v 90,v 91,v 92,v 93,v 94,v 95,v 96,v 97,v 98,v 99,v 100,v 101,v 102,v 103,v 104,v 105,v 106,v 107,v 108,v 109,v 110,v 111,v 112,v 113,v 114,v 115,v 116,v 117,v 118,v 119,v 120,v 121,v 122,v 123,v 124,v 125,v 126,v 127,v 128,v 129,v 130,v 131,v 132,v 133,v 134,v 135,v 136,v 137,v 138,v 139,v 140,v 141,v 142,v 143,v 144,v 145,v 146,v 147,v 148,v 149,v 150,v 151,v 152,v 153,v 154,v 155,v 156,v 157,v 158,v 159,v 160,v 161,v 162,v 163,v 164,v 165,v 166,v 167,v 168,v 169,v 170,v 171,v 172,v 173,v 174,v 175,v 176,v 177,v 178,v 179,v 180,v 181,v 182,v 183,v 184,v 185,v 186,v 187,v 188,v 189,v 190,v 191,v 192,v 193,v 194,v 195,v 196,v 197,v 198,v 199,v 200,v 201,v 202,v 203,v 204,v 205,v 206,v 207,v 208,v 209,v 210,v 211,v 212,v 213,v 214,v 215,v 216,v 217,v 218,v 219,v 220,v 221,v 222,v 223,v 224,v 225,v 226],[]⟩
def qi:Nat->WU->WU
 |0,.seq a _=>a
 |n+1,.seq _ b=>qi n b
 |_,a=>a
def kp (n:Nat)(fn:WC):WU:=match fn.body with
 |some a=>qi n a
 |none=>.skip
structure KM(W:F)(gm base:Nat)(cv:U)(cs:List bK)(rv:U)(L:List (List aD×U))(ev:U)(es:List Int)(bd:Nat)(bo:Bool):Prop where
 box:W.heap[gm]? =I (.cells #[cv,rv,.int .i64 (bd:Int),ev,.bool bo] 50 (0,0))
 md:Lj W base cv cs rv L ev es
def KM.ce{w W:F}{gm base:Nat}{cv:U}{cs:List bK}{rv:U}{L:List (List aD×U)}{ev:U}{es:List Int}{bd:Nat}{bo:Bool}(h:KM w gm base cv cs rv L ev es bd bo)(a:Ce w W):KM W gm base cv cs rv L ev es bd bo:=⟨a.1 _ _ _ _ h.box,a.R7 h.md⟩
def O4(W:F)(v:Nat->U)(n:Nat)(bo:Bool)(j:UB aI 19 #[v 0,v 1,v 2,v 3,v 4] W (TE W n bo)):(kp 3 VX).wp aI (λe a' W'=>e= .normal/\aP W W'/\(∃gm base cv cs rv L ev es bd,KM W' gm base cv cs rv L ev es bd bo/\mY cs (L.map Uw) es bd/\L.length*cs.length<=n/\Cc.Knows a' 227 [(1,v 1),(5,v 5),(6,v 6),(15,.pointer (I ⟨gm,0,K⟩))])/\a'.defers=[]) (nJ v) W:=by
 have f:=af j;unfold kp VX nJ;dsimp only;simp only[qi]
 go_wp2_with (go_at_call 19;refine f.o.mono ?_;rintro e c ⟨i,cv,cs,rv,L,ev,es,bd,rfl,a,h,k⟩;obtain⟨l,aJ,rfl⟩:=bC a.ah;obtain⟨o,aN,rfl⟩:=bC a.rows;obtain⟨m,bV,rfl⟩:=bC a.eH;have b:=af i;have d:=af a;have g:=af h)
 refine⟨b.o.trans ((Uo _ _).alloc b.o.size _),c.heap.size,W.heap.size,_,cs,_,L,_,es,bd,⟨bk c _,(LI ((Uo _ _).alloc (T6 _) _)).R7 d.o⟩,g.o,k,?_⟩;exact(((Ak Y Y).cons Y).cons Y).cons Y
section
variable {W:F}{gm base:Nat}{cv:U}{cs:List bK}{rv:U}{L:List (List aD×U)}{ev:U}{es:List Int}{bd:Nat}{bo:Bool}
def ML(b:Lj W base cv cs rv L ev es)(c:mY cs (L.map Uw) es bd):UB aI 20 #[.agg #[cv,rv],.agg #[.int .i64 (bd:Int),ev,.bool bo]] W λe w'=>∃s n,e= .returned (.tuple #[.string s,.int .i64 n])/\(65536<(eB cs (L.map Uw) es bo bd).length/\s=⟨#[]⟩/\n=6\/(eB cs (L.map Uw) es bo bd).length<=65536/\s=strOf (eB cs (L.map Uw) es bo bd)/\n=0)/\aP W w':=by
 refine(GF (es:=es) (.inr ⟨xK,wG⟩) cs (L.map Uw) (bd:Int) bo cv rv ev W (nu b.ah) (by rw[UG];exact nu b.rows) (λl h=>?_) (nu b.eH) c.vals (vm.bN b.ah) (vS b.rows b.each) (rz.bN b.eH)).mono ?_
 ·obtain⟨i,g,rfl⟩:=U7.1 h;exact nu (b.each i g)
 ·rintro e w' ⟨s,n,rfl,a,f⟩;refine⟨s,n,rfl,?_,f⟩;have j:=c.lo;have k:=c.hi;rcases a with⟨a,_⟩|⟨_,a,_⟩|⟨_,_,a,d⟩|⟨_,_,a,d⟩
  ·exact absurd c.table a
  ·exact absurd ⟨by omega,by omega,c.eH⟩ a
  ·exact .inl ⟨a,d⟩
  ·exact .inr ⟨Nat.le_of_not_lt a,d⟩
def ME(v:Nat->U)(c:v 15= .pointer (I ⟨gm,0,K⟩))(a:KM W gm base cv cs rv L ev es bd bo)(d:mY cs (L.map Uw) es bd):(kp 4 VX).wp aI (λe a' W'=>e= .normal/\aP W W'/\(∃s n,(65536<(eB cs (L.map Uw) es bo bd).length/\s=⟨#[]⟩/\n=6\/(eB cs (L.map Uw) es bo bd).length<=65536/\s=strOf (eB cs (L.map Uw) es bo bd)/\n=0)/\Cc.Knows a' 227 [(1,v 1),(5,v 5),(6,v 6),(15,v 15),(16,.string s),(17,.int .i64 n)])/\a'.defers=[]) (nJ v) W:=by
 obtain⟨j,aJ,rfl⟩:=bC a.md.ah;obtain⟨l,aN,rfl⟩:=bC a.md.rows;obtain⟨k,bV,rfl⟩:=bC a.md.eH;have i:X _:=ML (bo:=bo) a.md d;obtain⟨⟨m,o,p,q,r⟩,-⟩:=fc a.box;unfold nJ;rw[c];clear a d c;unfold kp VX;dsimp only;simp only[qi]
 go_wp2_with (go_at_call 20;refine Calls.mono i.o ?_;rintro e t ⟨s,n,rfl,b,f⟩;have h:=af b;have g:=af f;clear b f)
 refine⟨g.o,s,n,h.o,?_⟩;exact(((((Ak Y Y).cons Y).cons Y).cons Y).cons Y).cons Y
def O3(W:F)(v:Nat->U)(n:Nat)(ro:Option UJ)(aN:Nat)(h1:v 1= .slice ro n aN)(a:v 16= .string ⟨#[]⟩)(b:v 17= .int .i64 6)(d:100<n)(c:n<=Up):(kp 5 VX).wp aI (λe a' W'=>e= .ret/\aP W W'/\Cc.Knows a' 227 [(14,.bool Z)]/\a'.defers=[]) (nJ v) W:=by
 unfold nJ Up at*;have f:(100:Int)<(n:Int):=by omega
 rw[h1,a,b];unfold kp VX;dsimp only;simp only[qi];go_wp2;exact⟨Uo _ _,Ak Y Y⟩
def MC(W:F)(v:Nat->U)(a:v 17= .int .i64 0):(kp 5 VX).wp aI (λe a' W'=>e= .normal/\aP W W'/\Cc.Knows a' 227 [(5,v 5),(6,v 6),(15,v 15),(16,v 16),(17,.int .i64 0)]/\a'.defers=[]) (nJ v) W:=by
 unfold nJ;rw[a];unfold kp VX;dsimp only;simp only[qi];go_wp2;exact⟨Uo _ _,((((Ak Y Y).cons Y).cons Y).cons Y).cons Y⟩
def O5(v:Nat->U)(d:v 15= .pointer (I ⟨gm,0,K⟩))(a:KM W gm base cv cs rv L ev es bd bo){b2:Nat}(f:W.ownsRow b2 63 2 (v 18) cs.length (eG cs)):(kp 7 VX).wp aI (λe a' W'=>e= .normal/\aP W W'/\Cc.Knows a' 227 [(5,v 5),(6,v 6),(15,v 15),(16,v 16),(17,v 17),(19,v 19),(20,v 20),(21,.bool Z)]/\a'.defers=[]) (nJ v) W:=by
 obtain⟨⟨u,-⟩,-⟩:=fc a.box;obtain⟨n,m,bE,aJ,g,-,h⟩:=vm.bN a.md.ah;obtain⟨q,o,r,p,i,-,j⟩:=vm.bN f;have l:X (UB aI 22 #[v 18,cv] W λe c=>aP W c/\e= .returned (.bool Z)):=by
  show UB aI 22 #[v 18,cv] W λe c=>aP W c/\e= .returned (.bool Z);rw[i,g];refine(wR cs cs q n o r p m bE aJ W (nu a.md.ah) (nu a.md.ah) j h).mono ?_;rintro e c ⟨t,rfl,b,s,rfl⟩;exact⟨Pk.below_drewN (Uo _ _) s,by rw[b.2 Y]⟩
 unfold nJ;rw[d];clear a d g i h j f;unfold kp VX;dsimp only;simp only[qi]
 go_wp2_with (go_at_call 22;refine l.o.mono ?_;rintro e w ⟨b,rfl⟩;have k:=af b;clear b)
 refine⟨k.o,?_⟩;exact(((((((Ak Y Y).cons Y).cons Y).cons Y).cons Y).cons Y).cons Y).cons Y
def O7(v:Nat->U)(b:v 15= .pointer (I ⟨gm,0,K⟩))(a:KM W gm base cv cs rv L ev es bd bo)(c:v 17= .int .i64 0)(d:v 19= .int .i64 (L.length:Int))(f:v 20= .int .i64 0)(g:v 21= .bool Z):(kp 8 VX).wp aI (λe a' W'=>e= .normal/\aP W W'/\Cc.Knows a' 227 [(5,v 5),(6,v 6),(15,v 15),(16,v 16)]/\a'.defers=[]) (nJ v) W:=by
 obtain⟨⟨-,i,-⟩,-⟩:=fc a.box;obtain⟨h,aN,rfl⟩:=bC a.md.rows;unfold nJ;rw[b,c,d,f,g];unfold kp VX;dsimp only;simp only[qi];go_wp2;exact⟨Uo _ _,(((Ak Y Y).cons Y).cons Y).cons Y⟩
end
section
variable {W:F}{gm base:Nat}{cv:U}{cs:List bK}{rv:U}{L:List (List aD×U)}{ev:U}{es:List Int}{bd:Nat}{bo:Bool}
def MB(v:Nat->U)(ah:List Int)(co:Option UJ)(cb bE aJ:Nat)(R:v 5= .slice co ah.length aJ)(P:v 15= .pointer (I ⟨gm,0,K⟩))(Q:v 22=aO)(m:KM W gm base cv cs rv L ev es bd bo)(be:1<=cs.length/\cs.length<=8)(bi:ah.length<=16)(V:(0<ah.length->co=I ⟨cb,bE,K⟩)/\(0<ah.length->cb<W.heap.size)/\∀j,j<ah.length->aM W cb (bE+j) (.int .i64 (ah.getD j 0)))(ad:∀x∈ah,lO x):
 (kp 10 VX).wp aI (λe a' W'=>e= .normal/\aP W W'/\(∃J a,W'.ownsRow W.heap.size 3 1 J a.length (bz a)/\a.length=ah.length/\(∀k∈a,0<=k/\k<(cs.length:Int))/\Cc.Knows a' 227 [(6,v 6),(15,v 15),(16,v 16),(22,J)])/\a'.defers=[]) (nJ v) W:=by
 obtain⟨bb,a5,a8,a9,ba⟩:=Ve an.vC;have r:=af V;have ao:=af ad;obtain⟨⟨am,-⟩,-⟩:=fc m.box;obtain⟨N,M,rfl⟩:=bC m.md.ah;have a3:=Ud m.box;have av:=af am;unfold nJ;rw[R,P,Q];clear R P Q m V ad am;unfold kp VX;dsimp only;simp only[qi]
 go_wp2_with fail
 go_loopw [22,23] (λaw y wr=>∃a:List Int,y= .int .i64 (a.length:Int)/\a.length<=ah.length/\wr.ownsRow W.heap.size 3 1 aw a.length (bz a)/\(∀k∈a,0<=k/\k<(cs.length:Int))/\aP W wr) (λ_ y _=>ah.length-(US y).toNat)
 case atStart=>exact⟨[],rfl,UE _,Vp _ _ _ _,λk h=>absurd h (by simp),Uo _ _⟩
 case round=>
  obtain⟨a,rfl,bj,u,f,n⟩:=hrel;have D:=af f;obtain⟨H,G,rfl⟩:=bC u;have i:=af u;have d:=af n;clear f u;by_cases o:a.length<ah.length
  ·obtain rfl:=r.o.1 (by omega);have a1:=r.o.2.1 (by omega);have s:X (lO (ah.getD a.length 0)):=ao.o _ (by rw[Uh,Ul o];exact Ui o);have Z:=r.o.2.2 _ o;generalize ah.getD a.length 0=q at*;have l:X (∀W',aP W W'->(λW':F=>aM W' cb (bE+a.length) (.int .i64 q)/\aM W' gm 0 (.slice N cs.length M)) W'):=λW' S=>⟨(S.cell (p:=⟨cb,_,K⟩) a1).trans Z,(S.cell (p:=⟨gm,0,K⟩) a3).trans av.o⟩;have E:X (∀W:F,UB aI 23 #[.int .i64 q,.int .i64 (cs.length:Int)] W λe bc=>bc=W/\∃b,e= .returned (.int .i64 b)/\0<=b/\b<(cs.length:Int)):=λW=>p9 q cs.length W (by omega) (by omega) s.o.1 s.o.2;have p:=n.size;clear Z s n
   go_upto_region 15 with fail
   refine Un.open_ (λW':F=>aM W' cb (bE+a.length) (.int .i64 q)/\aM W' gm 0 (.slice N cs.length M)) 12 (λ_ _ _ _ _ h=>absurd (And.left h) (λh=>by cases h)) λbl=>?_;replace d:X (aP W wr.drew):=d.o.trans (((Uo _ _).drew).mono p);replace i:X (wr.drew.ownsRow W.heap.size 3 1 (.slice H a.length G) a.length (bz a)):=aK i.o ((Uo _ _).drew);have a0:=l.o _ d.o;replace p:=d.o.size;generalize wr.drew=br at*;refine Un.pk 0 ?_;refine Un.pk 1 ?_;refine Un.pk 2 ?_;refine Un.pk 3 ?_;refine Un.ld [12] 4 ?_;refine Un.pk 5 ?_;refine Un.pk 6 ?_;refine Un.ld [12] 7 ?_;refine Un.pk 8 ?_;refine Un.on 9 λg c=>?_;go_simp;go_at_call 23;refine(E.o _).mono ?_;rintro e z ⟨rfl,b,rfl,a6,a7⟩;refine c.o _ _ (λ_=>l.o _ d.o) ?_;clear c g a0 E
   try simp only[UW,Ub,Uk,Uj]
   refine Un.on 10 λg c=>?_;go_simp;have B:X (aP W (z.alloc (.cells #[.int .i64 b] 3))):=d.o.trans ((Uo _ _).alloc p _);refine c.o _ _ (λ_=>l.o _ B.o) ?_;clear c g
   try simp only[UW,Ub,Uk,Uj]
   refine Un.one (i:=11) (by kernel_rfl) Y (λg c=>?_);have w:=i.o;refine WK _ (by rfl) _ _ 22 (by rfl) W.heap.size 3 bb _ 1 8 an.underlying22 a5 a8 a9 ba Y (by decide) (.slice H a.length G) a.length _ (by rfl) (w.alloc _) ⟨z.heap.size,0,K⟩ 1 1 [.int .i64 b] (by rfl) Y (VJ (bk z _)) (by intro bm al;simp at al;subst al;rfl) (by decide) (by unfold Up;omega) (by omega) (by simp;omega) _ Y ?_;intro O t A ae ab T a4;have aa:=aR.ji (n:=a.length+1) (cap:=t) ab T;have au:X (A.ownsRow W.heap.size 3 1 (.slice (I ⟨O,0,K⟩) (a.length+1) t) (a++[b]).length (bz (a++[b]))):=by
    show A.ownsRow W.heap.size 3 1 (.slice (I ⟨O,0,K⟩) (a.length+1) t) (a++[b]).length (bz (a++[b]));rw[<-eR,T8];exact ae
   have C:X (aP W A):=d.o.trans (aa.below (λaz a2=>(w.lt az a2).1) p);refine c.o _ _ (λ_=>l.o _ C.o) ?_;clear c g w ae ab T a4 aa
   try simp only[UW,Ub,Uk,Uj]
   refine Un.on 12 λg c=>?_;go_simp;refine c.o _ _ (λh=>absurd h (by decide)) ?_;clear c g;refine Un.done (by kernel_rfl) ?_ _
   try simp only[UW,Ub,Uk,Uj]
   clear d B i l;have ap:X (∀k∈a++[b],0<=k/\k<(cs.length:Int)):=λk f=>by
    rcases U1.1 f with f|f
    ·exact D.o k f
    ·simp only[WI] at f;subst f;exact⟨a6,a7⟩
   go_wp2_with fail
   go_roundw
   case rel=>exact⟨a++[b],by rw[T8];go_num,by rw[T8];exact o,au.o,ap.o,C.o⟩
   case measure=>simp[US];omega
  ·have ar:X (a.length=ah.length):=by
    show a.length=ah.length;omega
   clear n
   go_wp2_with fail
   exact⟨d.o,_,a,i.o,ar.o,D.o,(((Ak Y Y).cons Y).cons Y).cons Y⟩
def Ll (cs:List bK)(r:cE):Prop:=∃(a:Nat) (b:a<cs.length),r.col=(a:Int)/\VC cs[a].kind r.low/\VC cs[a].kind r.high
def Kz(a:Int)(b:Bool)(c:Int)(d:ByteArray)(e:Bool)(f:Int)(g:ByteArray):∀u∈[VY .i64 a,.bool b,.int .i64 c,.string d,.bool e,.int .i64 f,.string g],u.oneCell'=Z:=by
 intro u h;simp at h;rcases h with rfl|rfl|rfl|rfl|rfl|rfl|rfl<;>rfl
def An(a b:List cE):dK (a++b)=dK a++dK b:=by simp[dK]
def JH(v:Nat->U)(rs:List cE)(ro:Option UJ)(rb bh aN:Nat)(bj:v 6= .slice ro rs.length aN)(be:v 15= .pointer (I ⟨gm,0,K⟩))(bi:v 24=aO)(D:KM W gm base cv cs rv L ev es bd bo)(c4:1<=cs.length/\cs.length<=8)(y:∀c∈cs,c.kind=1\/c.kind=2\/c.kind=3)(c5:rs.length<=16)(l:dA W ro rb bh rs)(bt:∀x∈rs,lO x.col/\(rB x.low/\x.low.s.size<=Up)/\rB x.high/\x.high.s.size<=Up):
 (kp 12 VX).wp aI (λe a' W'=>e= .normal/\aP W W'/\(∃a4 q,W'.ownsRow W.heap.size 61 7 a4 q.length (dK q)/\q.length=rs.length/\(∀r∈q,Ll cs r)/\Cc.Knows a' 227 [(15,v 15),(16,v 16),(22,v 22),(24,a4)])/\a'.defers=[]) (nJ v) W:=by
 obtain⟨co,cf,ci,ck,cl⟩:=Ve an.Mq;have b2:=af l;have bB:=af bt;have b0:=af y;obtain⟨⟨J,-⟩,-⟩:=fc D.box;obtain⟨cR,C,cn,Q,rfl,-,E⟩:=vm.bN D.md.ah;have cd:cn=0:=by
  rcases D.md.ah.2 with⟨e,c1⟩|⟨c0,cu,cx,e,_⟩
  ·omega
  ·have R:=E.addr (by omega);simp only[VA] at e;rw[e.1] at R;simp only[U8,Wh] at R;exact R.2.1.symm
 subst cd;obtain rfl:=E.addr (by omega);have bA:X (∀(a:Nat) (f:a<cs.length) W',aP W W'->aM W' C (a*2+1) (.int .i64 cs[a].kind)):=λa f W' k=>by
  have:=E.c1 a f;rw[UT] at this;exact(k.cell (p:=⟨C,_,K⟩) (E.lt (by omega))).trans this
 have cb:=Ud D.box;have a3:X (∀W',aP W W'->aM W' gm 0 (.slice (I ⟨C,0,K⟩) cs.length Q)):=λW' k=>(k.cell (p:=⟨gm,0,K⟩) cb).trans J;unfold nJ;rw[bj,be,bi];clear bj be bi D E l bt y J;unfold kp VX;dsimp only;simp only[qi]
 go_wp2_with fail
 go_loopw [24,25,26,27] (λb5 ae _ _ wr=>∃q:List cE,ae= .int .i64 (q.length:Int)/\q.length<=rs.length/\wr.ownsRow W.heap.size 61 7 b5 q.length (dK q)/\(∀r∈q,Ll cs r)/\aP W wr) (λ_ ae _ _ _=>rs.length-(US ae).toNat)
 case atStart=>exact⟨[],rfl,UE _,Vp _ _ _ _,λa f=>absurd f (by simp),Uo _ _⟩
 case round=>
  obtain⟨q,rfl,c7,ab,bu,H⟩:=hrel;have aw:=af bu;obtain⟨O,N,rfl⟩:=bC ab;have s:=af ab;have i:=af H;clear bu ab;by_cases n:q.length<rs.length
  ·have l:=b2.o;obtain rfl:=l.addr (by omega);have u:=l.lt (by omega);have p:=af (bB.o rs[q.length] (Ui n));have a5:=l.c0 _ n;have a6:=l.c1 _ n;have a7:=l.c2 _ n;have a8:=l.c3 _ n;have a9:=l.c4 _ n;have ba:=l.c5 _ n;have bb:=l.c6 _ n;generalize rs[q.length]=d at*;have M:X (∀W',aP W W'->(λW':F=>aM W' rb (bh+q.length*7) (.int .i64 d.col)/\aM W' gm 0 (.slice (I ⟨C,0,K⟩) cs.length Q)) W'):=λW' k=>⟨(k.cell (p:=⟨rb,_,K⟩) u).trans a5,a3.o W' k⟩;have o:X (∀W',aP W W'->(λW':F=>(aM W' rb (bh+q.length*7+1) (.bool d.low.null)/\aM W' rb (bh+q.length*7+1+1) (.int .i64 d.low.n)/\aM W' rb (bh+q.length*7+1+2) (.string d.low.s))/\aM W' rb (bh+q.length*7+4) (.bool d.high.null)/\aM W' rb (bh+q.length*7+4+1) (.int .i64 d.high.n)/\aM W' rb (bh+q.length*7+4+2) (.string d.high.s)) W'):=λW' k=>⟨⟨(k.cell (p:=⟨rb,_,K⟩) u).trans a6,(k.cell (p:=⟨rb,_,K⟩) u).trans a7,(k.cell (p:=⟨rb,_,K⟩) u).trans a8⟩,(k.cell (p:=⟨rb,_,K⟩) u).trans a9,(k.cell (p:=⟨rb,_,K⟩) u).trans ba,(k.cell (p:=⟨rb,_,K⟩) u).trans bb⟩;have a1:X (∀W:F,UB aI 23 #[.int .i64 d.col,.int .i64 (cs.length:Int)] W λe A=>A=W/\∃r:Nat,e= .returned (.int .i64 (r:Int))/\r<cs.length):=λW=>(p9 d.col cs.length W (by omega) (by omega) p.o.1.1 p.o.1.2).mono λe A ⟨S,r,T,c2,c3⟩=>⟨S,r.toNat,by rw[T,show((r.toNat:Nat):Int)=r by omega],by omega⟩;have m:=H.size;clear H l a5 a6 a7 a8 a9 ba bb
   go_upto_region 20 with fail
   refine Un.open_ (λW':F=>aM W' rb (bh+q.length*7) (.int .i64 d.col)/\aM W' gm 0 (.slice (I ⟨C,0,K⟩) cs.length Q)) 10 (λ_ _ _ _ _ f=>absurd (And.left f) (λf=>by cases f)) λch=>?_;replace i:X (aP W wr.drew):=i.o.trans (((Uo _ _).drew).mono m);replace s:X (wr.drew.ownsRow W.heap.size 61 7 (.slice O q.length N) q.length (dK q)):=aK s.o ((Uo _ _).drew);have t:=M.o _ i.o;replace m:=i.o.size;generalize wr.drew=c9 at*;refine Un.pk 0 ?_;refine Un.pk 1 ?_;refine Un.pk 2 ?_;refine Un.pk 3 ?_;refine Un.ld [10] 4 ?_;refine Un.pk 5 ?_;refine Un.pk 6 ?_;refine Un.ld [10] 7 ?_;refine Un.pk 8 ?_;refine Un.on 9 λj b=>?_;go_simp;go_at_call 23;refine(a1.o _).mono ?_;rintro e al ⟨rfl,a,rfl,aa⟩;refine b.o _ _ (λ_=>M.o _ i.o) ?_;clear b j t a1
   try simp only[UW,Ub,Uk,Uj]
   refine Un.on 10 λj b=>?_;go_simp;refine b.o _ _ (λf=>absurd f (by decide)) ?_;clear b j;refine Un.done (by kernel_rfl) ?_ _
   try simp only[UW,Ub,Uk,Uj]
   have J:=a3.o _ i.o;have cp:=bA.o a aa _ i.o;have y:=b0.o cs[a] (Ui aa);have a2:X (∀h g,VC cs[a].kind h->VC cs[a].kind g->∀r∈q++[⟨(a:Int),h,g⟩],Ll cs r):=λh g S T r z=>by
    rcases U1.1 z with z|z
    ·exact aw.o r z
    ·simp only[WI] at z;subst z;exact⟨a,aa,rfl,S,T⟩
   generalize cs[a].kind=kd at*;have au:X (∀W:F,UB aI 24 #[.agg (gY d.low),.int .i64 kd] W λe A=>aP W A/\∃G:aD,e= .returned (.agg (gY G))/\VC kd G):=λW=>uk d.low kd W y p.o.2.1.1 p.o.2.1.2;have av:X (∀W:F,UB aI 24 #[.agg (gY d.high),.int .i64 kd] W λe A=>aP W A/\∃G:aD,e= .returned (.agg (gY G))/\VC kd G):=λW=>uk d.high kd W y p.o.2.2.1 p.o.2.2.2;have c6:(a:Int)<(cs.length:Int):=by omega
   clear M p y
   go_upto_region 22 with fail
   refine Un.open_ (λW':F=>(aM W' rb (bh+q.length*7+1) (.bool d.low.null)/\aM W' rb (bh+q.length*7+1+1) (.int .i64 d.low.n)/\aM W' rb (bh+q.length*7+1+2) (.string d.low.s))/\aM W' rb (bh+q.length*7+4) (.bool d.high.null)/\aM W' rb (bh+q.length*7+4+1) (.int .i64 d.high.n)/\aM W' rb (bh+q.length*7+4+2) (.string d.high.s)) 19 (λ_ _ _ _ _ f=>absurd (And.left f) (λf=>by cases f)) λch=>?_;replace i:X (aP W al.drew):=i.o.trans (((Uo _ _).drew).mono m);replace s:X (al.drew.ownsRow W.heap.size 61 7 (.slice O q.length N) q.length (dK q)):=aK s.o ((Uo _ _).drew);have t:=o.o _ i.o;replace m:=i.o.size;clear J cp;generalize al.drew=da at*;refine Un.pk 0 ?_;refine Un.pk 1 ?_;refine Un.pk 2 ?_;refine Un.pk 3 ?_;refine Un.pk 4 ?_;refine Un.pk 5 ?_;refine Un.ld [19] 6 ?_;refine Un.pk 7 ?_;refine Un.pk 9 ?_;refine Un.pk 10 ?_;refine Un.pk 11 ?_;refine Un.pk 12 ?_;refine Un.ld [19] 13 ?_;refine Un.pk 14 ?_;refine Un.on 8 λj b=>?_;go_simp;go_at_call 24;refine(au.o _).mono ?_;rintro e c8 ⟨V,h,rfl,bv⟩;have az:=af (aK s.o V);have B:=af (i.o.trans (V.mono m));refine b.o _ _ (λ_=>o.o _ B.o) ?_;clear b j t au s i;replace m:=B.o.size
   try simp only[UW,Ub,Uk,Uj]
   have t:=o.o _ B.o;refine Un.on 15 λj b=>?_;go_simp;go_at_call 24;refine(av.o _).mono ?_;rintro e am ⟨Z,g,rfl,bs⟩;have a0:=af (aK az.o Z);have w:=af (B.o.trans (Z.mono m));refine b.o _ _ (λ_=>o.o _ w.o) ?_;clear b j t av az B V Z;replace m:=w.o.size
   try simp only[UW,Ub,Uk,Uj]
   have t:=o.o _ w.o;refine Un.pk 16 ?_;refine Un.on 17 λj b=>?_;go_simp;have ap:X (aP W (am.alloc (.cells #[.int .i64 (a:Int),.bool h.null,.int .i64 h.n,.string h.s,.bool g.null,.int .i64 g.n,.string g.s] 61))):=w.o.trans ((Uo _ _).alloc m _);refine b.o _ _ (λ_=>o.o _ ap.o) ?_;clear b j t
   try simp only[UW,Ub,Uk,Uj]
   refine Un.one (i:=18) (by kernel_rfl) Y (λj b=>?_);have ad:=a0.o;refine WK _ (by rfl) _ _ 23 (by rfl) W.heap.size 61 co _ 7 72 an.underlying23 cf ci ck cl Y (by decide) (.slice O q.length N) q.length _ (by rfl) (ad.alloc _) ⟨am.heap.size,0,K⟩ 1 1 [.int .i64 (a:Int),.bool h.null,.int .i64 h.n,.string h.s,.bool g.null,.int .i64 g.n,.string g.s] (by rfl) Y (VJ (bk am _)) (Kz _ _ _ _ _ _ _) (by decide) (by unfold Up;omega) (by omega) (by simp;omega) _ Y ?_;intro bc P ao bx br bl cc;have bm:=aR.ji (n:=q.length+1) (cap:=P) br bl;have b3:X (ao.ownsRow W.heap.size 61 7 (.slice (I ⟨bc,0,K⟩) (q.length+1) P) (q++[(⟨(a:Int),h,g⟩:cE)]).length (dK (q++[(⟨(a:Int),h,g⟩:cE)]))):=by
    show ao.ownsRow W.heap.size 61 7 (.slice (I ⟨bc,0,K⟩) (q.length+1) P) (q++[(⟨(a:Int),h,g⟩:cE)]).length (dK (q++[(⟨(a:Int),h,g⟩:cE)]));rw[An,T8];exact bx
   have ar:X (aP W ao):=w.o.trans (bm.below (λb6 ca=>(ad.lt b6 ca).1) m);refine b.o _ _ (λ_=>o.o _ ar.o) ?_;clear b j ad bx br bl cc bm
   try simp only[UW,Ub,Uk,Uj]
   refine Un.on 19 λj b=>?_;go_simp;refine b.o _ _ (λf=>absurd f (by decide)) ?_;clear b j;refine Un.done (by kernel_rfl) ?_ _
   try simp only[UW,Ub,Uk,Uj]
   have b4:=af (a2.o h g bv bs);clear w ap a0 o a2 bv bs
   go_wp2_with fail
   go_roundw
   case rel=>exact⟨q++[(⟨(a:Int),h,g⟩:cE)],by rw[T8];go_num,by rw[T8];exact n,b3.o,b4.o,ar.o⟩
   case measure=>simp[US];omega
  ·have b1:X (q.length=rs.length):=by
    show q.length=rs.length;omega
   clear H
   go_wp2_with fail
   exact⟨i.o,_,q,s.o,b1.o,aw.o,(((Ak Y Y).cons Y).cons Y).cons Y⟩
end
end Ec
namespace Cc
open Go Go.Conc
open Ec
def Dj (x:List aD)(k:Int):aD:=x.getD k.toNat ⟨T5,0,⟨#[]⟩⟩
def fF (rs:List cE)(x:List aD):Bool:=rs.all λa=>sb (Dj x a.col) a
def eS (ah:List Int)(x:List aD):List aD:=ah.map (Dj x)
theorem AS{ji:Nat->Bool}{b:Nat->List aD}{first:Nat}{f:List aD->Bool}{g:List aD->List aD}(L:List (List aD))(h1:∀q (h:q<L.length),ji q=f L[q])(c:∀q (h:q<L.length),b q=g L[q]):∀(n p:Nat),p+n=L.length->(eA ji b first p n).map VU=((L.drop p).filter f).map g
 |0,p,h=>by
  rw[List.drop_eq_nil_of_le (by omega)];rfl
 |n+1,p,h=>by
  have a:p<L.length:=by omega
  have d:=AS (first:=first) L h1 c n (p+1) (by omega);rw[List.drop_eq_getElem_cons a,List.filter_cons];simp only[eA];rw[h1 p a];cases f L[p]
  ·exact d
  ·show(b p)::_=_;rw[c p a,d];rfl
section
variable {cs:List bK}{rows:List (List aD)}{es:List Int}{bd:Nat}{bo:Bool}{V:Nat->Nat->List aD}{ah:List Int}{rs:List cE}
def Jn(j p:Nat)(a:j<bZ rows.length bd)(b:p<cs.length):(((bO rows cs es bo bd (bZ rows.length bd)).getD j ⟨0,[]⟩).chunks.getD p vI).eX=if bo then ct (bH (bX rows bd j) p) else cD:=by
 simp[bO,a,Uh,gK,ep,b,BP]
def DG(j:Nat)(a:j<bZ rows.length bd):rowsOf (bO rows cs es bo bd (bZ rows.length bd)) j=(bX rows bd j).length:=by
 simp[rowsOf,bO,a,Uh,gK]
def BT(j:Nat)(b:∀p,p<cs.length->V j p=bH (bX rows bd j) p){k:Int}(c:0<=k/\k<(cs.length:Int))(q:Nat)(a:q<(bX rows bd j).length):Ax V j k q=Dj (bX rows bd j)[q] k:=by
 unfold Ax Dj;rw[b _ (by omega)];simp[bH,Uh,a]
def LX(j:Nat)(g:j<bZ rows.length bd)(d:∀p,p<cs.length->V j p=bH (bX rows bd j) p)(hc:∀k∈ah,0<=k/\k<(cs.length:Int))(f:∀r∈rs,0<=r.col/\r.col<(cs.length:Int)):(iw (bO rows cs es bo bd (bZ rows.length bd)) ah rs V j).map VU=((bX rows bd j).filter (fF rs)).map (eS ah):=by
 unfold iw;rw[DG j g];refine AS (bX rows bd j) (λc a=>?_) (λc a=>?_) _ 0 (by omega)
 ·unfold ni fF;rw[XF,Uy,Uy];constructor<;>intro e r b
  ·rw[<-BT j d (f r b) c a];exact e r b
  ·rw[BT j d (f r b) c a];exact e r b
 ·unfold eS;exact List.map_congr_left λk h=>BT j d (hc k h) c a
def Q5(j:Nat)(b:j<bZ rows.length bd)(c:∀p,p<cs.length->V j p=bH (bX rows bd j) p){l:List Int}:Ld (bO rows cs es bo bd (bZ rows.length bd)) (aY cs.length l) V j=Z:=by
 unfold Ld;rw[Uy];intro d a;rw[jj] at a;rw[c d (by simpa using a),fZ,DG j b];simp
def OJ(j:Nat)(o:j<bZ rows.length bd)(t:∀r∈rs,0<=r.col/\r.col<(cs.length:Int))(h:sZ (bO rows cs es bo bd (bZ rows.length bd)) rs j=Z):(bX rows bd j).filter (fF rs)=[]:=by
 unfold sZ at h;obtain⟨r,i,b⟩:=List.any_eq_true.1 h;have v:=t r i;rw[Jn j r.col.toNat o (by omega)] at b;cases bo with
 |false=>simp[wL,cD] at b
 |true=>
  simp only[if_true] at b;unfold wL at b;rw[Uv,Bool.or_eq_true] at b;obtain⟨g,a⟩:=b;rcases Qv (bH (bX rows bd j) r.col.toNat) with⟨k,_⟩|⟨_,_,_,_,_,n⟩
  ·rw[k] at g;cases g
  ·rw[List.filter_eq_nil_iff];intro c u p;have f:=Uy.1 p r i;unfold sb at f;simp only[WO,Bool.or_eq_false_iff] at f;obtain⟨⟨s,e⟩,d⟩:=f;have q:Dj c r.col∈bH (bX rows bd j) r.col.toNat:=U7.2 ⟨c,u,rfl⟩;obtain⟨l,m⟩:=n _ q s;rcases a with a|a
   ·unfold ic at a e;simp only[Uv,WO,decide_eq_true_eq] at a;rw[a.1] at e;simp only[Bool.not_false,Bool.true_and,decide_eq_false_iff_not] at e;have:=oT (x:=r.low) (y:=Dj c r.col) (by rw[me];omega) m;rw[me] at this;omega
   ·unfold ia at a d;simp only[Uv,WO,decide_eq_true_eq] at a;rw[a.1] at d;simp only[Bool.not_false,Bool.true_and,decide_eq_false_iff_not] at d;have:=oT l (show fo (Dj c r.col) r.high<=0 by omega);omega
theorem Cy(sk:Bool)(d:0<bd)(c:∀j,j<bZ rows.length bd->∀p,p<cs.length->V j p=bH (bX rows bd j) p)(hc:∀k∈ah,0<=k/\k<(cs.length:Int))(b:∀r∈rs,0<=r.col/\r.col<(cs.length:Int))(ws:List Int):
 ∀(r i:Nat) (pre:List dx) (n:Nat),i+r=bZ rows.length bd->(iV sk (bO rows cs es bo bd (bZ rows.length bd)) ah rs (aY cs.length ws) V (λ_=>Z) i r pre n).2.2=0/\(iV sk (bO rows cs es bo bd (bZ rows.length bd)) ah rs (aY cs.length ws) V (λ_=>Z) i r pre n).1.map VU=pre.map VU++((rows.drop (i*bd)).filter (fF rs)).map (eS ah)
 |0,i,pre,n,f=>by
  have:¬i*bd<rows.length:=λg=>by have:=(mv d i).1 g;omega
  rw[List.drop_eq_nil_of_le (by omega)];exact⟨rfl,(Wr _).symm⟩
 |r+1,i,pre,n,f=>by
  have a:i<bZ rows.length bd:=by omega
  have hcut:rows.drop (i*bd)=bX rows bd i++rows.drop ((i+1)*bd):=by
   unfold bX;rw[show(i+1)*bd=i*bd+bd from Nat.succ_mul i bd,<-List.drop_drop,Ww]
  rw[Nq,hcut,List.filter_append,U0];by_cases e:(sk&&sZ (bO rows cs es bo bd (bZ rows.length bd)) rs i)=Z
  ·rw[if_pos e,OJ i a b (Bool.and_eq_true_iff.1 e).2];exact Cy sk d c hc b ws r (i+1) pre n (by omega)
  ·rw[if_neg e,if_pos (Q5 i a (c i a))];have:=Cy sk d c hc b ws r (i+1) (pre++iw (bO rows cs es bo bd (bZ rows.length bd)) ah rs V i) (n+1) (by omega);rw[U0,LX i a (c i a) hc b,UC] at this;exact this
def Mw(h:mY cs rows es bd)(e:xE (I (cs.zip es,bO rows cs es bo bd (bZ rows.length bd))) V)(hc:∀k∈ah,0<=k/\k<(cs.length:Int))(b:∀r∈rs,(0<=r.col/\r.col<(cs.length:Int))/\iU (kC (cs.zip es) r.col) r=Z)(sk:Bool):
 oL (I (cs.zip es,bO rows cs es bo bd (bZ rows.length bd))) V ah rs sk=((rows.filter (fF rs)).map (eS ah),0):=by
 have d:(cs.zip es).length=cs.length:=by rw[List.length_zip,h.FV,Nat.min_self]
 have f:jy (I (cs.zip es,bO rows cs es bo bd (bZ rows.length bd))) ah rs=0:=by
  simp only[jy];rw[if_pos (by rw[sJ,d];exact⟨hc,λr a=>(b r a).1⟩),if_pos (by unfold Cu;rw[Uy];exact λr a=>(b r a).2)]
 have i:=Cy (bo:=bo) (es:=es) sk (show 0<bd from h.lo) (Aj h e) hc (λr a=>(b r a).1) (ah++rs.map cE.col) (bZ rows.length bd) 0 [] 0 (by omega);have g:(bO rows cs es bo bd (bZ rows.length bd)).length=bZ rows.length bd:=ja _ _ _ _ _ _;have c:(su (I (cs.zip es,bO rows cs es bo bd (bZ rows.length bd))) V ah rs sk λ_=>Z).2.2=0/\(su (I (cs.zip es,bO rows cs es bo bd (bZ rows.length bd))) V ah rs sk λ_=>Z).1.map VU=(rows.filter (fF rs)).map (eS ah):=by
  simp only[su];rw[d,g];simpa using i
 unfold oL;rw[f,if_pos Y,if_pos c.1,c.2]
end
end Cc
namespace Ec
open Go.RowKit Pk
theorem D1:∀(a b:List UInt8),Op.bytesLess a b=decide (Vd a b<0)
 | [],[]=>by simp[Op.bytesLess,Vd]
 |_::_,[]=>by simp[Op.bytesLess,Vd]
 | [],_::_=>by simp[Op.bytesLess,Vd]
 |x::a,d::b=>by
  unfold Op.bytesLess Vd;by_cases c:x<d
  ·simp[c]
  ·by_cases e:d<x
   ·have:x≠d:=λf=>by subst f;exact c e
    simp[c,e,this]
   ·have:x=d:=by
     apply UInt8.le_antisymm<;>simp_all
    simp[c,e,this,D1 a b]
def vF(x y:aD)(w:F):
 UB aI 28 #[.agg (gY x),.agg (gY y)] w λe w'=>e= .returned (.bool (decide (fo x y<0)))/\aP w w':=by
 have f:aP w ((w.alloc (.cells (gY x) 59)).alloc (.cells (gY y) 59)):=gz _ _;have c:=af f;clear f;by_cases b:x.n<y.n
 ·have a:X (fo x y<0):=by show fo x y<0;unfold fo;rw[if_pos b];decide
  go_enter an.func28,Tryz.ntmps28;go_wp2;go_ret;exact⟨j4 (by simp[a.o]),c.o⟩
 ·by_cases d:x.n=y.n
  ·have a:X (fo x y=Vd x.s.data.toList y.s.data.toList):=by show fo x y=_;unfold fo;rw[if_neg b,if_neg (by omega)]
   have g:(x.n==y.n)=Z:=by simp[d]
   go_enter an.func28,Tryz.ntmps28;go_wp2;go_ret;exact⟨j4 (by rw[a.o,D1,XJ,XJ]),gz _ _⟩
  ·have a:X (¬fo x y<0):=by show ¬fo x y<0;unfold fo;rw[if_neg b,if_pos (by omega)];decide
   have g:(x.n==y.n)=T5:=by simp[d]
   go_enter an.func28,Tryz.ntmps28;go_wp2;go_ret;exact⟨j4 (by simp[a.o]),c.o⟩
end Ec
namespace Ec
open Go.RowKit Pk Pm
def Ho(rs:List cE)(x:List aD)(a9:Option UJ)(vb kg gO:Nat)(ro:Option UJ)(rb bh aN:Nat)(w:F)(bs:rs.length<=Up)(bt:x.length<=Up)(s:sI w a9 vb kg x)(k:dA w ro rb bh rs)(ar:∀r∈rs,0<=r.col/\r.col<(x.length:Int)):
 UB aI 25 #[.slice a9 x.length gO,.slice ro rs.length aN] w λe w'=>∃bb,e= .returned (.bool bb)/\(bb=Z↔∀i (h:i<rs.length),sb (Cc.Dj x rs[i].col) rs[i]=Z)/\aP w w':=by
 unfold Up at bs bt;have U:=af k;have ad:=af s;have T:=af ar;clear k s ar;go_enter an.func25,Tryz.ntmps25
 go_wp2_with fail
 go_loopw [5] (λi wr=>∃b:Nat,b<=rs.length/\i= .int .i64 b/\(∀i (h:i<rs.length),i<b->sb (Cc.Dj x rs[i].col) rs[i]=Z)/\aP w wr) (λi _=>rs.length-(US i).toNat)
 case atStart=>exact⟨0,UE _,rfl,λb6 _ h=>by omega,Uo _ _⟩
 case round=>
  obtain⟨b,b3,rfl,ao,C⟩:=hrel;have J:=af ao;have ab:=af C;have bu:=C.size;clear ao;by_cases q:b<rs.length
  ·have k:=U.o.below C;obtain rfl:=k.addr (by omega);have au:=k.c0 b q;have av:=k.c1 b q;have aw:=k.c2 b q;have az:=k.c3 b q;have a0:=k.c4 b q;have a1:=k.c5 b q;have a2:=k.c6 b q;obtain⟨bl,bm⟩:=T.o rs[b] (Ui q);obtain⟨f,Y⟩:∃f:Nat,rs[b].col=(f:Int):=⟨rs[b].col.toNat,by omega⟩;have H:f<x.length:=by omega
   have s:=ad.o.below C;obtain rfl:=s.addr (by omega);have L:vb<wr.heap.size:=s.lt (by omega);have ae:=s.c0 f H;have al:=s.c1 f H;have am:=s.c2 f H;have A:X (sb (Cc.Dj x rs[b].col) rs[b]=T5->¬∀i (h:i<rs.length),sb (Cc.Dj x rs[i].col) rs[i]=Z):=λh bj=>by
    have:=bj b q;rw[h] at this;cases this
   have G:X (sb (Cc.Dj x rs[b].col) rs[b]=Z->∀i (h:i<rs.length),i<b+1->sb (Cc.Dj x rs[i].col) rs[i]=Z):=λh i br b2=>by
    by_cases e:i=b
    ·subst e;exact h
    ·exact J.o i br (by omega)
   have ap:Cc.Dj x rs[b].col=x[f]:=by
    rw[Y];unfold Cc.Dj;simp[Uh,H]
   rw[ap] at A G;clear k s C J U T ad bl bm ap;generalize rs[b]=r at*;generalize x[f]=v at*;obtain⟨ca,c,a⟩:=r;dsimp only at Y au av aw az a0 a1 a2;subst Y
   go_upto_region 5 with fail
   have bv:=jL (iT wr (.cells #[.int .i64 (f:Int),.bool c.null,.int .i64 c.n,.string c.s,.bool a.null,.int .i64 a.n,.string a.s] 61));obtain⟨bx,a3,a4,a5,a6,a7,a8⟩:=bv;have g:aP wr (wr.alloc (.cells #[.int .i64 (f:Int),.bool c.null,.int .i64 c.n,.string c.s,.bool a.null,.int .i64 a.n,.string a.s] 61)):=(Uo _ _).alloc (T6 _) _;have bd:=(g.cell (p:=⟨vb,kg+f*3,K⟩) L).trans ae;have be:=(g.cell (p:=⟨vb,kg+f*3+1,K⟩) L).trans al;have bi:=(g.cell (p:=⟨vb,kg+f*3+2,K⟩) L).trans am;have S:=af (ab.o.trans (g.mono bu));have z:wr.heap.size<(wr.alloc (.cells #[.int .i64 (f:Int),.bool c.null,.int .i64 c.n,.string c.s,.bool a.null,.int .i64 a.n,.string a.s] 61)).heap.size:=by simp
   clear g au av aw az a0 a1 a2 ae al am L;generalize wr.alloc (.cells #[.int .i64 (f:Int),.bool c.null,.int .i64 c.n,.string c.s,.bool a.null,.int .i64 a.n,.string a.s] 61)=o at*;generalize wr.heap.size=j at*;have bo:(f:Int)<(x.length:Int):=by omega
   go_upto_region 6 with fail
   obtain⟨D,O,P⟩:=qy o (.bool v.null) (.int .i64 v.n) (.string v.s) 59;have g:aP o (o.alloc (.cells (gY v) 59)):=(Uo _ _).alloc (T6 _) _;have bA:=(g.cell (p:=⟨j,1,K⟩) z).trans a3;have b4:=(g.cell (p:=⟨j,2,K⟩) z).trans a4;have b5:=(g.cell (p:=⟨j,3,K⟩) z).trans a5;have I:=(g.cell (p:=⟨j,4,K⟩) z).trans a6;have Q:=(g.cell (p:=⟨j,5,K⟩) z).trans a7;have R:=(g.cell (p:=⟨j,6,K⟩) z).trans a8;have n:X (aP w (o.alloc (.cells (gY v) 59))):=S.o.trans (g.mono (by have:=S.o.size;omega));have l:j<(o.alloc (.cells (gY v) 59)).heap.size:=by simp;omega
   have m:o.heap.size<(o.alloc (.cells (gY v) 59)).heap.size:=by simp
   clear g bx a3 a4 a5 a6 a7 a8 bd be bi S z bo H;generalize o.alloc (.cells (gY v) 59)=bB at*;generalize o.heap.size=B at*;have t:=λW=>vF v c W;have E:=λW=>vF a v W;have p:sb v ⟨(f:Int),c,a⟩= !(v.null||ic v c||ia v a):=rfl;have y:c.null=Z/\ic v c=T5\/c.null=T5/\decide (fo v c<0)=T5/\ic v c=T5\/c.null=T5/\decide (fo v c<0)=Z/\ic v c=Z:=by
    unfold ic;cases c.null<;>simp;omega
   have u:a.null=Z/\ia v a=T5\/a.null=T5/\decide (fo a v<0)=T5/\ia v a=T5\/a.null=T5/\decide (fo a v<0)=Z/\ia v a=Z:=by
    unfold ia;rw[me a v];cases a.null<;>simp;omega
   generalize decide (fo v c<0)=b1 at*;generalize decide (fo a v<0)=b0 at*;cases N:v.null
   ·rw[N] at D t E p;rcases y with⟨M,y⟩|⟨M,rfl,y⟩|⟨M,rfl,y⟩;clear t
    all_goals rcases u with⟨aa,u⟩|⟨aa,rfl,u⟩|⟨aa,rfl,u⟩
    all_goals
     rw[M] at bA;rw[aa] at I E
     try rw[M] at t
     rw[y,u] at p;clear y u N
     first
     |(have bc:=af (G.o p);clear A G p
       go_wp2_with (go_at_call 28;(first|(refine(t _).mono ?_;clear t)|refine(E _).mono ?_);rintro e w' ⟨rfl,d⟩;replace n:X (aP w w'):=n.o.trans (d.mono (by have:=n.o.size;omega));replace D:=(d.cell (p:=⟨B,0,K⟩) m).trans D;replace O:=(d.cell (p:=⟨B,1,K⟩) m).trans O;replace P:=(d.cell (p:=⟨B,2,K⟩) m).trans P;replace I:=(d.cell (p:=⟨j,4,K⟩) l).trans I;replace Q:=(d.cell (p:=⟨j,5,K⟩) l).trans Q;replace R:=(d.cell (p:=⟨j,6,K⟩) l).trans R;replace l:=Uc l d.size;replace m:=Uc m d.size;clear d)
       go_roundw
       (case rel=>exact⟨b+1,by omega,by go_num,bc.o,n.o⟩)
       case measure=>simp[US];omega)
     |(have V:=af (A.o p);clear A G p
       go_wp2_with (go_at_call 28;(first|(refine(t _).mono ?_;clear t)|refine(E _).mono ?_);rintro e w' ⟨rfl,d⟩;replace n:X (aP w w'):=n.o.trans (d.mono (by have:=n.o.size;omega));replace D:=(d.cell (p:=⟨B,0,K⟩) m).trans D;replace O:=(d.cell (p:=⟨B,1,K⟩) m).trans O;replace P:=(d.cell (p:=⟨B,2,K⟩) m).trans P;replace I:=(d.cell (p:=⟨j,4,K⟩) l).trans I;replace Q:=(d.cell (p:=⟨j,5,K⟩) l).trans Q;replace R:=(d.cell (p:=⟨j,6,K⟩) l).trans R;replace l:=Uc l d.size;replace m:=Uc m d.size;clear d)
       go_ret;exact⟨T5,rfl,by simp only[UA,false_iff];exact V.o,n.o⟩)
   ·rw[N] at D p;have V:=af (A.o p);clear A G p N t E y u;go_wp2;go_ret;exact⟨T5,rfl,by simp only[UA,false_iff];exact V.o,n.o⟩
  ·have ba:X (∀i (h:i<rs.length),sb (Cc.Dj x rs[i].col) rs[i]=Z):=λi h=>J.o i h (by omega);clear J C U T;go_wp2;go_ret;exact⟨Z,rfl,by simp only[true_iff];exact ba.o,ab.o⟩
def Hl(rs:List cE)(x:List aD)(d:Option UJ)(vb kg gO:Nat)(ro:Option UJ)(rb bh aN:Nat)(w:F)(i:rs.length<=Up)(j:x.length<=Up)(k:sI w d vb kg x)(c:dA w ro rb bh rs)(h:∀r∈rs,0<=r.col/\r.col<(x.length:Int)):
 UB aI 25 #[.slice d x.length gO,.slice ro rs.length aN] w λe w'=>e= .returned (.bool (Cc.fF rs x))/\aP w w':=by
 refine(Ho rs x d vb kg gO ro rb bh aN w i j k c h).mono ?_;rintro e w' ⟨l,rfl,a,g⟩;refine⟨j4 ?_,g⟩;rw[XF,a];unfold Cc.fF;rw[Uy];constructor
 ·intro a r c;obtain⟨f,b,rfl⟩:=Vv c;exact a f b
 ·exact λa f b=>a _ (Ui b)
structure Di(w W:F)(wv:U)(M:List (List aD×U)):Prop where
 rows:W.ownsRow w.heap.size 43 1 wv M.length (M.map VU)
 each:∀p∈M,W.ownsRow w.heap.size 59 3 p.2 p.1.length (aG p.1)
 de:aP w W
structure zW(w W:F)(wv:U)(M:List (List aD×U))(x:List aD)(u:U):Prop where
 md:Di w W wv M
 own:W.ownsRow w.heap.size 59 3 u x.length (aG x)
 ap:∀p∈M,Apart p.2 u
section
variable {w W W1:F}{wv:U}{M:List (List aD×U)}{x:List aD}{u u' v':U}
def Di.below(h:Di w W wv M)(a:aP W W1):Di w W1 wv M:=
 ⟨aK h.rows a,λc b=>aK (h.each c b) a,h.de.trans (a.mono h.de.size)⟩
def zW.below(h:zW w W wv M x u)(a:aP W W1):zW w W1 wv M x u:=⟨h.md.below a,aK h.own a,h.ap⟩
def zW.grow(h:zW w W wv M x u)(a:aR W W1 u u'){y:aD}(e:W1.ownsRow w.heap.size 59 3 u' (x++[y]).length (aG (x++[y]))):zW w W1 wv M (x++[y]) u':=
 ⟨⟨bF h.md.rows a (dP h.md.rows h.own (by decide)),λc b=>bF (h.md.each c b) a (h.ap c b),h.md.de.trans (a.below (λd a=>(h.own.lt d a).1) h.md.de.size)⟩,e,λc b=>(h.ap c b).jO (h.md.each c b) a⟩
def zW.put(h:zW w W wv M x u)(b:aR W W1 wv v')(f:W1.ownsRow w.heap.size 43 1 v' (M++[(x,u)]).length ((M++[(x,u)]).map VU)):Di w W1 v' (M++[(x,u)]):=
 ⟨f,λc a=>by
  have d:W.ownsRow w.heap.size 59 3 c.2 c.1.length (aG c.1):=by
   rcases U1.1 a with a|a
   ·exact h.md.each c a
   ·simp at a;subst a;exact h.own
  exact bF d b (dP d h.md.rows (by decide)),h.md.de.trans (b.below (λe b=>(h.md.rows.lt e b).1) h.md.de.size)⟩
end
def KL{a:List (List aD)}{rs:List cE}{b:List Int}{j:Nat}(h:j<a.length):(((a.take (j+1)).filter (Cc.fF rs)).map (Cc.eS b))=(((a.take j).filter (Cc.fF rs)).map (Cc.eS b))++(if Cc.fF rs a[j] then[Cc.eS b a[j]] else[]):=by
 rw[Um h,List.filter_append,U0];congr 1;cases c:Cc.fF rs a[j]<;>simp[c]
section
variable {W:F}{gm base:Nat}{cv:U}{cs:List bK}{rv:U}{L:List (List aD×U)}{ev:U}{es:List Int}{bd:Nat}{bo:Bool}
def O8(v:Nat->U)(a:List Int)(rs:List cE)(ro:Option UJ)(rb bh aN:Nat)(bm:v 15= .pointer (I ⟨gm,0,K⟩))(Z:rz W (v 22) a)(bs:v 24= .slice ro rs.length aN)(bt:v 28=aO)(y:KM W gm base cv cs rv L ev es bd bo)(dC:a.length<=16)(d4:rs.length<=16)(du:L.length<=2000)(b0:∀p∈L,p.1.length=cs.length)(dE:1<=cs.length/\cs.length<=8)(bA:∀k∈a,0<=k/\k<(cs.length:Int))(b3:∀r∈rs,0<=r.col/\r.col<(cs.length:Int))(b1:dA W ro rb bh rs):
 (kp 14 VX).wp aI (λe a' W'=>e= .normal/\aP W W'/\(∃wv M,Di W W' wv M/\M.map Uw=((L.map Uw).filter (Cc.fF rs)).map (Cc.eS a)/\Cc.Knows a' 227 [(16,v 16),(22,v 22),(24,v 24),(28,wv)])/\a'.defers=[]) (nJ v) W:=by
 obtain⟨dk,c3,c8,c9,da⟩:=Ve an.mI;obtain⟨df,c2,db,dc,dd⟩:=Ve an.Mp;obtain⟨cp,t,V,dq,Z,bu,bv,bx⟩:=Z;have ci:=af b1;have ck:=af b3;have a7:=af bA;have al:X ((0<a.length->cp=I ⟨t,V,K⟩)/\(0<a.length->t<W.heap.size)/\∀b,b<a.length->aM W t (V+b) (.int .i64 (a.getD b 0))):=⟨bu,bv,bx⟩;obtain⟨⟨-,ca,-⟩,-⟩:=fc y.box;have c1:=Ud y.box;obtain⟨b6,a4,rfl⟩:=bC y.md.rows;have bc:X (∀W',aP W W'->aM W' gm 1 (.slice b6 L.length a4)):=λW' i=>(i.cell (p:=⟨gm,1,K⟩) c1).trans ca;have cl:=af y.md.rows;have cc:=af y.md.each;have ch:=af b0;unfold nJ;rw[bm,Z,bs,bt];clear bm Z bs bt y b1 b3 bA bu bv bx b0 ca;unfold kp VX;dsimp only;simp only[qi]
 go_wp2_with fail
 go_loopw [28,29,30,31,32] (λwv q _ _ _ wr=>∃(M:List (List aD×U)) (b:Nat),q= .int .i64 (b:Int)/\b<=L.length/\M.map Uw=(((L.map Uw).take b).filter (Cc.fF rs)).map (Cc.eS a)/\Di W wr wv M) (λ_ q _ _ _ _=>L.length-(US q).toNat)
 case atStart=>exact⟨[],0,rfl,UE _,by simp,Vp _ _ _ _,λp n=>absurd n (by simp),Uo _ _⟩
 case round=>
  obtain⟨M,b,rfl,dO,ar,l⟩:=hrel;obtain⟨cb,gT,rfl⟩:=bC l.rows;have B:=af l;have a8:=af ar;have dv:M.length<=b:=by
   have:=congrArg List.length ar;simp only[UG] at this;have cu:=List.length_filter_le (Cc.fF rs) ((L.map Uw).take b);rw[Vs] at cu;omega
  have u1:=bc.o _ l.de;have a0:=l.de.size;by_cases A:b<L.length
  ·have az:=cl.o;have c5:∃j,b6=I ⟨j,0,K⟩/\j<W.heap.size/\aM W j b L[b].2:=by
    rcases az.2 with⟨e,dt⟩|⟨bl,dr,ds,e,_,c0,_⟩
    ·omega
    ·simp only[VA] at e;have bB:=az.cells (g:=bl) (by rw[e.1];rfl) b L[b].2 (by simp[A]);rw[Xc,UT] at bB;exact⟨bl,e.1,Ud c0,bB⟩
   obtain⟨j,rfl,c7,aw⟩:=c5;have a3:=ch.o L[b] (Ui A);obtain⟨d5,f,kg,gO,b5,O⟩:=rX.bN (cc.o L[b] (Ui A));obtain rfl:=O.addr (by omega);rw[b5] at aw;have s:X ((((L.map Uw).take (b+1)).filter (Cc.fF rs)).map (Cc.eS a)=(M.map Uw)++(if Cc.fF rs L[b].1 then[Cc.eS a L[b].1] else[])):=by
    show(((L.map Uw).take (b+1)).filter (Cc.fF rs)).map (Cc.eS a)=_;rw[KL (by simpa using A),a8.o,Xr]
   generalize L[b].1=c at*;have a1:=O.lt (by omega);have ao:=af O;have bb:X (∀W',aP W W'->aM W' j b (.slice (I ⟨f,kg,K⟩) c.length gO)):=λW' i=>(i.cell (p:=⟨j,b,K⟩) c7).trans aw;have u2:=bb.o _ l.de;have S:X (UB aI 25 #[.slice (I ⟨f,kg,K⟩) c.length gO,.slice ro rs.length aN] wr λe dl=>e= .returned (.bool (Cc.fF rs c))/\aP wr dl):=Hl rs c _ f kg gO ro rb bh aN wr (by unfold Up;omega) (by unfold Up;omega) (O.below l.de) (ci.o.below l.de) (λr c6=>by rw[a3];exact ck.o r c6);have co:=af a3;clear az O aw b5 l ar a3;cases ab:Cc.fF rs c with
   |false=>
    rw[ab] at S s;have am:X (M.map Uw=(((L.map Uw).take (b+1)).filter (Cc.fF rs)).map (Cc.eS a)):=by
     show M.map Uw=_;rw[s.o];simp
    clear s ab
    go_wp2_with (go_at_call 25;refine S.o.mono ?_;rintro e dp ⟨rfl,G⟩;have R:=af (B.o.below G);clear G)
    go_roundw
    case rel=>exact⟨M,b+1,by go_num,A,am.o,R.o⟩
    case measure=>simp[US];omega
   |true=>
    rw[ab] at S s;have am:X (∀u,(M++[(Cc.eS a c,u)]).map Uw=(((L.map Uw).take (b+1)).filter (Cc.fF rs)).map (Cc.eS a)):=λu=>by
     rw[s.o];simp
    clear s ab
    go_wp2_with (go_at_call 25;refine S.o.mono ?_;rintro e dp ⟨rfl,G⟩;have R:=af (B.o.below G);clear G)
    go_loopw [31,32] (λu q wr=>∃k:Nat,q= .int .i64 (k:Int)/\k<=a.length/\zW W wr (.slice cb M.length gT) M (Cc.eS (a.take k) c) u) (λ_ q _=>a.length-(US q).toNat)
    case atStart=>exact⟨0,rfl,UE _,R.o,Vp _ _ _ _,λp d1=>(show Apart aO p.2 from .inl Y).symm⟩
    case round=>
     clear R B u1 u2;obtain⟨k,rfl,dT,o⟩:=hrel;obtain⟨Q,P,rfl⟩:=bC o.own;have h:=af o;have a2:(Cc.eS (a.take k) c).length=k:=by unfold Cc.eS;rw[UG,Vs];omega
     have a0:=o.md.de.size;by_cases z:k<a.length
     ·obtain rfl:=al.o.1 (by omega);have cR:=al.o.2.1 (by omega);have aa:=al.o.2.2 k z;rw[Uh,Ul z,V1] at aa;obtain⟨d,av⟩:∃d:Nat,a[k]=(d:Int):=⟨a[k].toNat,by have:=(a7.o a[k] (Ui z)).1;omega⟩;have ae:d<c.length:=by have:=(a7.o a[k] (Ui z)).2;have:=co.o;omega
      rw[av] at aa;have cf:X (Cc.eS (a.take (k+1)) c=Cc.eS (a.take k) c++[c[d]]):=by
       show Cc.eS (a.take (k+1)) c=_;unfold Cc.eS;rw[Um z,U0,av];simp[Cc.Dj,Uh,ae]
      have be:=ao.o.c0 d ae;have bi:=ao.o.c1 d ae;have bj:=ao.o.c2 d ae;generalize c[d]=g at*;have T:X (∀W',aP W W'->(λW':F=>(aM W' gm 1 (.slice (I ⟨j,0,K⟩) L.length a4)/\aM W' j b (.slice (I ⟨f,kg,K⟩) c.length gO)/\aM W' t (V+k) (.int .i64 (d:Int)))/\aM W' f (kg+d*3) (.bool g.null)/\aM W' f (kg+d*3+1) (.int .i64 g.n)/\aM W' f (kg+d*3+2) (.string g.s)) W'):=λW' i=>⟨⟨bc.o W' i,bb.o W' i,(i.cell (p:=⟨t,_,K⟩) cR).trans aa⟩,(i.cell (p:=⟨f,_,K⟩) a1).trans be,(i.cell (p:=⟨f,_,K⟩) a1).trans bi,(i.cell (p:=⟨f,_,K⟩) a1).trans bj⟩;generalize Cc.eS (a.take k) c=x at*;subst a2;have d2:(d:Int)<(c.length:Int):=by omega
      clear o aa be bi bj av
      go_upto_region 33 with fail
      refine Un.open_ (λW':F=>(aM W' gm 1 (.slice (I ⟨j,0,K⟩) L.length a4)/\aM W' j b (.slice (I ⟨f,kg,K⟩) c.length gO)/\aM W' t (V+x.length) (.int .i64 (d:Int)))/\aM W' f (kg+d*3) (.bool g.null)/\aM W' f (kg+d*3+1) (.int .i64 g.n)/\aM W' f (kg+d*3+2) (.string g.s)) 15 (λ_ _ _ _ _ n=>absurd (And.left n) (λn=>by cases n)) λd3=>?_;replace h:X (zW W wr.drew (.slice cb M.length gT) M x (.slice Q x.length P)):=h.o.below ((Uo _ _).drew);have cx:=T.o _ h.o.md.de;replace a0:=h.o.md.de.size;generalize wr.drew=a6 at*;refine Un.pk 0 ?_;refine Un.pk 1 ?_;refine Un.pk 2 ?_;refine Un.ld [15] 3 ?_;refine Un.pk 4 ?_;refine Un.pk 5 ?_;refine Un.ld [15] 6 ?_;refine Un.pk 7 ?_;refine Un.pk 8 ?_;refine Un.pk 9 ?_;refine Un.ld [15] 10 ?_;refine Un.pk 11 ?_;refine Un.ld [15] 12 ?_;refine Un.on 13 λC m=>?_;go_simp;have a9:X (aP W (a6.alloc (.cells (gY g) 59))):=h.o.md.de.trans ((Uo _ _).alloc a0 _);refine m.o _ _ (λ_=>T.o _ a9.o) ?_;clear m C cx
      try simp only[UW,Ub,Uk,Uj]
      refine Un.one (i:=14) (by kernel_rfl) Y (λC m=>?_);have ad:=h.o.own;have br:=fB g;refine WK _ (by rfl) _ _ 43 (by rfl) W.heap.size 59 dk _ 3 32 an.underlying43 c3 c8 c9 da Y (by decide) (.slice Q x.length P) x.length _ (by rfl) (ad.alloc _) ⟨a6.heap.size,0,K⟩ 1 1 [.bool g.null,.int .i64 g.n,.string g.s] (by rfl) Y (VJ (bk a6 _)) br (by decide) (by unfold Up;omega) (by omega) (by simp;omega) _ Y ?_;intro ap D a5 N J E au;have H:=aR.ji (n:=x.length+1) (cap:=D) J E;have b2:a5.ownsRow W.heap.size 59 3 (.slice (I ⟨ap,0,K⟩) (x.length+1) D) (x++[g]).length (aG (x++[g])):=by
       rw[jr,mV,T8];exact N
      have ba:=af (h.o.grow H b2);refine m.o _ _ (λ_=>T.o _ ba.o.md.de) ?_;clear m C ad N J E au H b2 br
      try simp only[UW,Ub,Uk,Uj]
      refine Un.on 15 λC m=>?_;go_simp;refine m.o _ _ (λn=>absurd n (by decide)) ?_;clear m C;refine Un.done (by kernel_rfl) ?_ _
      try simp only[UW,Ub,Uk,Uj]
      clear h a9 T
      go_wp2_with fail
      go_roundw
      case rel=>exact⟨x.length+1,by go_num,z,by rw[cf.o];exact ba.o⟩
      case measure=>simp[US];omega
     ·have c4:k=a.length:=by omega
      subst c4;rw[Vf] at h o a2 ⊢;generalize Cc.eS a c=x at*;have ad:=o.md.rows;clear o a2
      go_wp2_with (at_builtin;refine wpList_append_lies _ Y _ _ 26 Y W.heap.size 43 df _ 1 24 an.underlying26 c2 db dc dd Y (by decide) _ M.length _ Y (ad.alloc _) ⟨wr.heap.size,0,K⟩ 1 1 [.slice Q x.length P] Y Y (VJ (bk wr _)) (by intro u b4;simp at b4;subst b4;rfl) (by decide) (by unfold Up;omega) (by omega) (by simp;omega) _ Y ?_;intro ap D a5 N J E au;have H:=aR.ji (n:=M.length+1) (cap:=D) J E;have cn:X (Di W a5 (.slice (I ⟨ap,0,K⟩) (M.length+1) D) (M++[(x,.slice Q x.length P)])):=h.o.put H (by rw[T8,U0];exact N);clear N J E au H)
      go_roundw
      case rel=>
       exact⟨M++[(x,.slice Q x.length P)],b+1,by go_num,A,am.o _,cn.o⟩
      case measure=>simp[US];omega
  ·have d0:b=L.length:=by omega
   have cd:X (M.map Uw=((L.map Uw).filter (Cc.fF rs)).map (Cc.eS a)):=by
    show M.map Uw=_;rw[a8.o,UO (by rw[UG];omega)]
   clear l
   go_wp2_with fail
   exact⟨B.o.de,_,M,B.o,cd.o,(((Ak Y Y).cons Y).cons Y).cons Y⟩
end
end Ec
end Go.Proofs.YtjidbonhhpkljaaGreat
namespace Go.Proofs.YtjidbonhhpkljaaGreat.Ec
open Go.RowKit Go.Proofs.YtjidbonhhpkljaaGreat.Pk Go.Proofs.YtjidbonhhpkljaaGreat.Pm
def CF:Nat->WU->WU
 |0,a=>a
 |n+1,.seq _ b=>CF n b
 |_,a=>a
def kd (n:Nat)(fn:WC):WU:=match fn.body with
 |some a=>CF n a
 |none=>.skip
def Bh{W:F}{R:List (List aD)}{a b:U}(h:AA W a R)(c:AA W b R)(f:R.length<=Up)(g:∀r∈R,r.length<=Up)(W':F)(d:aP W W'):UB aI 14 #[a,b] W' λe w'=>e= .returned (.bool Z)/\aP W' w':=by
 obtain⟨n,l,o,m,rfl,_,i⟩:=h.below d;obtain⟨s,p,t,q,rfl,_,j⟩:=c.below d;refine(CC R R n s l o m p t q W' f f g g i j).mono ?_;rintro e w' ⟨b,rfl,c,k,rfl⟩;exact⟨by rw[c.2 Y],Pk.below_drewN (Uo _ _) k⟩
def O6(W:F)(v:Nat->U)(R:List (List aD))(i:v 17= .int .i64 0)(j:v 20= .int .i64 0)(m:AA W (v 33) R)(n:AA W (v 34) R)(f:AA W (v 28) R)(c:R.length<=Up)(d:∀r∈R,r.length<=Up):(kd 17 VX).wp aI (λe a' W'=>e= .ret/\aP W W'/\Cc.Knows a' 227 [(14,.bool Z)]/\a'.defers=[]) (nJ v) W:=by
 have h:X (∀W',aP W W'->UB aI 14 #[v 33,v 28] W' λe g=>e= .returned (.bool Z)/\aP W' g):=λW' b=>Bh m f c d W' b;have o:X (∀W',aP W W'->UB aI 14 #[v 34,v 28] W' λe g=>e= .returned (.bool Z)/\aP W' g):=λW' b=>Bh n f c d W' b;unfold nJ;rw[i,j];clear m n f i j c d;unfold kd VX;dsimp only;simp only[CF]
 go_wp2_with (go_at_call 14;first|(refine(h.o _ (Uo _ _)).mono ?_;rintro e q ⟨rfl,k⟩;have a:=af k;clear k h)|(refine(o.o _ a.o).mono ?_;rintro e s ⟨rfl,l⟩;have p:=af (a.o.trans (l.mono a.o.size));clear l))
 exact⟨p.o,Ak Y Y⟩
def Eh{w:F}{base:Nat}{d:Option UJ}{n cap:Nat}{a:List Int}(h:w.ownsRow base 3 1 (.slice d n cap) a.length (bz a)):∃b c,(0<a.length->d=I ⟨b,c,K⟩)/\(0<a.length->b<w.heap.size)/\∀j,j<a.length->aM w b (c+j) (.int .i64 (a.getD j 0)):=by
 obtain⟨k,b,c,l,e,f,g,i⟩:=rz.bN h;obtain⟨rfl,-,-⟩:=X3 e;exact⟨b,c,f,g,i⟩
def Ei{w:F}{base:Nat}{ro:Option UJ}{cap:Nat}{q:List cE}(h:w.ownsRow base 61 7 (.slice ro q.length cap) q.length (dK q)):∃rb bh,dA w ro rb bh q:=by
 rcases h.2 with⟨b,d⟩|⟨c,e,f,b,_⟩
 ·obtain rfl:=Vh d;exact⟨0,0,λh=>by simp at h,λh=>by simp at h,λa h=>by simp at h,λa h=>by simp at h,λa h=>by simp at h,λa h=>by simp at h,λa h=>by simp at h,λa h=>by simp at h,λa h=>by simp at h⟩
 ·obtain⟨rfl,-,-⟩:=X3 b;exact⟨c,0,dA.Gd h⟩
def Nk{cs:List bK}{es:List Int}{r:cE}(a:∀c∈cs,c.kind=1\/c.kind=2\/c.kind=3)(k:es.length=cs.length)(h:Ll cs r):(0<=r.col/\r.col<(cs.length:Int))/\iU (Cc.kC (cs.zip es) r.col) r=Z:=by
 obtain⟨d,b,e,f,g⟩:=h;refine⟨by omega,?_⟩;have j:d<(cs.zip es).length:=by rw[List.length_zip];omega
 have i:Cc.kC (cs.zip es) r.col=cs[d].kind:=by
  unfold Cc.kC;rw[e,Int.toNat_natCast,Uh,Ul j,V1,List.getElem_zip]
 unfold iU;rw[i,(uA (a _ (Ui b)) f).1,(uA (a _ (Ui b)) g).1];rfl
end Go.Proofs.YtjidbonhhpkljaaGreat.Ec
namespace Go.Proofs.YtjidbonhhpkljaaGreat.Cc
open Go Go.Conc
open Go.RowKit (Below)
open Go.Proofs.YtjidbonhhpkljaaGreat.Ec
def TU(v0 v1 v2 b c d e:U)(m:Nat)(i:7<=m):Knows ⟨#[v0,v1,v2,b,c,d,e]++U3 (m-7) Vk,[]⟩ m [(0,v0),(1,v1),(2,v2),(3,b),(4,c),(5,d),(6,e)]:=by
 have a:∀f v,(#[v0,v1,v2,b,c,d,e]:Array U)[f]? =I v->aW ⟨#[v0,v1,v2,b,c,d,e]++U3 (m-7) Vk,[]⟩ f=v:=λf v g=>by
  unfold aW;rw[UD,Array.getElem?_append_left (Ua.1 g).1,g];rfl
 refine Knows.cons (Knows.cons (Knows.cons (Knows.cons (Knows.cons (Knows.cons (Knows.cons (l:=[]) ⟨?_,λs v h=>by simp at h⟩ (a 6 e Y)) (a 5 d Y)) (a 4 c Y)) (a 3 b Y)) (a 2 v2 Y)) (a 1 v1 Y)) (a 0 v0 Y);simp;omega
def Ht:(Tryz.f21.name == "runtime.NumGoroutine")=T5:=by kernel_rfl
section
variable {Post:U->F->Prop}{cs:List bK}{rows:List (List aD)}{es:List Int}{bd:Nat}{bo:Bool}{w0:F}
def JG(b:mY cs rows es bd)(q:(eB cs rows es bo bd).length<=65536){a:List Int}{rs:List cE}(l:∀k∈a,0<=k/\k<(cs.length:Int))(t:∀r∈rs,Ll cs r)(y:a.length<=16)(z:rs.length<=16){co:Option UJ}{cb bE aJ:Nat}{ro:Option UJ}{rb bh aN:Nat}(sk:Bool)
 (m:0<a.length->co=I ⟨cb,bE,K⟩) (o:0<a.length->cb<w0.heap.size) (n:∀j,j<a.length->aM w0 cb (bE+j) (.int .i64 (a.getD j 0))) (s:dA w0 ro rb bh rs):
 mh aI T9 Post 13 #[.string (Pk.strOf (eB cs rows es bo bd)),.slice co a.length aJ,.slice ro rs.length aN,.bool sk] w0 (Df ((rows.filter (fF rs)).map (eS a),0) w0):=by
 have f:(Pk.strOf (eB cs rows es bo bd)).size<=Up:=by rw[Pk.kJ];unfold Up;omega
 obtain⟨c,hF⟩:=OQ (Pk.strOf (eB cs rows es bo bd)) w0 f;have d:=pU b bo q;have i:c=I (cs.zip es,bO rows cs es bo bd (bZ rows.length bd)):=by
  cases c with
  |none=>exact absurd d (hF _ _)
  |some w=>
   obtain⟨A,x⟩:=w;obtain⟨g,h⟩:=hF.2 _ _ d;rw[<-g,<-h]
 subst i;obtain⟨V,e⟩:=Mo w0 hF;have p:=gu b.table.1;have v:=Mw (bo:=bo) b e l (λr u=>Nk p b.eH.1.symm (t r u)) sk;have:=GG (Post:=Post) (ah:=a) (rs:=rs) (co:=co) (cb:=cb) (bE:=bE) (aJ:=aJ) (ro:=ro) (rb:=rb) (bh:=bh) (aN:=aN) (sk:=sk) (w0:=w0) f hF e (by omega) (by omega) m o n s;rw[v] at this;exact this
def xa(b:mY cs rows es bd)(k:(eB cs rows es bo bd).length<=65536)(W:F):UB aI 21 #[.string (Pk.strOf (eB cs rows es bo bd))] W λe W'=>aP W W'/\∃v,e= .returned v/\∃a,v= .tuple #[a,.int .i64 (rows.length:Int),.int .i64 0]/\W'.ownsRow W.heap.size 63 2 a cs.length (eG cs):=by
 refine(CA (Pk.strOf (eB cs rows es bo bd)) W (by rw[Pk.kJ];unfold Up;omega)).mono ?_;rintro e W' ⟨i,o,q,m,a,rfl,j,f,-⟩;have d:=pU b bo k;obtain⟨p,n,c,rfl,rfl,rfl,l⟩|⟨c,-⟩:=j
 ·obtain⟨g,h⟩:=l _ _ d;subst g;rw[tO b] at f;refine⟨i,_,rfl,a,?_,f⟩;rw[<-h,xO b bo];rfl
 ·exact absurd d (c _ _)
end
end Go.Proofs.YtjidbonhhpkljaaGreat.Cc
