/- What the proof stands on, in short names. -/
import Derived.Test.YtjidbonhhpkljabGreatMd
import Derived.OpenShut
import Derived.Deep.Slices
import Derived.Deep.Strs
import Derived.SizedLaws
import Derived.Maps.AppendAt
import Derived.Laws.Rows
set_option linter.all false
open Array renaming ext_getElem?->Yo,getD_eq_getD_getElem?->Vt,getElem?_eq_none->Wl,getElem?_eq_some_iff->U4,getElem?_push->VF,getElem?_setIfInBounds->VE,length_toList->WW,range->Y3,replicate->V8,size_push->WU
open Bool renaming and_eq_true->Vr,false->U5,false_eq_true->Vv,true->Z
open Classical renaming choose->Wq,choose_spec->Vo
open False renaming elim->YJ
open Go renaming Act->Xa,Addr->VI,Code->XQ,Ending->X6,Frame->Vg,Func->XJ,FuncId->Xb,Item->XR,Obj->Yk,Oper->Ww,Operand->V4,Program->Vb,TypeId->Vc,Value->U,World->F,bodyPost->Xw,execOp->Vw,exitTo->YE,heap_alloc_new->Xf,heap_setCell_other->Vj,heap_setCell_same->Vl,info_parts->Wo,lt_of_block->Va,maxLen->Vp,results->V0,run_underlying->X5,undef->V9,wpList_append_fits->WL,yielded->We,zeroValue->Xl
open Go.Addr renaming add->Zl,add_lit->WZ,add_mid->YN
open Go.Addr.mk renaming injEq->Xk
open Go.Builtin renaming copy_->Yx
open Go.Ending.returned renaming inj->XG
open Go.Frame renaming finish->WJ,round->Xt
open Go.Instr renaming buildSlice->X9,endRound->YB,fill->YL
open Go.Item renaming code->Zv
open Go.Lib renaming compareBytes->Wy
open Go.Proofs.Tryz renaming f10->WX,f24->Xv,f3->Wp,f7->Xo,prog->U1
open Go.Region renaming binds->Wn,wanted->VA
open Go.Region.linearise renaming go->V5
open Go.RowKit renaming Below->XC,intOf->V3,wrap64->Wj
open Go.RowKit.Below renaming heap_alloc->VH,refl->Vi
open Go.Steps renaming trans->Zu
open Go.Value renaming cells->WV,int->Xm,ownBlock->Wz,slice->VR
open Go.Value.slice renaming injEq->V7
open Go.World renaming cell?->Ve,drewN_drewN->Yi,frozen?->VW,grownBy_alloc->XY,ownsRow_nil->Xj,putObj_heap_other->Ya
open Int renaming eq_ofNat_of_zero_le->XO
open List renaming all_eq_true->Vx,append_assoc->Vu,append_nil->WM,eq_nil_of_length_eq_zero->Wt,getD_eq_getElem?_getD->Vk,getElem?_append_left->Wx,getElem?_append_right->Wb,getElem?_eq_getElem->Vf,getElem?_eq_some_iff->Vs,getElem?_map->YI,getElem?_take->Xg,getElem_map->YR,getElem_mem->Vn,getElem_of_mem->WN,getElem_take->WE,length->Ym,length_append->U8,length_map->VQ,length_take->WB,map_append->V1,mem_append->VM,mem_cons->WI,mem_map->Wu,mem_of_getElem?->Wv,mem_range->WK,nil_append->Yn,not_mem_nil->YS,range->VS,replicate->VP,take_of_length_le->VJ,take_succ_eq_append_getElem->Vh
open List.Pairwise renaming nil->ZS
open Nat renaming add_assoc->Wc,le_refl->U7,le_trans->Vm,lt_of_lt_of_le->U9,lt_or_ge->WG,mul_one->Ze,zero_add->VV,zero_le->VB
open Option renaming map_some->Xc,none->K,some->I
open Option.some renaming inj->Zm,injEq->VY
open Or renaming inr->ZD
open Prod renaming fst->Vy,snd->WD
set_option maxRecDepth 100000
set_option maxHeartbeats 8000000
namespace Go.Proofs.YtjidbonhhpkljabGreat
namespace Cc
open Go Go.Conc
open Go.RowKit (Below)
open Ec (aC az bT dK qv bQ Bd aI)
def He{P:Vb}{a:Xa}{o:Ww}{x:V4}{d:VI}(f:o.op= .nilCheck x)(g:a.eval x= .pointer (I d)):∀b,(Vw a.eval o).run P b= .ok (.value (.pointer (I d))) b/\(Vw a.eval o).events P b #[]=#[]:=λb=>by
 unfold Vw;simp[f,g]
def KR{P:Vb}{S own:Nat->Prop}{a:Xa}{o:Ww}{w:F}{t:Vc}{x:V4}{f off:Nat}{cs:List U}{d:TypeDesc}{v:U}(k:o.op= .load t x)(p:a.eval x= .pointer (I ⟨f,off,K⟩))(l:P.underlying t=I d)(i:d.isRow=Z)(j:(P.info? t).map (·.size)=I cs.length)(h:S f\/own f)(hc:w.rangeAt f off cs)(m:.agg cs.toArray=v):∀g,RelB (λb=>S b\/own b) w g->(Vw a.eval o).run P g= .ok (.value v) g/\∀e∈(Vw a.eval o).events P g #[],EvW S own e:=by
 subst m;exact eK k p l i j h hc
def ek (fn:XJ):Array Ww:=match fn.body with
 |some (.region _ a _)=>a
 |_=> #[]
def GJ (cu xb lp:Nat)(q:U):List (Nat×U):=[(4,(aP cu)),(5,(aP cu)),(6,(aP cu)),(7,(aP cu)),(8,(aP cu)),(9,q),(10,.func (.yield lp) #[] #[])]
def Ka (cu:Nat)(n e:Nat):List (Nat×U):=[(11,.tuple #[.int .i64 (n:Int),.int .i64 (e:Int)]),(3,.tuple #[.int .i64 (n:Int),.int .i64 (e:Int)]),(12,.int .i64 (n:Int)),(13,.int .i64 (e:Int)),(14,(aP cu)),(15,.pointer (I ⟨cu,6,K⟩))]
def PB (cu:Nat):List (Nat×U):=[(16,(aP cu)),(17,.pointer (I ⟨cu,7,K⟩))]
def MM:List Nat:=[4,5,6,7,8,9,10]
def Ei:gF (ek Xv) (λi=>decide (i<7)) 7 18 MM=Z:=by kernel_rfl
def Ej:gF (ek Xv) (λi=>decide (i<13)) 13 18 ([11,3,12,13,14,15]++MM)=Z:=by kernel_rfl
def Ek:gF (ek Xv) (λi=>decide (i<16)) 16 18 ([16,17]++([11,3,12,13,14,15]++MM))=Z:=by kernel_rfl
def MN:((VS (ek Xv).size).all λi=> !(λi=>decide (i<7)) i||match je (ek Xv) i with|some d=> !([11,3,12,13,14,15]:List Nat).contains d|none=>Z)=Z:=by kernel_rfl
def MO:((VS (ek Xv).size).all λi=> !(λi=>decide (i<13)) i||match je (ek Xv) i with|some d=> !([16,17]:List Nat).contains d|none=>Z)=Z:=by kernel_rfl
def Kb:((VS (ek Xv).size).all λi=> !(λi=>decide (2<=i/\i<=7)) i||i==7||(under (ek Xv) 6 (match (ek Xv)[7]? with
 |some o=>(o.after.toList.filter λe=>Wn .any e).map (·.on)
 |none=>[])).contains i)=Z:=by kernel_rfl
def Kc:((VS (ek Xv).size).all λi=> !(λi=>decide (i<=13/\i≠1/\i≠10)) i||i==13||(under (ek Xv) 2 (match (ek Xv)[13]? with
 |some o=>(o.after.toList.filter λe=>Wn .any e).map (·.on)
 |none=>[])).contains i)=Z:=by kernel_rfl
def Ke:((VS (ek Xv).size).all λi=> !(λi=>decide (i<=16)) i||i==16||(under (ek Xv) 2 (match (ek Xv)[16]? with
 |some o=>(o.after.toList.filter λe=>Wn .any e).map (·.on)
 |none=>[])).contains i)=Z:=by kernel_rfl
def MP:vX (ax U1) (.inRegion (ek Xv) [])=Z:=by kernel_rfl
def RR{a:Xa}{l:List Nat}(b:a.defers=[]):eH (ax U1) ((base 24).at a [.inRegion (ek Xv) l]) []:=
 bL Y b (by rw[List.all_cons,List.all_nil,Bool.and_true];exact MP)
def S9:(Tryz.f25.name == "runtime.NumGoroutine")=U5:=by kernel_rfl
def Nj:(U1.info? 3).map (·.size)=I 1:=by kernel_rfl
def GS:(U1.info? 28).map (·.size)=I 1:=by kernel_rfl
def Db{P:Vb}{fn:XJ}{a:Xa}(b:fn.results=#[]):(∀w,(V0 fn a.tmps).run P w= .ok (.tuple #[]) w)/\∀w,(V0 fn a.tmps).events P w #[]=#[]:=by
 constructor<;>intro w<;>simp[V0,b]
def fN (q:Array U)(n e:Nat):Array U:=q++#[.int .i64 (n:Int),.int .i64 (e:Int)]
section
variable {Post:U->F->Prop}{own:Nat->Prop}{w:F}{cu xb lp n e:Nat}{a0:Xa}{cs:List Vg}{q:Array U}{qa:U}{c:Vg}{n0 e0:Nat}
def MQ(m:Knows a0 18 [(0,.func (.yield lp) #[] #[]),(1,(aP xb))])(E:a0.defers=[])(F:uw KL own w)(H:own xb)(u:own cu)(Q:xb≠cu)(L:w.heap[xb]? =I (.cells #[(aP cu)] 31 (0,0)))(v:q.size=6)(hc:w.heap[cu]? =I (.cells (fN q n e0) 72 (0,0)))
 (k t:Nat) (f:Array Bool) (b:Xa) (l:cI (ek Xv) (λi=>decide (i<16)) a0 (fill a0 (PB cu++(Ka cu n e++GJ cu xb lp qa))) f b) (p:∀i,(λi=>decide (i<=13/\i≠1/\i≠10)) i=Z->f.getD i U5=Z) (s:FW f<=k)
 (G:∀w',Au KL own cu (.cells (fN q n e) 72 (0,0)) w w'->Xe (ax U1) U1 Post own (c.finish (.tuple #[])) cs w'):
 Xe (ax U1) U1 Post own ((base 24).at b [.inRegion (ek Xv) (V5 .any (ek Xv) k t f [])]) (c::cs) w:=by
 have h:=eX (ax U1) U1 Post;refine kO (Dn:=λi=>decide (i<=13/\i≠1/\i≠10)) (u:=16) h (by decide) m Ek ?_ ?_ ?_ k t f b l p s
 ·intro a i g J p _ d;have N:i<16:=by simpa using J
  have O:¬(i<=13/\i≠1/\i≠10):=by simpa using p
  have:i=1\/i=10\/i=14\/i=15:=by omega
  rcases this with rfl|rfl|rfl|rfl
  ·cases(show I _=I g from d);exact⟨_,rfl,.inl ⟨rfl,bP Y (a.of Y) Tryz.isAgg31 (.inr H) (gU L Y)⟩⟩
  ·cases(show I _=I g from d);exact⟨_,rfl,.inl ⟨rfl,cq (kI Y (a.of Y) Y)⟩⟩
  ·cases(show I _=I g from d);exact⟨_,rfl,.inl ⟨rfl,cq (He Y (a.of Y))⟩⟩
  ·cases(show I _=I g from d);exact⟨_,rfl,.inl ⟨rfl,cq (de (off':=7) Y (a.of Y) Tryz.underlying72 Y Tryz.sizeOf28 Y)⟩⟩
 ·intro g d k t f b l x s P _;have a:=m.fill (PB cu++(Ka cu n e++GJ cu xb lp qa)) Y;have o:=gG (Dn:=λi=>decide (i<=16)) l x Ke (λj r=>by
   have:j<=16:=by simpa using r
   show j<17;omega)
  cases(show I _=I g from d);obtain⟨C,D⟩:=oH l x rfl m.size Ek (λj r=>o j (by
   have:j<17:=r;simp;omega))
  rw[D];subst C;refine nY h F (n:=cu) (by decide) d Y u (.cells ((fN q n e0).toList.take 7++(Xm .i64 (e:Int)).cells.toList++(fN q n e0).toList.drop (7+(Xm .i64 (e:Int)).cells.size)).toArray 72) trivial (iy (n:=cu) (off:=7) (v:=.int .i64 (e:Int)) Y (a.of Y) (a.of Y) GS (λR A=>by simp[WV] at A;rw[A];rfl) (ZD u) hc (by
   show 7+1<=(fN q n e0).size;simp[fN,v])) λM z=>?_
  refine aj h ?_;refine Mz h ?_;have y:=Db (P:=U1) (fn:=Xv) (a:=(fill a0 (PB cu++(Ka cu n e++GJ cu xb lp qa))).put (ek Xv)[16].dst V9) Tryz.results24;refine ig h Y (by rw[put_defers,ep];exact E) Tryz.func24 y.1 y.2 (G M ?_);have B:((fN q n e0).toList.take 7++(Xm .i64 (e:Int)).cells.toList++(fN q n e0).toList.drop (7+(Xm .i64 (e:Int)).cells.size)).toArray=fN q n e:=by
   apply Array.toList_inj.1;have K:q.toList.length=6:=by simpa using v
   simp[fN,WV,List.take_append,List.drop_append,K];rw[VJ (by omega),List.drop_eq_nil_of_le (by omega)]
  rw[B] at z;exact z
 ·intro o;exact absurd (o 16 (by decide)) (by decide)
def GK(m:Knows a0 18 [(0,.func (.yield lp) #[] #[]),(1,(aP xb))])(r:a0.defers=[])(B:uw KL own w)(o:own xb)(v:own cu)(F:xb≠cu)(z:w.heap[xb]? =I (.cells #[(aP cu)] 31 (0,0)))(x:q.size=6)(hc:w.heap[cu]? =I (.cells (fN q n0 e0) 72 (0,0)))
 (j t:Nat) (h:Array Bool) (b:Xa) (k:cI (ek Xv) (λi=>decide (i<13)) a0 (fill a0 (Ka cu n e++GJ cu xb lp qa)) h b) (s:∀i,(λi=>decide (2<=i/\i<=7)) i=Z->h.getD i U5=Z) (D:FW h<=j)
 (O:∀G w',Au KL own cu (.cells (fN q n e0) 72 (0,0)) w G->Au KL own cu (.cells (fN q n e) 72 (0,0)) G w'->Xe (ax U1) U1 Post own (c.finish (.tuple #[])) cs w'):
 Xe (ax U1) U1 Post own ((base 24).at b [.inRegion (ek Xv) (V5 .any (ek Xv) j t h [])]) (c::cs) w:=by
 have A:=eX (ax U1) U1 Post;refine kO (Dn:=λi=>decide (2<=i/\i<=7)) (u:=13) A (by decide) m Ej ?_ ?_ ?_ j t h b k s D
 ·intro d i f Q s _ a;have V:i<13:=by simpa using Q
  have W:¬(2<=i/\i<=7):=by simpa using s
  have:i=0\/i=1\/i=8\/i=9\/i=10\/i=11\/i=12:=by omega
  rcases this with rfl|rfl|rfl|rfl|rfl|rfl|rfl
  ·cases(show I _=I f from a);exact⟨_,rfl,.inl ⟨rfl,bP Y (d.of Y) Tryz.isAgg31 (.inr o) (gU z Y)⟩⟩
  ·cases(show I _=I f from a);exact⟨_,rfl,.inl ⟨rfl,bP Y (d.of Y) Tryz.isAgg31 (.inr o) (gU z Y)⟩⟩
  ·cases(show I _=I f from a);exact⟨_,rfl,.inl ⟨rfl,cq (bZ Y (d.of Y))⟩⟩
  ·cases(show I _=I f from a);exact⟨_,rfl,.inl ⟨rfl,cq (kI Y (d.of Y) Y)⟩⟩
  ·cases(show I _=I f from a);exact⟨_,rfl,.inl ⟨rfl,cq (kI Y (d.of Y) Y)⟩⟩
  ·cases(show I _=I f from a);exact⟨_,rfl,.inl ⟨rfl,cq (He Y (d.of Y))⟩⟩
  ·cases(show I _=I f from a);exact⟨_,rfl,.inl ⟨rfl,cq (de (off':=6) Y (d.of Y) Tryz.underlying72 Y Tryz.sizeOf3 Y)⟩⟩
 ·intro f a j t h b k y D C _;have d:=m.fill (Ka cu n e++GJ cu xb lp qa) Y;have p:=gG (Dn:=λi=>decide (i<=13/\i≠1/\i≠10)) k y Kc (λg u=>by
   have:g<=13/\g≠1/\g≠10:=by simpa using u
   show g<17;omega)
  cases(show I _=I f from a);have J:b.eval (.tmp 15)= .pointer (I ⟨cu,6,K⟩):=(C 15 (by decide)).trans (d.slot 15 _ Y);have H:b.eval (.tmp 12)= .int .i64 (n:Int):=(C 12 (by decide)).trans (d.slot 12 _ Y);refine nY A B (n:=cu) (by decide) a Y v (.cells ((fN q n0 e0).toList.take 6++(Xm .i64 (n:Int)).cells.toList++(fN q n0 e0).toList.drop (6+(Xm .i64 (n:Int)).cells.size)).toArray 72) trivial (iy (n:=cu) (off:=6) (v:=.int .i64 (n:Int)) Y J H Nj (λX E=>by simp[WV] at E;rw[E];rfl) (ZD v) hc (by
   show 6+1<=(fN q n0 e0).size;simp[fN,x])) λT l=>?_
  have L:((fN q n0 e0).toList.take 6++(Xm .i64 (n:Int)).cells.toList++(fN q n0 e0).toList.drop (6+(Xm .i64 (n:Int)).cells.size)).toArray=fN q n e0:=by
   apply Array.toList_inj.1;have R:q.toList.length=6:=by simpa using x
   simp[fN,WV,List.take_append,List.drop_append,R]
  rw[L] at l;have M:=k.Jc (l2:=PB cu) (L4:=λi=>decide (i<16)) (n:=18) (v:=V9) y a m.size Ej Y (λg u=>by
   have:g<13:=by simpa using u
   simp;omega) Y MO (λU r=>by cases r)
  refine MQ (n:=n) (e:=e) (e0:=e0) (qa:=qa) m r (B.set l) o v F ((l.at_ xb (.inr o) F).trans z) x l.set j t _ _ M p ?_ λw' S=>O T w' l S;obtain⟨_,_,N,P,_⟩:=mem_ready y;have:=rQ (by rw[k.size];exact N) P;omega
 ·intro p;exact absurd (p 13 (by decide)) (by decide)
end
def Ue (J:List cg->(Nat->Prop)->F->Prop)(M0:Nat->Prop)(w0:F)(cu:Nat)(q:Array U)(b:List cg×Nat×Nat)(f:X6)(w':F):Prop:=
 f= .returned (.tuple #[])/\(∃c,J b.1 c w'/\∀a,c a->M0 a\/w0.heap.size<=a)/\(∀a,a<w0.heap.size->¬M0 a->a≠cu->w'.heap[a]? =w0.heap[a]?)/\w'.heap[cu]? =I (.cells (fN q b.2.1 b.2.2) 72 (0,0))/\w0.heap.size<=w'.heap.size
section
variable {Post:U->F->Prop}{J:List cg->(Nat->Prop)->F->Prop}{Go:List cg->Bool}{w0:F}{M0:Nat->Prop}{lp cu xb:Nat}{l:List (bQ×Int)}{bs:List Bd}{ah:List Int}{rs:List bT}{kb ck eb ce db:Nat}{dO:Option VI}{cJ lS:Nat->Nat}{co:Option VI}{cb bH aG:Nat}{ro:Option VI}{rb bF aK:Nat}{V:Nat->Nat->List aC}{cm n0 e0:Nat}{sk:Bool}
def Bm(C:Cons (ax U1) U1 Post lp J Go)(ae:Go []=Z)(q:FQ l bs ah rs V)(i:J [] M0 w0)(hF:∀t,(∀b,b<w0.heap.size->¬M0 b->b≠cu->nH t w0 b)->w0.heap.size<=t.heap.size->FM t l bs ah rs kb eb dO db cJ lS co cb bH ro rb bF)(a9:0<bs.length->¬M0 db)(R:¬M0 cu)(ba:¬M0 xb)(bk:xb≠cu)
 (x:w0.heap[xb]? =I (.cells #[(aP cu)] 31 (0,0))) (hc:w0.heap[cu]? =I (.cells (fN (dR kb l.length ck eb l.length ce dO bs.length cm co ah.length aG ro rs.length aK sk) n0 e0) 72 (0,0))):
 kq (ax U1) U1 Post 24 #[.func (.yield lp) #[] #[],(aP xb)] w0 (Ue J M0 w0 cu (dR kb l.length ck eb l.length ce dO bs.length cm co ah.length aG ro rs.length aK sk) (bV sk bs ah rs (aI l.length (ah++rs.map bT.col)) V Go 0 bs.length [] 0)):=by
 intro aa ab bi b0 G al;have O:=eX (ax U1) U1 Post;have T:cu<w0.heap.size:=(U4.1 hc).1;have B:xb<w0.heap.size:=(U4.1 x).1;have ar:=C.bound _ _ _ i;refine Xe.go (own:=λb=>b<w0.heap.size) ?_ (λb e=>e) G;rw[enter_at _ Tryz.func24 Y];have s:=Ut (.func (.yield lp) #[] #[]) (aP xb) 18 (by decide);have F:(⟨#[Value.func (.yield lp) #[] #[],(aP xb)]++V8 (18-2) V9,[]⟩:Xa).defers=[]:=rfl;have a0:w0.rangeAt cu 0 (dR kb l.length ck eb l.length ce dO bs.length cm co ah.length aG ro rs.length aK sk).toList:=λj v i=>by
  refine nP hc j v ?_;have a8:j<6:=(Vs.1 i).1;simp only[fN,Array.toList_append];rw[Wx (by simpa [dR] using a8)];exact i
 show Xe _ _ Post _ ((base 24).at ⟨#[Value.func (.yield lp) #[] #[],(aP xb)]++V8 (18-2) V9,[]⟩ [.code (.region 0 (ek Xv) Z)]) (aa::ab) w0;generalize (⟨#[Value.func (.yield lp) #[] #[],(aP xb)]++V8 (18-2) V9,[]⟩:Xa)=bo at s F;generalize S:qv (.slice (I ⟨kb,0,K⟩) l.length ck) (.slice (I ⟨eb,0,K⟩) l.length ce) (.slice dO bs.length cm) (.slice co ah.length aG) (.slice ro rs.length aK) sk=o;have bd:Value.agg (dR kb l.length ck eb l.length ce dO bs.length cm co ah.length aG ro rs.length aK sk).toList.toArray=o:=by rw[<-S];rfl
 refine q9 (Ph:=λc=>decide (c<7)) (l:=GJ cu xb lp o) O rS ?_;refine kO (u:=7) O (by decide) s Ei ?_ ?_ ?_
 ·intro h c g G _ _ d;have bu:c<7:=by simpa using G
  have:c=0\/c=1\/c=2\/c=3\/c=4\/c=5\/c=6:=by omega
  rcases this with rfl|rfl|rfl|rfl|rfl|rfl|rfl
  ·cases(show I _=I g from d);exact⟨_,rfl,.inl ⟨rfl,bP Y (h.of Y) Tryz.isAgg31 (.inr B) (gU x Y)⟩⟩
  ·cases(show I _=I g from d);exact⟨_,rfl,.inl ⟨rfl,bP Y (h.of Y) Tryz.isAgg31 (.inr B) (gU x Y)⟩⟩
  ·cases(show I _=I g from d);exact⟨_,rfl,.inl ⟨rfl,bP Y (h.of Y) Tryz.isAgg31 (.inr B) (gU x Y)⟩⟩
  ·cases(show I _=I g from d);exact⟨_,rfl,.inl ⟨rfl,cq (He Y (h.of Y))⟩⟩
  ·cases(show I _=I g from d);exact⟨_,rfl,.inl ⟨rfl,cq (de (off':=0) Y (h.of Y) Tryz.underlying72 Y Tryz.sizeOf68 Y)⟩⟩
  ·cases(show I _=I g from d);exact⟨_,rfl,.inl ⟨rfl,KR (cs:=(dR kb l.length ck eb l.length ce dO bs.length cm co ah.length aG ro rs.length aK sk).toList) Y (h.of Y) Tryz.underlying68 Y vj (.inr T) a0 bd⟩⟩
  ·cases(show I _=I g from d);exact⟨_,rfl,.inl ⟨rfl,cq (bZ Y (h.of Y))⟩⟩
 ·intro g d ad bl b2 b z H bB Q _;have h:=s.fill (GJ cu xb lp o) Y;have a2:=gG (Dn:=λc=>decide (2<=c/\c<=7)) z H Kb (λj i=>by
   have:2<=j/\j<=7:=by simpa using i
   show j<17;omega)
  have au:b.defers=[]:=by rw[z.Te,ep];exact F
  cases(show I _=I g from d);have X:b.eval (.tmp 9)=o:=(Q 9 (by decide)).trans (h.slot 9 _ Y);have W:b.eval (.tmp 10)= .func (.yield lp) #[] #[]:=(Q 10 (by decide)).trans (h.slot 10 _ Y);refine oa (R:=λr=>Rf J M0 r (bV sk bs ah rs (aI l.length (ah++rs.map bT.col)) V Go 0 bs.length [] 0)) (vs:= #[o,.func (.yield lp) #[] #[]]) Y d Y Y (xW X W) Tryz.func25 S9 Y (RR au) (λr f=>?_) (λr v D f bj L bb=>?_) (λr br bm ⟨k,_⟩=>by cases k) (λr bm ⟨k,_⟩=>by cases k)
  ·have a5:=C.j4 _ _ _ r i (λb a=>f.at_ b (ar b a)) f.size;rw[<-S];exact HJ C ae q a5 (λt ao be=>hF t (λb a u _ g d am=>ao b (U9 a f.size) u g ((f.at_ b a).trans d) am) (Vm f.size be)) a9
  ·obtain⟨k,M,N,a6,b1,P⟩:=bj;cases k;generalize bV sk bs ah rs (aI l.length (ah++rs.map bT.col)) V Go 0 bs.length [] 0=p at*;have b3:=f.size;have E:∀b,b<w0.heap.size->¬M0 b->D.heap[b]? =w0.heap[b]? :=λb a u=>(a6 b (by omega) u).trans (f.at_ b a);have a3:=z.Jc (l2:=Ka cu p.2.1 p.2.2) (L4:=λc=>decide (c<13)) (n:=18) (v:=.tuple #[.int .i64 (p.2.1:Int),.int .i64 (p.2.2:Int)]) H d s.size Ei Y (λj i=>by
    have:j<7:=by simpa using i
    simp;omega) Y MN (λbt a1=>by cases a1;rfl)
   have aw:¬M cu:=λe=>(P cu e).elim R (λe=>by omega);refine Xe.go (own:=λb=>b<D.heap.size) ?_ (λb e=>e) bb;refine GK (n:=p.2.1) (e:=p.2.2) (n0:=n0) (e0:=e0) (qa:=o) s F (λb a=>a.elim YJ (λe=>e)) (by show xb<_;omega) (by show cu<_;omega) bk ((E xb B ba).trans x) Y ((E cu T R).trans hc) ad bl _ _ a3 a2 ?_ λb4 b5 w n=>?_
   ·obtain⟨_,_,a4,a7,_⟩:=mem_ready H;have:=rQ (by rw[z.size];exact a4) a7;omega
   ·intro bA U m bc;have bv:=w.size;have bx:=n.size;have bz:=m.size;have y:∀b,b<D.heap.size->b≠cu->U.heap[b]? =D.heap[b]? :=λb a A=>(m.at_ b a).trans ((n.at_ b (.inr a) A).trans (w.at_ b (.inr a) A));refine al _ U ⟨rfl,⟨M,C.j4 _ _ _ _ N (λb a=>y b (C.bound _ _ _ N b a) (λk=>aw (k▸a))) (by omega),λb a=>(P b a).imp (λe=>e) (λe=>by omega)⟩,λb a u A=>(y b (by omega) A).trans (E b a u),(m.at_ cu (by show cu<_;omega)).trans n.set,by omega⟩ bc ⟨?_,?_,?_,by omega⟩ (lm bi _)
    ·rw[m.tape,n.tape,w.tape,L.tape,f.tape]
    ·rw[m.os,n.os,w.os,L.os,f.os]
    ·rw[m.output,n.output,w.output,L.output,f.output]
 ·intro y;exact absurd (y 16 (by decide)) (by decide)
end
end Cc
namespace Cc
open Go Go.Conc
open Ec (aC az)
section
variable {P:Vb}{ops:Array Ww}{Q:Exit->Xa->F->Prop}{i:Nat}{rest:List Nat}{o:Ww}{a:Xa}{w w':F}{v:U}
def xL{rest:List Ww}(c:VA o (We ops a.tmps)=Z)(b:(Vw a.eval o).run P w= .ok (.value v) w')(h:wpList P ops Q rest (a.put o.dst v) w'):wpList P ops Q (o::rest) a w:=by
 simp only[wpList,c,if_true]
 left
 unfold Oper.wp;rw[b];exact h
def OZ{rest:List Ww}(c:VA o (We ops a.tmps)=Z)(b:(Vw a.eval o).run P w= .ok .skip w')(h:wpList P ops Q rest (a.put o.dst V9) w'):wpList P ops Q (o::rest) a w:=by
 simp only[wpList,c,if_true]
 left
 unfold Oper.wp;rw[b];exact h
def wP(h:wpList P ops Q ops.toList a w):wpOps P ops Q (VS ops.size) a w:=by
 rw[List.range_eq_range',<-WW,wpOps_eq_wpList ops.toList 0 (by simp)];exact h
def Fl{t e:Vc}{x:V4}{b:TypeInfo}{z:U}(j:o.op= .buildSlice t 1 #[(0,x)])(n:a.eval x=v)(m:v.cells=#[v])(l:P.underlying t=I (.slice e))(h:P.info? e=I b)(p:b.zero=I z)(r:z.cells.size=1)(c:b.size=1):(Vw a.eval o).run P w= .ok (.value (.slice (I ⟨w.heap.size,0,K⟩) 1 1)) (w.alloc (.cells #[v] e)):=by
 have g:YL (λf=>I (f*b.size,b.size)) ((Y3 (1*b.size)).map (z.cells[· % z.cells.size]!)) #[(0,v)].toList=I #[v]:=by
  rw[c];simp[YL,m,Y3,Array.zipIdx];apply Array.ext
  ·simp
  ·intro f q d;simp at d;subst d;simp
 have k:=run_buildSlice (P:=P) w t e 1 #[(0,v)] #[v] b z l h p (by rw[c];decide) (by rw[c];decide) g;unfold Vw;simp[j,n,k]
end
structure l7(l D rb:Nat)(r:Loop)(pre:List cg)(M:Nat->Prop)(W:F):Prop where
 st:r.state= .ready
 pn:r.pending=K
 hl:W.heap[l]? =I (.loop r)
 hD:W.heap[D]? =I (.deferred (I []))
 ex:∃(rv:U) (vs:List U),W.heap[rb]? =I (.cells #[rv] 27 (0,0))/\W.ownsRow 0 55 1 rv pre.length vs/\(∀(i:Nat) (x:cg),pre[i]? =I x->∃v,vs[i]? =I v/\v.oneCell'=Z/\W.ownsRow 0 54 3 v x.2.length (az x.2))/\(∀(i j:Nat) v u g,vs[i]? =I v->vs[j]? =I u->v.ownBlock=I g->u.ownBlock=I g->i=j)/\∀b,M b↔b=l\/b=D\/b=rb\/I b=rv.ownBlock\/∃v∈vs,I b=v.ownBlock
def L0:∃i,(ax U1).info? 55=I i/\i.zero=I aM/\i.size=1/\i.bytes=24:=⟨Tryz.t55,by kernel_rfl,rfl,rfl,rfl⟩
def H6:((ax U1).info? 27).map (·.size)=I 1:=by kernel_rfl
def ed (fn:XJ):Array Ww:=match fn.body with
 |some (.seq _ (.seq _ (.seq _ (.seq _ (.seq (.seq _ (.block _ (.rangeFunc _ _ _ (.block _ (.region _ ops _))))) _)))))=>ops
 |_=> #[]
def gO{v:U}{b:F}{base:Nat}{e:Vc}{c n:Nat}{d:List U}(h:b.ownsRow base e c v n d):v.cells=#[v]/\v.oneCell'=Z:=by
 rcases h.2 with⟨rfl,_⟩|⟨j,f,g,rfl,_⟩
 ·exact⟨rfl,rfl⟩
 ·exact⟨rfl,rfl⟩
def Oe{c:F}{a:Xa}{rb n:Nat}{f v:U}{vs:List U}{Q:Exit->Xa->F->Prop}(e:Knows a 40 [(14,v),(12,(aP rb))])(t:c.heap[rb]? =I (.cells #[f] 27 (0,0)))(H:c.ownsRow 0 55 1 f n vs)(ar:v.cells=#[v])(au:v.oneCell'=Z)(a2:n<=2000)
 (V:∀a' W' g,W'.heap[rb]? =I (.cells #[g] 27 (0,0))->W'.ownsRow 0 55 1 g (n+1) (vs++[v])->(∀b,b<c.heap.size->b≠rb->I b≠f.ownBlock->W'.heap[b]? =c.heap[b]?)->c.heap.size<=W'.heap.size->(∀b,I b=g.ownBlock->I b=f.ownBlock\/c.heap.size<=b)->Q .normal a' W'):wpOps (ax U1) (ed Xo) Q (VS (ed Xo).size) a c:=by
 obtain⟨aw,G,N,L,W⟩:=L0;have a1:rb<c.heap.size:=(U4.1 t).1;refine wP ?_;refine xL Y ((bP (S:=KL) (own:=λ_=>True) Y (e.of Y) (λw=>by simp) (.inr trivial) (gU t Y) c (RelB.refl _ _)).1) ?_;replace e:=e.put (d:=30) (by decide) f;refine xL Y ((bZ Y (e.of Y) c).1) ?_;replace e:=e.put (d:=31) (by decide) v;refine xL Y (Fl Y (e.of Y) ar av.underlying27 G N Y L) ?_;replace e:=e.put (d:=32) (by decide) (.slice (I ⟨c.heap.size,0,K⟩) 1 1);have A:∀d,d<c.heap.size->(c.alloc (.cells #[v] 55)).heap[d]? =c.heap[d]? :=λd j=>by
  show(c.heap.push _)[d]? =_;rw[VF,if_neg (by omega)]
 have ae:(c.alloc (.cells #[v] 55)).ownsRow 0 55 1 f n vs:=jU H (U7 _) λd _ _ j=>A d j;have aa:∀B r,[v][B]? =I r->(c.alloc (.cells #[v] 55)).cell? (Zl ⟨c.heap.size,0,K⟩ B)=I r:=λB r X=>by
  rw[YN];unfold Ve;have:(c.alloc (.cells #[v] 55)).heap[c.heap.size]? =I (.cells #[v] 55 (0,0)):=by
   show(c.heap.push _)[c.heap.size]? =_;simp
  simp only[this,VV];simpa using X
 have M:(c.alloc (.cells #[v] 55)).heap.size=c.heap.size+1:=by simp
 refine Pk.aZ (c.alloc (.cells #[v] 55)) Y _ _ 27 Y 0 55 aw aM 1 24 av.underlying27 G N L W Y (by decide) f n vs (e.of Y) ae ⟨c.heap.size,0,K⟩ 1 1 [v] (e.of Y) (by decide) Y aa (λr p=>by simp at p;rw[p];exact au) (by unfold Vp;omega) (by omega) (VB _) λg m z x=>?_;replace e:=e.put (d:=33) (by decide) g;have al:∀d,f.ownBlock=I d->d≠rb:=λd j l=>by
  rcases H.2 with⟨rfl,_⟩|⟨T,O,R,rfl,_,q,_⟩
  ·cases j
  ·cases j;subst l;rw[t] at q;cases q
 have E:∀b,b<c.heap.size->I b≠f.ownBlock->m.heap[b]? =c.heap[b]? :=λb k y=>by
  rcases x with⟨h,_⟩|⟨_,h⟩
  ·exact(h.block b (by omega) (by simp)).trans (A b k)
  ·exact(h.block b (by omega) y).trans (A b k)
 have a3:c.heap.size+1<=m.heap.size:=by
  rcases x with⟨h,_⟩|⟨_,h⟩
  ·rw[<-M];exact h.size
  ·rw[<-M];exact h.size
 have J:=(E rb a1 (λl=>al rb l.symm Y)).trans t;obtain⟨s,ad⟩:=gO z;obtain⟨C,ao,u,_⟩:=iy (P:=ax U1) (S:=KL) (own:=λ_=>True) (a:=((((a.put (I 30) f).put (I 31) v).put (I 32) (.slice (I ⟨c.heap.size,0,K⟩) 1 1)).put (I 33) g)) (o:=(ed Xo)[4]) (w:=m) (n:=rb) (off:=0) (v:=g) rfl (e.of rfl) (e.of rfl) (by rw[s];exact H6) (λr p=>by rw[s] at p;simp at p;rw[p];exact ad) (ZD trivial) J (by rw[s];exact U7 1) m (RelB.refl _ _);refine OZ Y ao ?_;have S:((#[f]:Array U).toList.take 0++g.cells.toList++(#[f]:Array U).toList.drop (0+g.cells.size)).toArray=#[g]:=by rw[s];rfl
 rw[S] at u;have a0:rb<m.heap.size:=by omega
 have D:∀b:Nat,b≠rb->C.heap[b]? =m.heap[b]? :=λb k=>by rw[u.heap,VE,if_neg (λl=>k l.symm)]
 have am:∀d,g.ownBlock=I d->d≠rb:=λd j l=>by
  rcases z.2 with⟨rfl,_⟩|⟨T,O,R,rfl,_,q,_⟩
  ·cases j
  ·cases j;subst l;rw[J] at q;cases q
 refine V _ C g (by rw[u.heap,VE,if_pos Y,if_pos a0]) (jU z (U7 _) λd j _ _=>D d (am d j)) (λb k y ab=>(D b y).trans (E b k ab)) (by rw[u.heap];simp;omega) λb k=>?_;rcases x with⟨_,h⟩|⟨h,_⟩
 ·exact .inr (by have:=(tU h k.symm).1;omega)
 ·exact .inl (by rw[<-h];exact k)
def fG (fn:XJ):Array Ww:=match fn.body with
 |some (.seq _ (.seq _ (.seq _ (.seq _ (.seq (.seq _ (.block _ (.rangeFunc _ _ (.region _ a _) _))) _)))))=>a
 |_=> #[]
structure q8(r:Loop)(rb:Nat):Prop where
 ps:r.params=#[28,29]
 Td:r.assign= .region 6 (fG Xo) U5
 bd:r.body= .block 1 (.region 7 (ed Xo) U5)
 sz:r.tmps.size=40
 kn:r.tmps.getD 12 V9=(aP rb)
def QB:((ed Xo).toList.all λo=> !rm o.op)=Z:=by kernel_rfl
def Od:((fG Xo).toList.all λo=> !rm o.op)=Z:=by kernel_rfl
def xU (l D rb:Nat)(r:Loop)(pre:List cg)(c:Nat->Prop)(b:F)(nm:Nat)(e:List aC)(v:U)(W':F):Prop:=
 ∃d,l7 l D rb r (pre++[(nm,e)]) d W'/\(∀a,a<b.heap.size->¬c a->I a≠v.ownBlock->W'.heap[a]? =b.heap[a]?)/\∀a,d a->c a\/I a=v.ownBlock\/b.heap.size<=a
def l7.sh{l D rb:Nat}{r:Loop}{pre:List cg}{a:Nat->Prop}{b:F}(h:l7 l D rb r pre a b){W':F}(e:W'.heap=b.heap):l7 l D rb r pre a W':=by
 obtain⟨i,j,k,m,w,x,n,o,p,q,s⟩:=h;refine⟨i,j,by rw[e];exact k,by rw[e];exact m,w,x,by rw[e];exact n,jU o (U7 _) (λg _ _ _=>by rw[e]),λu y t=>?_,q,s⟩;obtain⟨v,c,d,f⟩:=p u y t;exact⟨v,c,d,jU f (U7 _) (λg _ _ _=>by rw[e])⟩
def l7.keeps{l D rb:Nat}{r:Loop}{pre:List cg}{e:Nat->Prop}{g W':F}(h:l7 l D rb r pre e g)(d:∀b,e b->W'.heap[b]? =g.heap[b]?):l7 l D rb r pre e W':=by
 obtain⟨m,n,o,p,y,z,q,s,t,u,a⟩:=h;refine⟨m,n,(d l ((a l).2 (.inl Y))).trans o,(d D ((a D).2 (.inr (.inl Y)))).trans p,y,z,(d rb ((a rb).2 (.inr (.inr (.inl Y))))).trans q,jU s (U7 _) (λc f _ _=>d c ((a c).2 (.inr (.inr (.inr (.inl f.symm)))))),λx A w=>?_,u,a⟩;obtain⟨v,i,j,k⟩:=t x A w;exact⟨v,i,j,jU k (U7 _) (λc f _ _=>d c ((a c).2 (.inr (.inr (.inr (.inr ⟨v,Wv i,f.symm⟩))))))⟩
def Lr{l D rb:Nat}{r:Loop}{pre:List cg}{G:Nat->Prop}{c w B:F}{nm:Nat}{T:List aC}{v z:U}{vs:List U}{k:U}(h1:r.state= .ready)(a7:r.pending=K)(M:c.heap[l]? =I (.loop r))(n:c.heap[D]? =I (.deferred (I [])))(ae:c.heap[rb]? =I (.cells #[k] 27 (0,0)))(N:c.ownsRow 0 55 1 k pre.length vs)
 (a8:∀(i:Nat) (x:cg),pre[i]? =I x->∃v,vs[i]? =I v/\v.oneCell'=Z/\c.ownsRow 0 54 3 v x.2.length (az x.2)) (a9:∀(i j:Nat) v u g,vs[i]? =I v->vs[j]? =I u->v.ownBlock=I g->u.ownBlock=I g->i=j) (e:∀b,G b↔b=l\/b=D\/b=rb\/I b=k.ownBlock\/∃v∈vs,I b=v.ownBlock)
 (ar:c.ownsRow 0 54 3 v T.length (az T)) (ao:∀g,v.ownBlock=I g->¬G g)
 (a5:w.heap[rb]? =I (.cells #[z] 27 (0,0))) (g2:w.ownsRow 0 55 1 z (pre.length+1) (vs++[v])) (L:∀b,b<c.heap.size->b≠l->b≠rb->I b≠k.ownBlock->w.heap[b]? =c.heap[b]?) (bt:c.heap.size<=w.heap.size) (a6:∀b,I b=z.ownBlock->I b=k.ownBlock\/c.heap.size<=b) (ad:B.heap=w.heap.setIfInBounds l (.loop r)) (bj:l≠rb) (bx:∀g,k.ownBlock=I g->g≠l) (bk:∀g,z.ownBlock=I g->g≠l):xU l D rb r pre G c nm T v B:=by
 have bv:l<c.heap.size:=(U4.1 M).1;have ba:D<c.heap.size:=(U4.1 n).1;have A:∀b:Nat,b≠l->B.heap[b]? =w.heap[b]? :=λb f=>by rw[ad,VE,if_neg (λa=>f a.symm)]
 have aa:D≠l:=λa=>by rw[a,M] at n;cases n
 have a3:D≠rb:=λa=>by rw[a,ae] at n;cases n
 have a4:I D≠k.ownBlock:=λa=>by
  rcases N.2 with⟨rfl,_⟩|⟨ab,a1,a2,rfl,_,h,_⟩
  ·cases a
  ·cases a;rw[n] at h;cases h
 have bl:∀u s t,c.ownsRow 0 54 3 u s t->∀g,u.ownBlock=I g->g<c.heap.size/\g≠l/\g≠rb/\I g≠k.ownBlock:=λu s t d g y=>by
  rcases d.2 with⟨rfl,_⟩|⟨ab,a1,a2,rfl,_,h,_⟩
  ·cases y
  ·have O:g=ab:=(by cases y;rfl);subst O;refine⟨(U4.1 h).1,(λa=>by rw[a,M] at h;cases h),(λa=>by rw[a,ae] at h;cases h),λa=>?_⟩;rcases N.2 with⟨rfl,_⟩|⟨g2,bm,bo,rfl,_,bb,_⟩
   ·cases a
   ·have O:g=g2:=(by cases a;rfl);subst O;rw[bb] at h;cases h
 have aw:∀u s t,c.ownsRow 0 54 3 u s t->B.ownsRow 0 54 3 u s t:=λu s t d=>jU d (U7 _) λg y _ _=>by
  obtain⟨H,C,J,a0⟩:=bl u s t d g y;exact(A g C).trans (L g H C J a0)
 have bi:vs.length=pre.length:=by have:=N.1;simpa using this
 refine⟨λb=>b=l\/b=D\/b=rb\/I b=z.ownBlock\/∃u∈vs++[v],I b=u.ownBlock,⟨h1,a7,by rw[ad,VE,if_pos Y,if_pos (by omega)],(A D aa).trans ((L D ba aa a3 a4).trans n),z,vs++[v],(A rb (λa=>bj a.symm)).trans a5,?_,λi x p=>?_,λi j u V g d be S R=>?_,λb=>Iff.rfl⟩,λb f Q bu=>?_,λb f=>?_⟩
 ·rw[U8];exact jU g2 (U7 _) λg y _ _=>A g (bk g y)
 ·rcases WG i pre.length with P|P
  ·rw[Wx P] at p;obtain⟨u,H,C,J⟩:=a8 i x p;exact⟨u,by rw[Wx (by omega)];exact H,C,aw u _ _ J⟩
  ·rw[Wb P] at p;have al:i-pre.length=0:=by
    have:=(Vs.1 p).1;simp at this;omega
   rw[al] at p;simp at p;subst p;refine⟨v,?_,(gO ar).2,aw v _ _ ar⟩;rw[Wb (by omega),bi,al];rfl
 ·have au:∀(q:Nat) E,(vs++[v])[q]? =I E->(q<vs.length/\vs[q]? =I E)\/(q=vs.length/\E=v):=λq E o=>by
   rcases WG q vs.length with m|m
   ·rw[Wx m] at o;exact .inl ⟨m,o⟩
   ·rw[Wb m] at o;have:q-vs.length=0:=by
     have:=(Vs.1 o).1;simp at this;omega
    rw[this] at o;simp at o;exact .inr ⟨by omega,o.symm⟩
  rcases au i u d with⟨_,W⟩|⟨br,rfl⟩<;>rcases au j V be with⟨_,X⟩|⟨bs,rfl⟩
  ·exact a9 i j u V g W X S R
  ·exact absurd ((e g).2 (.inr (.inr (.inr (.inr ⟨u,Wv W,S.symm⟩))))) (ao g R)
  ·exact absurd ((e g).2 (.inr (.inr (.inr (.inr ⟨V,Wv X,R.symm⟩))))) (ao g S)
  ·omega
 ·have am:b≠l:=λa=>Q ((e b).2 (.inl a));have bc:b≠rb:=λa=>Q ((e b).2 (.inr (.inr (.inl a))));have bd:I b≠k.ownBlock:=λa=>Q ((e b).2 (.inr (.inr (.inr (.inl a)))));exact(A b am).trans (L b f am bc bd)
 ·rcases f with rfl|rfl|rfl|f|⟨u,d,f⟩
  ·exact .inl ((e _).2 (.inl Y))
  ·exact .inl ((e _).2 (.inr (.inl Y)))
  ·exact .inl ((e _).2 (.inr (.inr (.inl Y))))
  ·rcases a6 b f with m|m
   ·exact .inl ((e b).2 (.inr (.inr (.inr (.inl m)))))
   ·exact .inr (.inr m)
  ·rcases VM.1 d with d|d
   ·exact .inl ((e b).2 (.inr (.inr (.inr (.inr ⟨u,d,f⟩)))))
   ·simp at d;subst d;exact .inr (.inl f)
def Lq{l D rb:Nat}{r:Loop}{pre:List cg}{B:Nat->Prop}{d:F}{nm:Nat}{Q:List aC}{v:U}(p:q8 r rb)(a0:l7 l D rb r pre B d)(br:pre.length<2000)(O:d.ownsRow 0 54 3 v Q.length (az Q))(a6:∀g,v.ownBlock=I g->¬B g)(c:Vg)(cs:List Vg)(h:Tp):
 ∃W',xU l D rb r pre B d nm Q v W'/\Steps (ax U1) (lone (Xt l r.fn ((r.params.zip #[.int .i64 (nm:Int),v]).foldl (λtmps (t,a)=>tmps.setIfInBounds t a) r.tmps) r.assign r.body .normal) (c::cs) (sh h 0 d)) (lone (c.finish (.bool Z)) cs W'):=by
 obtain⟨x,J,m,ao,R,ad,L,M,ar,au,aw⟩:=a0;let b:Vg:={(default:Vg) with fn:=r.fn,kind:=.normal,roundOf:=I l};let q:Xa:={tmps:=(r.params.zip #[.int .i64 (nm:Int),v]).foldl (λtmps (t,a)=>tmps.setIfInBounds t a) r.tmps,defers:=[]};have a1:Xt l r.fn ((r.params.zip #[.int .i64 (nm:Int),v]).foldl (λtmps (t,a)=>tmps.setIfInBounds t a) r.tmps) r.assign r.body .normal=b.atR q [.code r.assign,.beginRound,.code r.body]:=by
  simp[Xt,Frame.atR,b,q]
 have P:l≠rb:=λe=>by rw[e,L] at m;cases m
 have a4:l<d.heap.size:=(U4.1 m).1;have y:∀g,R.ownBlock=I g->g≠l:=λg o e=>by
  rcases M.2 with⟨rfl,_⟩|⟨al,bm,bo,rfl,_,V,_⟩
  ·cases o
  ·have a3:g=al:=(by cases o;rfl);subst a3;rw[e,m] at V;cases V
 have z:Knows q 40 [(29,v),(12,(aP rb))]:=by
  have e:q.tmps=(r.tmps.setIfInBounds 28 (.int .i64 (nm:Int))).setIfInBounds 29 v:=by
   show(r.params.zip #[.int .i64 (nm:Int),v]).foldl (λtmps (t,a)=>tmps.setIfInBounds t a) r.tmps=_;rw[p.ps];simp
  refine Knows.cons (Knows.cons (l:=[]) ⟨?_,λs v f=>by simp at f⟩ ?_) ?_
  ·rw[e];simp[p.sz]
  ·unfold aS;rw[e,Vt,VE,if_neg (by decide),VE,if_neg (by decide),<-Vt];exact p.kn
  ·unfold aS;rw[e,Vt,VE,if_pos Y,if_pos (by simp[p.sz])];rfl
 rw[a1,p.Td,p.bd];generalize q=a at z;have ba:=stepR_region (P:=ax U1) (b:=b) (a:=a) (k:=[.beginRound,.code (.block 1 (.region 7 (ed Xo) U5))]) (cs:=c::cs) (w:=sh h 0 d) (ops:=fG Xo) (id:=6);obtain⟨bl,bs,⟨rfl,rfl⟩,X⟩:=NE (P0:=ax U1) (b:=b) (k:=[.beginRound,.code (.block 1 (.region 7 (ed Xo) U5))]) (cs:=c::cs) (ops:=fG Xo) (Q:=λe C bj=>match e with| .normal=>C=a.put (I 14) v/\bj=sh h 0 d|_=>False) [] Od (λ_ _ _ f=>f) (fun⟨_,_,f⟩=>f) (VS (fG Xo).size) a (sh h 0 d) (wP (xL rfl ((kH rfl (z.of rfl) (sh h 0 d)).1) ⟨rfl,rfl⟩));rw[WM] at X;have bb:=stepR_region_end (P:=ax U1) (b:=b) (a:=a.put (I 14) v) (k:=[.beginRound,.code (.block 1 (.region 7 (ed Xo) U5))]) (cs:=c::cs) (w:=sh h 0 d) (ops:=fG Xo);have n:=run_beginRound (P:=ax U1) (w:=sh h 0 d) (l:=l) (r:=r) m x;have aa:=stepR_beginRound (P:=ax U1) (b:=b) (a:=a.put (I 14) v) (k:=[.code (.block 1 (.region 7 (ed Xo) U5))]) (cs:=c::cs) (w:=sh h 0 d) Y n;generalize N:(sh h 0 d).putObj l (.loop {r with state:=.busy})=i at aa;have S:∀b:Nat,b≠l->i.heap[b]? =d.heap[b]? :=λb n=>by rw[<-N];exact Ya (w:=sh h 0 d) n
 have bk:i.heap[l]? =I (.loop {r with state:=.busy}):=by rw[<-N];exact World.putObj_heap_same (w:=sh h 0 d) a4
 have bt:i.heap.size=d.heap.size:=by rw[<-N];exact World.putObj_size (w:=sh h 0 d)
 have bc:=stepR_block (P:=ax U1) (b:=b) (a:=a.put (I 14) v) (k:=[]) (cs:=c::cs) (w:=i) (id:=1) (c:=.region 7 (ed Xo) U5);have bd:=stepR_region (P:=ax U1) (b:=b) (a:=a.put (I 14) v) (k:=[.inBlock 1]) (cs:=c::cs) (w:=i) (ops:=ed Xo) (id:=7);have A:=z.put (d:=14) (by decide) v;obtain⟨E,k,⟨j,G,H,u,T,w⟩,ab⟩:=NE (P0:=ax U1) (b:=b) (k:=[.inBlock 1]) (cs:=c::cs) (ops:=ed Xo) (Q:=λe C W'=>match e with| .normal=>∃j,W'.heap[rb]? =I (.cells #[j] 27 (0,0))/\W'.ownsRow 0 55 1 j (pre.length+1) (ad++[v])/\(∀b,b<i.heap.size->b≠rb->I b≠R.ownBlock->W'.heap[b]? =i.heap[b]?)/\i.heap.size<=W'.heap.size/\(∀b,I b=j.ownBlock->I b=R.ownBlock\/i.heap.size<=b)|_=>False) [] QB (λ_ _ _ f=>f) (fun⟨_,_,f⟩=>f) (VS (ed Xo).size) (a.put (I 14) v) i (Oe (n:=pre.length) (vs:=ad) ((A.nil.cons (A.slot 12 _ rfl)).cons (A.slot 14 _ rfl)) ((S rb (λe=>P e.symm)).trans L) (jU M (U7 _) λg o _ _=>S g (y g o)) (gO O).1 (gO O).2 (by omega) λC W' j G H u T w=>⟨j,G,H,u,T,w⟩);rw[WM] at ab;have a9:∀g,j.ownBlock=I g->g≠l:=λg o e=>by
  rcases w g o.symm with f|f
  ·exact y g f.symm e
  ·omega
 have am:k.heap[l]? =I (.loop {r with state:=.busy}):=(u l (by omega) P (λe=>y l e.symm Y)).trans bk;have be:=stepR_region_end (P:=ax U1) (b:=b) (a:=E) (k:=[.inBlock 1]) (cs:=c::cs) (w:=k) (ops:=ed Xo);have bi:=stepR_inBlock (P:=ax U1) (b:=b) (a:=E) (k:=[]) (cs:=c::cs) (w:=k) (id:=1);have a2:=run_endRound (P:=ax U1) (w:=k) (l:=l) (r:={r with state:=.busy}) K am;have W:=stepR_round_end (P:=ax U1) (b:=b) (a:=E) (cs:=cs) (w:=k) (c:=c) Y Y a2;have ae:({({r with state:=.busy}:Loop) with state:=if (K:Option XQ).isNone then .ready else .done,pending:=K}:Loop)=r:=by
  obtain⟨bu,bv,bx,bz,bA,bB,b0,b1⟩:=r;simp only at x J;subst x J;rfl
 rw[ae] at W;refine⟨k.putObj l (.loop r),Lr x J m ao L M ar au aw O a6 G H (λb n a5 a7 a8=>(u b (by omega) a7 a8).trans (S b a5)) (by omega) (λb n=>(w b n).imp (λf=>f) (λf=>by omega)) Y P y a9,?_⟩;exact .head ba (X.trans (.head bb (.head aa (.head bc (.head bd (ab.trans (.head be (.head bi (.one W)))))))))
def BQ:aX (ax U1) Z (.region 6 (fG Xo) U5)=Z/\aX (ax U1) Z (.block 1 (.region 7 (ed Xo) U5))=Z:=⟨by kernel_rfl,by kernel_rfl⟩
def zI{r:Loop}{rb:Nat}(b:q8 r rb)(c:r.pending=K):bf (ax U1) (.loop r):=⟨by rw[b.Td];exact BQ.1,by rw[b.bd];exact BQ.2,λd a=>by rw[c] at a;cases a⟩
def xG{P0:Vb}{ws w:F}{base:Nat}{e:Vc}{b:Nat}{v:U}{n:Nat}{c:List U}(l:Mk P0 ws w)(h:w.ownsRow base e b v n c):ws.ownsRow base e b v n c:=by
 obtain⟨a,h|⟨g,d,f,rfl,i,j,k⟩⟩:=h
 ·exact⟨a,.inl h⟩
 ·exact⟨a,.inr ⟨g,d,f,rfl,i,l.un.row.2 j,k⟩⟩
def l7.G5{l D rb:Nat}{r:Loop}{pre:List cg}{b:Nat->Prop}{c ws:F}(h:l7 l D rb r pre b c)(t:q8 r rb)(a:Mk (ax U1) ws c):l7 l D rb r pre b ws:=by
 obtain⟨i,d,j,k,x,y,m,n,o,p,q⟩:=h;refine⟨i,d,a.at_ l _ j (zI t d),a.at_ D _ k (λA s=>by cases s),x,y,a.un.row.2 m,xG a n,λw z u=>?_,p,q⟩;obtain⟨v,e,f,g⟩:=o w z u;exact⟨v,e,f,xG a g⟩
def l7.IG{l D rb:Nat}{r:Loop}{pre:List cg}{b:Nat->Prop}{c u:F}(h:l7 l D rb r pre b c)(z:q8 r rb)(a:Un c u):l7 l D rb r pre b u:=by
 obtain⟨g,i,j,k,w,x,m,n,o,p,q⟩:=h;refine⟨g,i,a.o j (by simp[pz]),a.o k (by simp[pz]),w,x,a.row.1 m,CO a n,λt y s=>?_,p,q⟩;obtain⟨v,d,e,f⟩:=o t y s;exact⟨v,d,e,CO a f⟩
def Lp{Post:U->F->Prop}{l D rb:Nat}{r:Loop}(e:q8 r rb):Cons (ax U1) U1 Post l (l7 l D rb r) (λ_=>Z):=by
 refine⟨λpre h f q j m _=>j.keeps m,λpre h f j c a=>?_,λpre h f A ao v k _ T _ _ ae V=>?_⟩
 ·obtain⟨w,d,H,I,a7,ar,J,x,K,a1,L⟩:=j;have a4:ar.length=pre.length:=by have:=x.1;simpa using this
  rcases(L c).1 a with rfl|rfl|rfl|a|⟨a9,ad,a⟩
  ·exact(U4.1 H).1
  ·exact(U4.1 I).1
  ·exact(U4.1 J).1
  ·exact(tU x a.symm).2
  ·obtain⟨p,R,rfl⟩:=List.mem_iff_getElem.1 ad;obtain⟨ba,t,_,G⟩:=K p pre[p] (Vf (by omega));rw[Vf R] at t;cases t;exact(tU G a.symm).2
 ·refine⟨r,k.hl,zI e k.pn,by rw[e.ps];rfl,λi au a2 X a3 O ab=>?_⟩;obtain⟨B,b⟩:=Bw (ax U1) f;have N:=k.G5 e b;have al:=xG b ae;refine qH (aB:=[i]) bI (Stop:=λu aB g=>aB=[]/\u=i.finish (.bool Z)/\xU l D rb r pre h B A ao v g) (λu aB g n=>?_) ab b.hp b.un (λC=>?_) (λa0 a8 g u2 n W d aa=>?_)
  ·obtain⟨_,rfl,_⟩:=n;rintro⟨_,s,z⟩;rcases X.2 with⟨a5,p,a6,am,o⟩|⟨l,am,o⟩
   ·simp[WJ,o] at z
   ·simp[WJ,o] at z
  ·obtain⟨q,w,d⟩:=Lq (nm:=A) e N T al V i [bn] C;exact⟨_,[],q,d,rfl,rfl,w⟩
  ·obtain⟨C,aw,rfl,rfl,E,M,S,Q⟩:=n;have y:B.heap.size=f.heap.size:=b.un.size.symm;refine O _ u2 ⟨rfl,E,(M.sh (W':=g) Y).IG e d.un,λc a m P=>d.same b.un (S c (by rw[y];exact a) m P),λc a=>?_⟩ trivial aa W;rw[<-y];exact Q c a
end Cc
namespace Ec
open Go.RowKit Pk Pm
def cU (n:Nat)(k:Int):Bool:=decide (0<=k)&&decide (k<(n:Int))
def jy{h:F}{g:Nat}{a b c d e f:U}{t:Vc}(i:h.heap[g]? =I (.cells #[a,b,c,d,e,f] t (0,0))):h.cell? ⟨g,0,K⟩=I a/\h.cell? ⟨g,1,K⟩=I b/\h.cell? ⟨g,2,K⟩=I c/\h.cell? ⟨g,3,K⟩=I d/\h.cell? ⟨g,4,K⟩=I e/\h.cell? ⟨g,5,K⟩=I f:=by
 unfold Ve;simp[i]
def yI(n:Nat)(ah:List Int)(rs:List bT)(o:Option VI)(m:Nat)(b c:U)(co:Option VI)(cb bH aG:Nat)(ro:Option VI)(rb bF aK:Nat)(sk:Bool)(w:F)(a3:ah.length<=Vp)(a4:rs.length<=Vp)
 (ar:0<ah.length->co=I ⟨cb,bH,K⟩) (a0:0<ah.length->cb<w.heap.size) (aw:∀j,j<ah.length->cD w cb (bH+j) (.int .i64 (ah.getD j 0))) (l:dK w ro rb bF rs):
 bK 27 #[qv (.slice o n m) b c (.slice co ah.length aG) (.slice ro rs.length aK) sk] w λe w'=>∃bb,e= .returned (.bool bb)/\(bb=Z↔(∀i (h:i<ah.length),cU n ah[i]=Z)/\∀i (h:i<rs.length),cU n rs[i].col=Z)/\aQ w w':=by
 unfold qv;unfold Vp at a3 a4;have B:=λa am=>AI o n m b c (.slice co ah.length aG) (.slice ro rs.length aK) sk a am;unfold qv at B;have Y:=af ar;have ab:=af a0;have aa:=af aw;have al:=af l;have V:X (aQ w (w.alloc (.cells #[.slice o n m,b,c,.slice co ah.length aG,.slice ro rs.length aK,.bool sk] 68))):=(Vi _ _).alloc (U7 _) _;have r:X ((w.alloc (.cells #[.slice o n m,b,c,.slice co ah.length aG,.slice ro rs.length aK,.bool sk] 68)).heap[w.heap.size]? =I (.cells #[.slice o n m,b,c,.slice co ah.length aG,.slice ro rs.length aK,.bool sk] 68 (0,0))):=jw _ _;go_enter av.func27,Tryz.ntmps27
 go_wp2_with fail
 go_loopw [10] (λi wr=>∃a:Nat,a<=ah.length/\i= .int .i64 (a:Int)/\(∀i (h:i<ah.length),i<a->cU n ah[i]=Z)/\wr.heap[w.heap.size]? =I (.cells #[.slice o n m,b,c,.slice co ah.length aG,.slice ro rs.length aK,.bool sk] 68 (0,0))/\aQ w wr) (λi _=>ah.length-(V3 i).toNat)
 case atStart=>exact⟨0,VB _,rfl,λbd _ h=>by omega,r.o,V.o⟩
 case round=>
  obtain⟨a,a2,rfl,J,z,u⟩:=hrel;have v:=af u;have r:=af z;have x:=af J;have A:=u.size;obtain⟨be,bi,bj,bk,bl,bm⟩:=jy z;by_cases N:a<ah.length
  ·obtain rfl:=Y.o (by omega);have au:=ab.o (by omega);have S:cD wr cb (bH+a) (.int .i64 (ah.getD a 0)):=(u.cell (p:=⟨cb,bH+a,K⟩) au).trans (aa.o a N);have a1:ah.getD a 0=ah[a]:=by rw[Vk,Vf N];rfl
   rw[a1] at S;have D:X (cU n ah[a]=U5->¬((∀i (h:i<ah.length),cU n ah[i]=Z)/\∀i (h:i<rs.length),cU n rs[i].col=Z)):=λh L=>by
    have:=L.1 a N;rw[h] at this;cases this
   have G:X (cU n ah[a]=Z->∀i (h:i<ah.length),i<a+1->cU n ah[i]=Z):=λh i M ao=>by
    by_cases e:i=a
    ·subst e;exact h
    ·exact x.o i M (by omega)
   generalize ah[a]=d at*;have k:=B d;have O:cU n d=(decide (0<=d)&&decide (d<(n:Int))):=rfl;rw[<-O] at k;cases p:cU n d
   ·rw[p] at k;have E:X (¬((∀i (h:i<ah.length),cU n ah[i]=Z)/\∀i (h:i<rs.length),cU n rs[i].col=Z)):=D.o p
    go_wp2_with (go_at_call 47;refine(k _).mono ?_;rintro e w' ⟨rfl,q⟩;have t:X (aQ w w'):=v.o.trans (q.mono A))
    go_ret;exact⟨U5,rfl,by simp only[Vv,false_iff];exact E.o,t.o⟩
   ·rw[p] at k;have H:X (∀i (h:i<ah.length),i<a+1->cU n ah[i]=Z):=G.o p
    go_wp2_with (go_at_call 47;refine(k _).mono ?_;rintro e w' ⟨rfl,q⟩;have t:X (aQ w w'):=v.o.trans (q.mono A);have y:X (w'.heap[w.heap.size]? =I (.cells #[.slice o n m,b,c,.slice (I ⟨cb,bH,K⟩) ah.length aG,.slice ro rs.length aK,.bool sk] 68 (0,0))):=(q.block _ (Va r.o)).trans r.o)
    go_roundw
    case rel=>exact⟨a+1,by omega,by go_num,H.o,y.o,t.o⟩
    case measure=>simp[V3];omega
  ·have ad:X (∀i (h:i<ah.length),cU n ah[i]=Z):=λi h=>x.o i h (by omega)
   go_wp2_with fail
   go_loopw [22] (λi T=>∃a:Nat,a<=rs.length/\i= .int .i64 (a:Int)/\(∀i (h:i<rs.length),i<a->cU n rs[i].col=Z)/\T.heap[w.heap.size]? =I (.cells #[.slice o n m,b,c,.slice co ah.length aG,.slice ro rs.length aK,.bool sk] 68 (0,0))/\aQ w T) (λi _=>rs.length-(V3 i).toNat)
   case atStart=>exact⟨0,VB _,rfl,λbd _ h=>by omega,r.o,v.o⟩
   case round=>
    obtain⟨a,a2,rfl,J,z,u⟩:=hrel;have v:=af u;have r:=af z;have x:=af J;have A:=u.size;by_cases s:a<rs.length
    ·have l:=al.o.below u;obtain rfl:=l.addr (by omega);have a5:=l.c0 a s;have a6:=l.c1 a s;have a7:=l.c2 a s;have a8:=l.c3 a s;have a9:=l.c4 a s;have ba:=l.c5 a s;have bc:=l.c6 a s;have D:X (cU n rs[a].col=U5->¬((∀i (h:i<ah.length),cU n ah[i]=Z)/\∀i (h:i<rs.length),cU n rs[i].col=Z)):=λh L=>by
      have:=L.2 a s;rw[h] at this;cases this
     have G:X (cU n rs[a].col=Z->∀i (h:i<rs.length),i<a+1->cU n rs[i].col=Z):=λh i M ao=>by
      by_cases e:i=a
      ·subst e;exact h
      ·exact x.o i M (by omega)
     generalize rs[a]=bo at*;obtain⟨d,g,f⟩:=bo;dsimp only at a5 a6 a7 a8 a9 ba bc
     go_upto_region 10 with fail
     obtain⟨S,bt,bu,bv,bx,bz,bA⟩:=kM (jw wr (.cells #[.int .i64 d,.bool g.null,.int .i64 g.n,.string g.s,.bool f.null,.int .i64 f.n,.string f.s] 122));have P:aQ wr (wr.alloc (.cells #[.int .i64 d,.bool g.null,.int .i64 g.n,.string g.s,.bool f.null,.int .i64 f.n,.string f.s] 122)):=(Vi _ _).alloc (U7 _) _;have Q:=(P.block _ (Va r.o)).trans r.o;obtain⟨be,bi,bj,bk,bl,bm⟩:=jy Q;have y:=af Q;have C:X (aQ w (wr.alloc (.cells #[.int .i64 d,.bool g.null,.int .i64 g.n,.string g.s,.bool f.null,.int .i64 f.n,.string f.s] 122))):=v.o.trans (P.mono A);generalize wr.alloc (.cells #[.int .i64 d,.bool g.null,.int .i64 g.n,.string g.s,.bool f.null,.int .i64 f.n,.string f.s] 122)=br at*;generalize wr.heap.size=bs at*;have k:=B d;have O:cU n d=(decide (0<=d)&&decide (d<(n:Int))):=rfl;rw[<-O] at k;have R:=C.o.size;cases p:cU n d
     ·rw[p] at k;have E:X (¬((∀i (h:i<ah.length),cU n ah[i]=Z)/\∀i (h:i<rs.length),cU n rs[i].col=Z)):=D.o p
      go_wp2_with (go_at_call 47;refine(k _).mono ?_;rintro e w' ⟨rfl,q⟩;have t:X (aQ w w'):=C.o.trans (q.mono R))
      go_ret;exact⟨U5,rfl,by simp only[Vv,false_iff];exact E.o,t.o⟩
     ·rw[p] at k;have H:X (∀i (h:i<rs.length),i<a+1->cU n rs[i].col=Z):=G.o p
      go_wp2_with (go_at_call 47;refine(k _).mono ?_;rintro e w' ⟨rfl,q⟩;have t:X (aQ w w'):=C.o.trans (q.mono R);have W:X (w'.heap[w.heap.size]? =I (.cells #[.slice o n m,b,c,.slice co ah.length aG,.slice (I ⟨rb,bF,K⟩) rs.length aK,.bool sk] 68 (0,0))):=(q.block _ (Va y.o)).trans y.o)
      go_roundw
      case rel=>exact⟨a+1,by omega,by go_num,H.o,W.o,t.o⟩
      case measure=>simp[V3];omega
    ·have ae:X ((∀i (h:i<ah.length),cU n ah[i]=Z)/\∀i (h:i<rs.length),cU n rs[i].col=Z):=⟨ad.o,λi h=>x.o i h (by omega)⟩;go_wp2;go_ret;exact⟨Z,rfl,by simp only[true_iff];exact ae.o,v.o⟩
structure IZ(w:F)(kb n:Nat)(c k:Int):Prop where
 ex:∃j:Nat,c=(j:Int)/\j<n/\kb<w.heap.size/\w.cell? ⟨kb,j*2+1,K⟩=I (.int .i64 k)/\(k=1\/k=2\/k=3)
def IZ.below{w w':F}{a n:Nat}{c k:Int}(h:IZ w a n c k)(b:aQ w w'):IZ w' a n c k:=by
 obtain⟨d,e,f,g,i,j⟩:=h.ex;have l:=b.size;exact⟨d,e,f,by omega,(b.cell (p:=⟨a,d*2+1,K⟩) g).trans i,j⟩
def kK (a:Int)(r:bT):Bool:=gD r.low a&&gD r.high a
def AK(n:Nat)(rs:List bT)(l:Int->Int)(m p:Nat)(b c d:U)(ro:Option VI)(rb bF aK:Nat)(sk:Bool)(w:F)(bl:rs.length<=Vp)(bm:n<=Vp)(k:dK w ro rb bF rs)(aw:∀r∈rs,IZ w m n r.col (l r.col)):
 bK 28 #[qv (.slice (I ⟨m,0,K⟩) n p) b c d (.slice ro rs.length aK) sk] w λe w'=>∃bb,e= .returned (.bool bb)/\(bb=Z↔∀i (h:i<rs.length),kK (l rs[i].col) rs[i]=Z)/\aQ w w':=by
 unfold qv;unfold Vp at bl bm;have T:=af k;have S:=af aw;have ae:X (aQ w (w.alloc (.cells #[.slice (I ⟨m,0,K⟩) n p,b,c,d,.slice ro rs.length aK,.bool sk] 68))):=(Vi _ _).alloc (U7 _) _;have v:X ((w.alloc (.cells #[.slice (I ⟨m,0,K⟩) n p,b,c,d,.slice ro rs.length aK,.bool sk] 68)).heap[w.heap.size]? =I (.cells #[.slice (I ⟨m,0,K⟩) n p,b,c,d,.slice ro rs.length aK,.bool sk] 68 (0,0))):=jw _ _;clear k aw;go_enter av.func28,Tryz.ntmps28
 go_wp2_with fail
 go_loopw [9] (λi wr=>∃a:Nat,a<=rs.length/\i= .int .i64 (a:Int)/\(∀i (h:i<rs.length),i<a->kK (l rs[i].col) rs[i]=Z)/\wr.heap[w.heap.size]? =I (.cells #[.slice (I ⟨m,0,K⟩) n p,b,c,d,.slice ro rs.length aK,.bool sk] 68 (0,0))/\aQ w wr) (λi _=>rs.length-(V3 i).toNat)
 case atStart=>exact⟨0,VB _,rfl,λb2 _ h=>by omega,v.o,ae.o⟩
 case round=>
  clear v ae;obtain⟨a,bz,rfl,au,aa,A⟩:=hrel;have Q:=af A;have v:=af aa;have J:=af au;have a0:=A.size;clear au;by_cases q:a<rs.length
  ·have k:=T.o.below A;obtain rfl:=k.addr (by omega);have a1:=k.c0 a q;have a2:=k.c1 a q;have a3:=k.c2 a q;have a4:=k.c3 a q;have a5:=k.c4 a q;have a6:=k.c5 a q;have a7:=k.c6 a q;obtain⟨s,am,bi,ao,ar,Y⟩:=((S.o rs[a] (Vn q)).below A).ex;have E:X (kK (l rs[a].col) rs[a]=U5->¬∀i (h:i<rs.length),kK (l rs[i].col) rs[i]=Z):=λh bj=>by
    have:=bj a q;rw[h] at this;cases this
   have N:X (kK (l rs[a].col) rs[a]=Z->∀i (h:i<rs.length),i<a+1->kK (l rs[i].col) rs[i]=Z):=λh i bk bv=>by
    by_cases e:i=a
    ·subst e;exact h
    ·exact J.o i bk (by omega)
   clear A k J T S aa;generalize rs[a]=bc at*;generalize l bc.col=y at*;obtain⟨ca,g,f⟩:=bc;dsimp only at am a1 a2 a3 a4 a5 a6 a7;subst am
   go_upto_region 4 with fail
   obtain⟨bA,bB,b0,b1,a8,a9,ba⟩:=kM (jw wr (.cells #[.int .i64 (s:Int),.bool g.null,.int .i64 g.n,.string g.s,.bool f.null,.int .i64 f.n,.string f.s] 122));have O:aQ wr (wr.alloc (.cells #[.int .i64 (s:Int),.bool g.null,.int .i64 g.n,.string g.s,.bool f.null,.int .i64 f.n,.string f.s] 122)):=(Vi _ _).alloc (U7 _) _;have bu:=(O.cell (p:=⟨m,s*2+1,K⟩) ao).trans ar;have ab:=(O.block _ (Va v.o)).trans v.o;obtain⟨b3,b4,b5,b6,b7,b8⟩:=jy ab;have M:=af ab;have L:X (aQ w (wr.alloc (.cells #[.int .i64 (s:Int),.bool g.null,.int .i64 g.n,.string g.s,.bool f.null,.int .i64 f.n,.string f.s] 122))):=Q.o.trans (O.mono a0);have B:wr.heap.size<(wr.alloc (.cells #[.int .i64 (s:Int),.bool g.null,.int .i64 g.n,.string g.s,.bool f.null,.int .i64 f.n,.string f.s] 122)).heap.size:=by simp
   clear O a1 a2 a3 a4 a5 a6 a7 ab v Q a0 ao ar;generalize wr.alloc (.cells #[.int .i64 (s:Int),.bool g.null,.int .i64 g.n,.string g.s,.bool f.null,.int .i64 f.n,.string f.s] 122)=bt at*;generalize wr.heap.size=z at*;have bx:(s:Int)<(n:Int):=by omega
   have t:=λW=>ru g y W Y;have C:=λW=>ru f y W Y;have o:kK y ⟨(s:Int),g,f⟩=(gD g y&&gD f y):=rfl;have ad:=L.o.size;clear Y bi;cases G:gD g y
   ·rw[G] at t o;have V:X (¬∀i (h:i<rs.length),kK (l rs[i].col) rs[i]=Z):=E.o o;clear E N o G C
    go_wp2_with (go_at_call 48;refine(t _).mono ?_;rintro e w' ⟨rfl,j⟩;have u:X (aQ w w'):=L.o.trans (j.mono ad);clear j)
    go_ret;exact⟨U5,rfl,by simp only[Vv,false_iff];exact V.o,u.o⟩
   ·rw[G] at t o;cases P:gD f y
    ·rw[P] at C o;have V:X (¬∀i (h:i<rs.length),kK (l rs[i].col) rs[i]=Z):=E.o o;clear E N o G P
     go_wp2_with (first|(go_at_call 48;refine(t _).mono ?_;rintro e w' ⟨rfl,j⟩;have u:X (aQ w w'):=L.o.trans (j.mono ad);have bo:=(j.cell (p:=⟨z,4,K⟩) B).trans a8;have br:=(j.cell (p:=⟨z,5,K⟩) B).trans a9;have bs:=(j.cell (p:=⟨z,6,K⟩) B).trans ba;have D:X (w'.heap[w.heap.size]? =I (.cells #[.slice (I ⟨m,0,K⟩) n p,b,c,d,.slice (I ⟨rb,bF,K⟩) rs.length aK,.bool sk] 68 (0,0))):=(j.block _ (Va M.o)).trans M.o;clear j t)|(go_at_call 48;refine(C _).mono ?_;rintro e H ⟨rfl,x⟩;have R:X (aQ w H):=u.o.trans (x.mono (by have:=u.o.size;omega));have al:X (H.heap[w.heap.size]? =I (.cells #[.slice (I ⟨m,0,K⟩) n p,b,c,d,.slice (I ⟨rb,bF,K⟩) rs.length aK,.bool sk] 68 (0,0))):=(x.block _ (Va D.o)).trans D.o;clear x))
     go_ret;exact⟨U5,rfl,by simp only[Vv,false_iff];exact V.o,R.o⟩
    ·rw[P] at C o;have be:X (∀i (h:i<rs.length),i<a+1->kK (l rs[i].col) rs[i]=Z):=N.o o;clear E N o G P
     go_wp2_with (first|(go_at_call 48;refine(t _).mono ?_;rintro e w' ⟨rfl,j⟩;have u:X (aQ w w'):=L.o.trans (j.mono ad);have bo:=(j.cell (p:=⟨z,4,K⟩) B).trans a8;have br:=(j.cell (p:=⟨z,5,K⟩) B).trans a9;have bs:=(j.cell (p:=⟨z,6,K⟩) B).trans ba;have D:X (w'.heap[w.heap.size]? =I (.cells #[.slice (I ⟨m,0,K⟩) n p,b,c,d,.slice (I ⟨rb,bF,K⟩) rs.length aK,.bool sk] 68 (0,0))):=(j.block _ (Va M.o)).trans M.o;clear j t)|(go_at_call 48;refine(C _).mono ?_;rintro e H ⟨rfl,x⟩;have R:X (aQ w H):=u.o.trans (x.mono (by have:=u.o.size;omega));have al:X (H.heap[w.heap.size]? =I (.cells #[.slice (I ⟨m,0,K⟩) n p,b,c,d,.slice (I ⟨rb,bF,K⟩) rs.length aK,.bool sk] 68 (0,0))):=(x.block _ (Va D.o)).trans D.o;clear x))
     go_roundw
     case rel=>exact⟨a+1,by omega,by go_num,be.o,al.o,R.o⟩
     case measure=>simp[V3];omega
  ·have bd:X (∀i (h:i<rs.length),kK (l rs[i].col) rs[i]=Z):=λi h=>J.o i h (by omega);clear J T S A aa v;go_wp2;go_ret;exact⟨Z,rfl,by simp only[true_iff];exact bd.o,Q.o⟩
def av.PU:((ax U1).info? 122).map (λi=>(i.zero,i.size,i.bytes))=I (I (.agg #[.int .i64 0,.bool U5,.int .i64 0,.string ⟨#[]⟩,.bool U5,.int .i64 0,.string ⟨#[]⟩]),7,72):=by kernel_rfl
def av.PV:((ax U1).info? 3).map (λi=>(i.zero,i.size,i.bytes))=I (I (.int .i64 0),1,8):=by kernel_rfl
def Az(l:List Int)(s:Option VI)(b off cap:Nat)(w:F)(L:l.length<=1000)(t:0<l.length->s=I ⟨b,off,K⟩)(hc:∀j u,(bq l)[j]? =I u->w.cell? ⟨b,off+j,K⟩=I u):
 bK 29 #[.slice s l.length cap] w λe w'=>aQ w w'/\((l.length=0/\∃co,e= .returned (.slice co 0 0))\/(0<l.length/\∃v,e= .returned v/\w'.ownsRow w.heap.size 3 1 v l.length (bq l))):=by
 obtain⟨D,B,N,C,O⟩:=Wo av.PV;have h:aQ w (w.alloc (.cells #[] 3)):=(Vi _ _).alloc (U7 _) _;have p:(w.alloc (.cells #[] 3)).ownsRow w.heap.size 3 1 (.slice (I ⟨w.heap.size,0,K⟩) 0 0) 0 []:=⟨rfl,.inr ⟨w.heap.size,0,#[],rfl,U7 _,jw _ _,U7 _,VB _,rfl,rfl⟩⟩;have P:∀(n:VI) (m g:Nat) (a:F),(binOp .eql 22 (.slice (I n) m g) aM).run (ax U1) a= .ok (.bool U5) a:=λn m g a=>by simp only[binOp];simp[run_equal_slice_nil a 22 3 _ _ _ av.underlying22]
 have Q:∀(m g:Nat) (a:F),(binOp .eql 22 (.slice K m g) aM).run (ax U1) a= .ok (.bool Z) a:=λm g a=>by simp only[binOp];simp[run_equal_slice_nil a 22 3 _ _ _ av.underlying22]
 by_cases o:0<l.length
 ·obtain rfl:=t o;have z:X (∀j u,(bq l)[j]? =I u->(w.alloc (.cells #[] 3)).cell? (Zl ⟨b,off,K⟩ j)=I u):=λj u J=>by
   rw[YN];have d:=hc j u J;have H:b<w.heap.size:=by
    unfold Ve at d;rcases WG b w.heap.size with c|c
    ·exact c
    ·simp[Wl c] at d
   exact(h.cell (p:=⟨b,off+j,K⟩) H).trans d
  have A:X (∀u∈bq l,u.oneCell'=Z):=λu M=>by obtain⟨S,_,rfl⟩:=Wu.1 M;rfl
  have r:X ((bq l).length=l.length*1):=by show _=_;simp[bq]
  have f:=af h;clear hc h t;go_enter av.func29,Tryz.ntmps29
  go_wp2_with (at_builtin;refine aZ _ Y _ _ 22 Y w.heap.size 3 D (.int .i64 0) 1 8 av.underlying22 B N C O Y (by decide) (.slice (I ⟨w.heap.size,0,K⟩) 0 0) 0 [] Y p ⟨b,off,K⟩ l.length cap (bq l) Y o r.o z.o A.o (by unfold Vp;omega) (by omega) (by simp) ?_;intro R w' k i)
  have q:X (aQ w w'):=by
   rcases i with⟨d,_⟩|⟨_,d⟩
   ·exact f.o.grown d (by simp) (by simp)
   ·exact f.o.grown d (by simp) (λG x=>by simp[Wz] at x;omega)
  rw[VV,Yn] at k;have E:=af k;clear i k z A r f p;go_wp2;go_ret;exact⟨q.o,.inr ⟨o,_,rfl,E.o⟩⟩
 ·have y:l.length=0:=by omega
  rw[y];have r:=af y;have f:=af h;clear t hc L o y h;cases s with
  |none=>
   go_enter av.func29,Tryz.ntmps29;go_wp2;go_ret;exact⟨Vi _ _,.inl ⟨trivial,_,rfl⟩⟩
  |some n=>
   go_enter av.func29,Tryz.ntmps29
   go_wp2_with (at_builtin;refine WL _ Y _ _ 22 Y w.heap.size 3 D 1 av.underlying22 B C w.heap.size 0 0 [] Y p n 0 cap [] Y (by simp) (λj u c=>by simp at c) (λu c=>by simp at c) (by omega) ?_;intro w' k i)
   have q:X (aQ w w'):=f.o.grown i (by simp) (λG x=>by simp at x;omega);clear i k f p;go_wp2;go_ret;exact⟨q.o,.inl ⟨trivial,_,rfl⟩⟩
def wW(l:List bT)(s:Option VI)(b off cap:Nat)(w:F)(M:l.length<=1000)(t:0<l.length->s=I ⟨b,off,K⟩)(hc:∀j u,(gE l)[j]? =I u->w.cell? ⟨b,off+j,K⟩=I u):
 bK 49 #[.slice s l.length cap] w λe w'=>aQ w w'/\((l.length=0/\∃co,e= .returned (.slice co 0 0))\/(0<l.length/\∃v,e= .returned v/\w'.ownsRow w.heap.size 122 7 v l.length (gE l))):=by
 obtain⟨E,B,O,D,P⟩:=Wo av.PU;have h:aQ w (w.alloc (.cells #[] 122)):=(Vi _ _).alloc (U7 _) _;have p:(w.alloc (.cells #[] 122)).ownsRow w.heap.size 122 7 (.slice (I ⟨w.heap.size,0,K⟩) 0 0) 0 []:=⟨rfl,.inr ⟨w.heap.size,0,#[],rfl,U7 _,jw _ _,U7 _,VB _,rfl,rfl⟩⟩;have Q:∀(n:VI) (m g:Nat) (a:F),(binOp .eql 23 (.slice (I n) m g) aM).run (ax U1) a= .ok (.bool U5) a:=λn m g a=>by simp only[binOp];simp[run_equal_slice_nil a 23 122 _ _ _ av.underlying23]
 have R:∀(m g:Nat) (a:F),(binOp .eql 23 (.slice K m g) aM).run (ax U1) a= .ok (.bool Z) a:=λm g a=>by simp only[binOp];simp[run_equal_slice_nil a 23 122 _ _ _ av.underlying23]
 by_cases o:0<l.length
 ·obtain rfl:=t o;have z:X (∀j u,(gE l)[j]? =I u->(w.alloc (.cells #[] 122)).cell? (Zl ⟨b,off,K⟩ j)=I u):=λj u L=>by
   rw[YN];have d:=hc j u L;have J:b<w.heap.size:=by
    unfold Ve at d;rcases WG b w.heap.size with c|c
    ·exact c
    ·simp[Wl c] at d
   exact(h.cell (p:=⟨b,off+j,K⟩) J).trans d
  have A:X (∀u∈gE l,u.oneCell'=Z):=λu N=>by
   obtain⟨T,_,C⟩:=List.mem_flatMap.1 N;simp only[sU,WI,YS,or_false] at C;rcases C with rfl|rfl|rfl|rfl|rfl|rfl|rfl<;>rfl
  have r:=af (sj l);have f:=af h;clear hc h t;go_enter av.func49,Tryz.ntmps49
  go_wp2_with (at_builtin;refine aZ _ Y _ _ 23 Y w.heap.size 122 E (.agg #[.int .i64 0,.bool U5,.int .i64 0,.string ⟨#[]⟩,.bool U5,.int .i64 0,.string ⟨#[]⟩]) 7 72 av.underlying23 B O D P Y (by decide) (.slice (I ⟨w.heap.size,0,K⟩) 0 0) 0 [] Y p ⟨b,off,K⟩ l.length cap (gE l) Y o r.o z.o A.o (by unfold Vp;omega) (by omega) (by simp) ?_;intro S w' k i)
  have q:X (aQ w w'):=by
   rcases i with⟨d,_⟩|⟨_,d⟩
   ·exact f.o.grown d (by simp) (by simp)
   ·exact f.o.grown d (by simp) (λH x=>by simp[Wz] at x;omega)
  rw[VV,Yn] at k;have G:=af k;clear i k z A r f p;go_wp2;go_ret;exact⟨q.o,.inr ⟨o,_,rfl,G.o⟩⟩
 ·have y:l.length=0:=by omega
  rw[y];have r:=af y;have f:=af h;clear t hc M o y h;cases s with
  |none=>
   go_enter av.func49,Tryz.ntmps49;go_wp2;go_ret;exact⟨Vi _ _,.inl ⟨trivial,_,rfl⟩⟩
  |some n=>
   go_enter av.func49,Tryz.ntmps49
   go_wp2_with (at_builtin;refine WL _ Y _ _ 23 Y w.heap.size 122 E 7 av.underlying23 B D w.heap.size 0 0 [] Y p n 0 cap [] Y (by simp) (λj u c=>by simp at c) (λu c=>by simp at c) (by omega) ?_;intro w' k i)
   have q:X (aQ w w'):=f.o.grown i (by simp) (λH x=>by simp at x;omega);clear i k f p;go_wp2;go_ret;exact⟨q.o,.inl ⟨trivial,_,rfl⟩⟩
def Oj{a:F}{g o:Nat}{b:Array U}{t:Vc}{u:U}(h:a.heap[g]? =I (.cells b t (0,0)))(d:b[o]? =I u):(a.setCell ⟨g,o,K⟩ u).heap[g]? =I (.cells b t (0,0)):=by
 rw[Vl a g o _ _ u h];congr 2;apply Yo;intro f;rw[VE]
 split
 ·rename_i c;subst c
  split
  ·exact d.symm
  ·rename_i e;rw[Wl (by omega)]
 ·rfl
def so{d:F}{base g o n cap:Nat}{c:List U}{u:U}(h:d.ownsRow base 122 7 (.slice (I ⟨g,0,K⟩) n cap) n c)(b:c[o]? =I u):(d.setCell ⟨g,o,K⟩ u).ownsRow base 122 7 (.slice (I ⟨g,0,K⟩) n cap) n c:=by
 obtain⟨p,⟨a,_⟩|⟨r,q,f,a,i,j,k,l,m,e⟩⟩:=h
 ·cases a
 ·simp only[V7,VY,Xk,and_true,true_and] at a;obtain⟨rfl,rfl⟩:=a;refine⟨p,.inr ⟨g,cap,f,rfl,i,Oj j ?_,k,l,m,e⟩⟩;rw[<-e,Xg] at b
  split at b
  ·simpa using b
  ·cases b
def Qi{w:F}{base e d n:Nat}{v:U}{f:List U}(h:w.ownsRow base e d v n f)(l:0<n):∃g cap,v= .slice (I ⟨g,0,K⟩) n cap:=by
 obtain⟨k,⟨a,j⟩|⟨c,b,i,a,_⟩⟩:=h
 ·omega
 ·exact⟨c,b,a⟩
def dK.NB{w:F}{base g cap:Nat}{l:List bT}(h:w.ownsRow base 122 7 (.slice (I ⟨g,0,K⟩) l.length cap) l.length (gE l)):dK w (I ⟨g,0,K⟩) g 0 l:=by
 obtain⟨o,⟨a,_⟩|⟨i,e,f,a,j,c,k,m,n,d⟩⟩:=h
 ·cases a
 ·simp only[V7,VY,Xk,and_true,true_and] at a;obtain⟨rfl,rfl⟩:=a;refine dK.EO (Va c) λp v b=>?_;rw[<-d,Xg] at b
  split at b
  ·rw[VV];unfold Ve;simp only[c];simpa using b
  ·cases b
def NH{w:F}{base g n cap c e:Nat}{d:List U}(h:w.ownsRow base e c (.slice (I ⟨g,0,K⟩) n cap) n d):base<=g:=by
 obtain⟨q,⟨a,_⟩|⟨j,f,i,a,b,k,l,m,o,p⟩⟩:=h
 ·cases a
 ·simp only[V7,VY,Xk,and_true,true_and] at a;obtain⟨rfl,rfl⟩:=a;exact b
def EX{w:F}{base g n cap c e o:Nat}{d:List U}(h:w.ownsRow base e c (.slice (I ⟨g,0,K⟩) n cap) n d):w.frozen? ⟨g,o,K⟩=U5:=by
 obtain⟨r,⟨a,_⟩|⟨j,f,i,a,k,b,l,m,p,q⟩⟩:=h
 ·cases a
 ·simp only[V7,VY,Xk,and_true,true_and] at a;obtain⟨rfl,rfl⟩:=a;simp[VW,b]
def EW{w:F}{base g n cap o:Nat}{c:List U}{u:U}(h:w.ownsRow base 122 7 (.slice (I ⟨g,0,K⟩) n cap) n c)(b:c[o]? =I u):w.cell? ⟨g,o,K⟩=I u:=by
 obtain⟨q,⟨a,_⟩|⟨j,f,i,a,k,d,l,m,p,e⟩⟩:=h
 ·cases a
 ·simp only[V7,VY,Xk,and_true,true_and] at a;obtain⟨rfl,rfl⟩:=a;rw[<-e,Xg] at b
  split at b
  ·unfold Ve;simp only[d];simpa using b
  ·cases b
def ym(l:List bT)(x:Option VI)(b off cap:Nat)(w:F)(a1:l.length<=1000)(a0:0<l.length->x=I ⟨b,off,K⟩)(hc:∀j u,(gE l)[j]? =I u->cD w b (off+j) u)(a4:∀r∈l,r.low.s.size<=32/\r.high.s.size<=32):
 bK 30 #[.slice x l.length cap] w λe w'=>aQ w w'/\((l.length=0/\∃co,e= .returned (.slice co 0 0))\/(0<l.length/\∃v,e= .returned v/\w'.ownsRow w.heap.size 122 7 v l.length (gE l))):=by
 have p:=wW l x b off cap w a1 a0 hc;have P:=af a4;clear a0 hc a4;by_cases C:0<l.length
 ·have ar:bK 49 #[.slice x l.length cap] w λe w'=>aQ w w'/\∃c o,e= .returned (.slice (I ⟨c,0,K⟩) l.length o)/\w'.ownsRow w.heap.size 122 7 (.slice (I ⟨c,0,K⟩) l.length o) l.length (gE l):=by
   refine p.mono λe w' g=>⟨g.1,?_⟩;obtain⟨_,v,rfl,m⟩:=g.2.resolve_left λg=>absurd g.1 (by omega);obtain⟨c,o,rfl⟩:=Qi m C;exact⟨c,o,rfl,m⟩
  clear p;go_enter av.func30,Tryz.ntmps30
  go_wp2_with (go_at_call 49;refine ar.mono ?_;rintro e a7 ⟨y,c,o,rfl,a3⟩)
  have A:=af y;have q:=af a3;clear y a3 ar
  go_loopw [10] (λn wr=>∃a:Nat,a<=l.length/\n= .int .i64 (a:Int)/\wr.ownsRow w.heap.size 122 7 (.slice (I ⟨c,0,K⟩) l.length o) l.length (gE l)/\aQ w wr) (λn _=>l.length-(V3 n).toNat)
  case atStart=>exact⟨0,VB _,rfl,q.o,A.o⟩
  case round=>
   clear A q;obtain⟨a,bz,rfl,m,D⟩:=hrel;have J:=af D;have B:=af m;have a5:=D.size;by_cases h:a<l.length
   ·have k:=dK.NB m;have T:=k.c0 a h;have U:=k.c1 a h;have V:=k.c2 a h;have W:=k.c3 a h;have Z:=k.c4 a h;have aa:=k.c5 a h;have ab:=k.c6 a h;simp only[VV] at T U V W Z aa ab;have O:=af (oK l a h 3 _ Y);have N:=af (oK l a h 6 _ Y);obtain⟨a8,a9⟩:=P.o l[a] (Vn h);have G:=λQ=>uS l[a].low.s Q a8;have H:=λQ=>uS l[a].high.s Q a9;clear m D k P a8 a9;generalize l[a]=bu at*;obtain⟨E,d,f⟩:=bu;dsimp only at T U V W Z aa ab O N G H
    go_upto_region 5 with fail
    obtain⟨bk,bl,bm,bo,br,bs,a6⟩:=kM (jw wr (.cells #[.int .i64 E,.bool d.null,.int .i64 d.n,.string d.s,.bool f.null,.int .i64 f.n,.string f.s] 122));have R:aQ wr (wr.alloc (.cells #[.int .i64 E,.bool d.null,.int .i64 d.n,.string d.s,.bool f.null,.int .i64 f.n,.string f.s] 122)):=(Vi _ _).alloc (U7 _) _;have M:=af (J.o.trans (R.mono a5));have a2:=aR B.o R;have q:=af a2;have bj:wr.heap.size<(wr.alloc (.cells #[.int .i64 E,.bool d.null,.int .i64 d.n,.string d.s,.bool f.null,.int .i64 f.n,.string f.s] 122)).heap.size:=by simp
    have be:wr.heap.size≠c:=λg=>by have:=(dK.NB B.o).lt C;omega
    clear R T U V W Z aa ab J a5 B a2;generalize wr.alloc (.cells #[.int .i64 E,.bool d.null,.int .i64 d.n,.string d.s,.bool f.null,.int .i64 f.n,.string f.s] 122)=bv at*;generalize wr.heap.size=aw at*;have bi:=M.o.size
    go_upto_region 6 with(go_at_call 46;refine(G _).mono ?_;rintro e z ⟨rfl,i⟩;have al:=af (M.o.trans (i.mono bi));have s:=af (aR q.o i);have ad:=(i.cell (p:=⟨aw,6,K⟩) bj).trans a6;have u3:cD z c (a*7+1+2) (.string d.s):=EW s.o O.o;have bc:z.frozen? ⟨c,a*7+1+2,K⟩=U5:=EX s.o;have bA:=i.size;clear i G)
    have L:X (aQ w (z.setCell ⟨c,a*7+1+2,K⟩ (.string d.s))):=al.o.setCell (p:=⟨c,a*7+1+2,K⟩) (NH s.o) _;have au:=af (so s.o O.o);have bt:(z.setCell ⟨c,a*7+1+2,K⟩ (.string d.s)).cell? ⟨aw,6,K⟩=I (.string f.s):=by
     unfold Ve at ad ⊢;rw[Vj _ _ _ _ be];exact ad
    clear u3 bc ad al s M q bk bl bm bo br bs a6;generalize z.setCell ⟨c,a*7+1+2,K⟩ (.string d.s)=bx at*
    go_upto_region 7 with(go_at_call 46;refine(H _).mono ?_;rintro e ae ⟨rfl,i⟩;have am:=af (L.o.trans (i.mono L.o.size));have t:=af (aR au.o i);have u6:cD ae c (a*7+4+2) (.string f.s):=EW t.o N.o;have bd:ae.frozen? ⟨c,a*7+4+2,K⟩=U5:=EX t.o;clear i H)
    have ba:X (aQ w (ae.setCell ⟨c,a*7+4+2,K⟩ (.string f.s))):=am.o.setCell (p:=⟨c,a*7+4+2,K⟩) (NH t.o) _;have bb:=af (so t.o N.o);clear u6 bd bt am t L au;go_wp2
    go_roundw
    case rel=>exact⟨a+1,by omega,by go_num,bb.o,ba.o⟩
    case measure=>simp[V3];omega
   ·clear m D;go_wp2;go_ret;exact⟨J.o,.inr ⟨C,_,rfl,B.o⟩⟩
 ·have S:l.length=0:=by omega
  have ao:bK 49 #[.slice x 0 cap] w λe w'=>aQ w w'/\∃co,e= .returned (.slice co 0 0):=by
   rw[S] at p;exact p.mono λe w' g=>⟨g.1,(g.2.resolve_right λg=>absurd g.1 (by omega)).2⟩
  rw[S];clear p S C P a1;go_enter av.func30,Tryz.ntmps30
  go_wp2_with (go_at_call 49;refine ao.mono ?_;rintro e a7 ⟨y,co,rfl⟩)
  have A:=af y;clear y ao
  go_loopw [10] (λn wr=>n= .int .i64 0/\wr=a7) (λn _=>0)
  case atStart=>exact⟨rfl,rfl⟩
  case round=>
   obtain⟨rfl,rfl⟩:=hrel;go_wp2;go_ret;exact⟨A.o,.inl ⟨trivial,_,rfl⟩⟩
def Tn (w:F)(s:ByteArray)(e:X6)(w':F):Prop:=
 aQ w w'/\((∃(b:List (bQ×Int)) (a:List Bd) (c:List (Bd×U)) (d f h:U),e= .returned (.tuple #[.agg #[d,f,h],.bool Z])/\gQ s b a/\c.map Vy=a/\dh w' w.heap.size b c d f h/\(∀i g,gQ s i g->i=b/\g=a))\/
  (e= .returned (.tuple #[.agg #[aM,aM,aM],.bool U5])/\∀b a,¬gQ s b a))
def Bt(s:ByteArray)(w:F)(bc:s.size<=Vp):
 bK 26 #[.string s] w (Tn w s):=by
 have N:X ((w.alloc (.cells #[aM,aM,aM] 66)).heap[w.heap.size]? =I (.cells #[aM,aM,aM] 66 (0,0))):=bC w _;have ab:X (aQ w (w.alloc (.cells #[aM,aM,aM] 66))):=(Vi _ _).alloc (U7 _) _;have be:∀(S:Fn) (first O:Array U) (w:F),(Instr.makeFunc S first O).run (ax U1) w= .ok (.func S first O) w:=λ_ _ _ _=>rfl;go_enter av.func26,Tryz.ntmps26
 go_wp2_with fail
 refine(PC s _ bc).mono ?_;rintro a2 b ⟨a7,V⟩;have B:X (b.heap[w.heap.size]? =I (.cells #[aM,aM,aM] 66 (0,0))):=(V.block _ (Va N.o)).trans N.o;have L:X (aQ w b):=ab.o.trans (V.mono (by simp));have W:w.heap.size<b.heap.size:=Va B.o;rcases a7 with⟨d,K,rfl,hcut⟩|⟨rfl,H⟩;rotate_left
 ·have A:X (∀a c,¬gQ s a c):=λa c g=>H _ _ g.2;have u:(b.alloc (.cells #[.string ⟨#[]⟩] 9)).heap[w.heap.size]? =I (.cells #[aM,aM,aM] 66 (0,0)):=by rw[VH _ _ _ W];exact B.o
  have t:aQ w (b.alloc (.cells #[.string ⟨#[]⟩] 9)):=L.o.alloc (by omega) _
  go_upto_region 2 with fail
  generalize b.alloc (.cells #[.string ⟨#[]⟩] 9)=C at*;have ad:X (aQ w (gT C w.heap.size aM aM aM)):=m8 _ _ _ t (U7 _) (U7 _);obtain⟨⟨Y,Z,aa⟩,P,Q,R⟩:=fT u;obtain⟨⟨i,j,k⟩,-⟩:=fT (rG aM aM aM u);unfold gT at*;go_wp2;simp[Xw,V0,Tryz.results26,go_sem,i,j,k];exact⟨ad.o,.inr ⟨rfl,A.o⟩⟩
 ·have z:=af hcut;have bb:=hcut.len;have bi:=hcut.1;rw[ak,ak] at bb;have u:(b.alloc (.cells #[.string d] 9)).heap[w.heap.size]? =I (.cells #[aM,aM,aM] 66 (0,0)):=by rw[VH _ _ _ W];exact B.o
  have t:aQ w (b.alloc (.cells #[.string d] 9)):=L.o.alloc (by omega) _;have a4:(b.alloc (.cells #[.string d] 9)).heap[b.heap.size]? =I (.cells #[.string d] 9 (0,0)):=bC b _;have J:w.heap.size<=(b.alloc (.cells #[.string d] 9)).heap.size:=t.size;have a5:K.size<=65536:=by omega
  have a3:d.size<=65536:=by omega
  go_upto_region 2 with fail
  generalize b.alloc (.cells #[.string d] 9)=C at*;generalize b.heap.size=a1 at*;have l:=af u;have M:=af t;have ae:=af a4
  go_wp2_with fail
  refine(IR a1 K d C a5 a3 ae.o).mono ?_;rintro a2 e ⟨v,⟨a,c,f,au,aw,a0,rfl,ba,a6,a8,a9,hF,bd⟩|⟨rfl,H⟩⟩
  ·have h:e.heap[w.heap.size]? =I (.cells #[aM,aM,aM] 66 (0,0)):=(v.block _ (Va l.o)).trans l.o;have G:aQ w e:=M.o.trans (v.mono J);have T:dh e w.heap.size a f au aw a0:=hF.base J;obtain⟨m,ac,o,n,r,q,rfl,rfl,rfl⟩:=T.M9;have al:X (dh (gT e w.heap.size (.slice m a.length ac) (.slice o a.length n) (.slice r f.length q)) w.heap.size a f (.slice m a.length ac) (.slice o a.length n) (.slice r f.length q)):=T.gT _ _ _ h;have y:X (aQ w (gT e w.heap.size (.slice m a.length ac) (.slice o a.length n) (.slice r f.length q))):=m8 _ _ _ G (U7 _) (U7 _);have am:X (gQ s a c):=⟨ba,by rw[<-a8,<-a9];exact z.o⟩;have ar:X (∀x p,gQ s x p->x=a/\p=c):=λx p g=>by
    obtain⟨D,E⟩:=z.o.JJ g.2;exact bd x p g.1 E D
   have ao:=af a6;obtain⟨⟨Y,Z,aa⟩,P,Q,R⟩:=fT h;obtain⟨⟨i,j,k⟩,-⟩:=fT (rG (.slice m a.length ac) (.slice o a.length n) (.slice r f.length q) h);unfold gT at*;go_wp2;simp[Xw,V0,Tryz.results26,go_sem,i,j,k];exact⟨y.o,.inl ⟨a,c,f,_,_,_,rfl,am.o,ao.o,al.o,ar.o⟩⟩
  ·have h:e.heap[w.heap.size]? =I (.cells #[aM,aM,aM] 66 (0,0)):=(v.block _ (Va l.o)).trans l.o;have G:aQ w e:=M.o.trans (v.mono J);have y:X (aQ w (gT e w.heap.size aM aM aM)):=m8 _ _ _ G (U7 _) (U7 _);have A:X (∀a c,¬gQ s a c):=λa c g=>by
    obtain⟨D,E⟩:=z.o.JJ g.2;exact H a c g.1 E D
   obtain⟨⟨Y,Z,aa⟩,P,Q,R⟩:=fT h;obtain⟨⟨i,j,k⟩,-⟩:=fT (rG aM aM aM h);unfold gT at*;go_wp2;simp[Xw,V0,Tryz.results26,go_sem,i,j,k];exact⟨y.o,.inr ⟨rfl,A.o⟩⟩
end Ec
namespace Cc
open Go Go.Conc
open Go.RowKit (Below)
open Ec
open Pk
open Pm
def mh{w:F}{base:Nat}{e:Vc}{j n:Nat}{v:U}{f:List U}(h:w.ownsRow base e j v n f)(r:0<n):∃g cap,v= .slice (I ⟨g,0,K⟩) n cap/\base<=g/\g<w.heap.size/\∀o u,f[o]? =I u->w.cell? ⟨g,o,K⟩=I u:=by
 obtain⟨q,⟨b,c⟩|⟨g,cap,k,b,c,d,l,m,p,i⟩⟩:=h
 ·omega
 ·refine⟨g,cap,b,c,(U4.1 d).1,λo u a=>?_⟩;rw[<-i,Xg] at a
  split at a
  ·unfold Ve;simp only[d];simpa using a
  ·cases a
def sE (e d c:Nat)(cJ:Nat->Nat)(cb rb n f g:Nat):Nat->Prop:=λa=>a=e\/a=d\/(0<n/\a=c)\/(∃b,b<n/\a=cJ b)\/(0<f/\a=cb)\/(0<g/\a=rb)
def FM.kept{k W':F}{l:List (bQ×Int)}{bs:List Bd}{ah:List Int}{rs:List bT}{s r:Nat}{u:Option VI}{q:Nat}{cJ lS:Nat->Nat}{co:Option VI}{cb bH:Nat}{ro:Option VI}{rb bF:Nat}(h:FM k l bs ah rs s r u q cJ lS co cb bH ro rb bF)(n:k.heap.size<=W'.heap.size)(z:∀b,sE s r q cJ cb rb bs.length ah.length rs.length b->nH W' k b):FM W' l bs ah rs s r u q cJ lS co cb bH ro rb bF:=by
 have m:∀b,sE s r q cJ cb rb bs.length ah.length rs.length b->∀p v,k.cell? ⟨b,p,K⟩=I v->W'.cell? ⟨b,p,K⟩=I v:=λb i p v o=>by
  unfold Ve at o ⊢;cases t:k.heap[b]? with
  |none=>rw[t] at o;cases o
  |some j=>
   rw[t] at o;cases j<;>first|(cases o;done)|skip
   rw[z b i _ t trivial];exact o
 have w:∀d b,bs[d]? =I b->d<bs.length:=λd b h=>(Vs.1 h).1;have f:∀{p v},0<rs.length->k.cell? ⟨rb,p,K⟩=I v->W'.cell? ⟨rb,p,K⟩=I v:=λg=>m rb (.inr (.inr (.inr (.inr (.inr ⟨g,rfl⟩))))) _ _;have e:=h.nr;refine⟨λc j a=>m s (.inl Y) _ _ (h.k c j a),λc j a=>m r (.inr (.inl Y)) _ _ (h.e c j a),λd b i=>?_,λd b i c j a A B y=>m (cJ d) (.inr (.inr (.inr (.inl ⟨d,w d b i,rfl⟩)))) _ _ (h.c d b i c j a A B y),U9 h.lk n,U9 h.le n,h.da,λg=>U9 (h.ld g) n,λd x=>U9 (h.lc d x) n,h.ca,λg=>U9 (h.cl g) n,λc a=>m cb (.inr (.inr (.inr (.inr (.inl ⟨by omega,rfl⟩))))) _ _ (h.cc c a),
  ⟨e.addr,λg=>U9 (e.lt g) n,λc a=>f (by omega) (e.c0 c a),λc a=>f (by omega) (e.c1 c a),λc a=>f (by omega) (e.c2 c a),λc a=>f (by omega) (e.c3 c a),λc a=>f (by omega) (e.c4 c a),λc a=>f (by omega) (e.c5 c a),λc a=>f (by omega) (e.c6 c a)⟩⟩
 intro c v a;exact m q (.inr (.inr (.inl ⟨by have:=w d b i;omega,rfl⟩))) _ _ (h.d d b i c v a)
def oJ{W' a:F}{b:Nat}(h:W'.heap[b]? =a.heap[b]?):nH W' a b:=λd c _=>h.trans c
def EH{W' w':F}{b:Nat}(h:Un W' w'):nH w' W' b:=λe d c=>h.o d λa=>(eu (ax U1)).Si (a▸c)
def Me (b:F)(base:Nat)(a:U)(ah:List Int):Prop:=(ah.length=0/\∃c,a= .slice c 0 0)\/(0<ah.length/\b.ownsRow base 3 1 a ah.length (bq ah))
def Ra (b:F)(base:Nat)(a:U)(rs:List bT):Prop:=(rs.length=0/\∃c,a= .slice c 0 0)\/(0<rs.length/\b.ownsRow base 122 7 a rs.length (gE rs))
def Me.below{a W':F}{base:Nat}{b:U}{ah:List Int}(h:Me a base b ah)(c:aQ a W'):Me W' base b ah:=h.imp (λh=>h) λh=>⟨h.1,aR h.2 c⟩
def Me.at_{a:F}{base:Nat}{d:U}{ah:List Int}(h:Me a base d ah):∃co cb cap,d= .slice co ah.length cap/\(0<ah.length->co=I ⟨cb,0,K⟩/\base<=cb/\cb<a.heap.size)/\∀j,j<ah.length->cD a cb (0+j) (.int .i64 (ah.getD j 0)):=by
 rcases h with⟨b,co,rfl⟩|⟨b,h⟩
 ·exact⟨co,0,0,by rw[b],λh=>absurd h (by omega),λj c=>absurd c (by omega)⟩
 ·obtain⟨e,cap,rfl,f,g,i⟩:=mh h b;refine⟨_,e,cap,rfl,λ_=>⟨rfl,f,g⟩,λj c=>?_⟩;rw[VV];refine i j _ ?_;simp[bq,Vk,Vf c]
def Ra.at_{c:F}{base:Nat}{e:U}{rs:List bT}(h:Ra c base e rs):∃ro rb cap,e= .slice ro rs.length cap/\(0<rs.length->base<=rb/\rb<c.heap.size)/\dK c ro rb 0 rs:=by
 rcases h with⟨b,ro,rfl⟩|⟨b,h⟩
 ·refine⟨ro,0,0,by rw[b],λh=>absurd h (by omega),?_⟩;have f:=Wt b;subst f;exact⟨λh=>absurd h (by simp),λh=>absurd h (by simp),λa h=>absurd h (by simp),λa h=>absurd h (by simp),λa h=>absurd h (by simp),λa h=>absurd h (by simp),λa h=>absurd h (by simp),λa h=>absurd h (by simp),λa h=>absurd h (by simp)⟩
 ·obtain⟨g,cap,rfl,i,d,j⟩:=mh h b;exact⟨_,g,cap,rfl,λ_=>⟨i,d⟩,dK.EO d λl v k=>by rw[VV];exact j l v k⟩
def D4:U->Nat
 | .slice (I a) _ _=>a.block
 |_=>0
def Ri:U->Nat
 | .slice _ _ a=>a
 |_=>0
def Rk{g:F}{base:Nat}{l:List (bQ×Int)}{bs:List Bd}{L:List (Bd×U)}{a b c M T:U}{ah:List Int}{rs:List bT}(Q:xu l bs)(hL:L.map Vy=bs)(h:dh g base l L a b c)(hc:Me g base M ah)(al:Ra g base T rs):
 ∃(z ck u ce:Nat) (q:Option VI) (k cm:Nat) (cJ lS:Nat->Nat) (co:Option VI) (cb aG:Nat) (ro:Option VI) (rb aK:Nat),a= .slice (I ⟨z,0,K⟩) l.length ck/\b= .slice (I ⟨u,0,K⟩) l.length ce/\c= .slice q bs.length cm/\M= .slice co ah.length aG/\T= .slice ro rs.length aK/\FM g l bs ah rs z u q k cJ lS co cb 0 ro rb 0/\∀x,sE z u k cJ cb rb bs.length ah.length rs.length x->base<=x/\x<g.heap.size:=by
 have E:0<l.length:=by
  have:=Q.pl.1.1;simp at this;omega
 have D:L.length=bs.length:=by rw[<-hL,VQ]
 obtain⟨z,ck,rfl,ar,S,au⟩:=mh h.ah E;obtain⟨u,ce,rfl,Z,N,aa⟩:=mh h.n5 E;obtain⟨co,cb,aG,rfl,A,W⟩:=hc.at_;obtain⟨ro,rb,aK,rfl,a1,a2⟩:=al.at_;have ab:∃q k cm,c= .slice q bs.length cm/\(0<bs.length->q=I ⟨k,0,K⟩/\base<=k/\k<g.heap.size)/\∀n i,(nZ L)[n]? =I i->cD g k n i:=by
  rcases Nat.eq_zero_or_pos L.length with e|e
  ·obtain⟨V,o,C⟩:=cF h.cj.own;have Y:=Wt e;refine⟨V,0,o,by rw[<-D];exact C,λh=>absurd h (by omega),λn i R=>?_⟩;rw[Y] at R;simp[nZ] at R
  ·obtain⟨m,o,C,t,B,X⟩:=mh h.cj.own e;exact⟨_,m,o,by rw[<-D];exact C,λ_=>⟨rfl,t,B⟩,X⟩
 obtain⟨q,k,cm,rfl,t,B⟩:=ab;have P:∀d b,bs[d]? =I b->∃(f:d<L.length),L[d].1=b/\∃m o,L[d].2= .slice (I ⟨m,0,K⟩) l.length o/\base<=m/\m<g.heap.size/\∀n i,(ei b.chunks)[n]? =I i->cD g m n i:=λd b j=>by
  have f:d<L.length:=by rw[D];exact(Vs.1 j).1
  have O:L[d].1=b:=by
   have:(L.map Vy)[d]? =I b:=by rw[hL];exact j
   rw[YI,Vf f] at this;simpa using this
  have ae:b.chunks.length=l.length:=by
   have:=(Q.cj b (Wv j)).len;simpa using this
  have:=h.cj.each L[d] (Vn f);rw[O,ae] at this;obtain⟨m,o,s,G,H,J⟩:=mh this E;exact⟨f,O,m,o,s,G,H,J⟩
 have w:∀d b,bs[d]? =I b->(L.getD d (⟨0,[]⟩,.bool U5)).2= .slice (I ⟨D4 (L.getD d (⟨0,[]⟩,.bool U5)).2,0,K⟩) l.length (Ri (L.getD d (⟨0,[]⟩,.bool U5)).2)/\base<=D4 (L.getD d (⟨0,[]⟩,.bool U5)).2/\D4 (L.getD d (⟨0,[]⟩,.bool U5)).2<g.heap.size/\∀n i,(ei b.chunks)[n]? =I i->g.cell? ⟨D4 (L.getD d (⟨0,[]⟩,.bool U5)).2,n,K⟩=I i:=λd b j=>by
  obtain⟨f,_,m,o,s,G,H,J⟩:=P d b j;have:L.getD d (⟨0,[]⟩,.bool U5)=L[d]:=by rw[Vk,Vf f];rfl
  rw[this,s];exact⟨rfl,G,H,J⟩
 refine⟨z,ck,u,ce,q,k,cm,λd=>D4 (L.getD d (⟨0,[]⟩,.bool U5)).2,λd=>Ri (L.getD d (⟨0,[]⟩,.bool U5)).2,co,cb,aG,ro,rb,aK,rfl,rfl,rfl,rfl,rfl,⟨λr x p=>?_,λr x p=>?_,λd b j=>?_,λd b j r x p a3 i am=>?_,S,N,λe=>(t e).1,λe=>(t e).2.2,λd f=>(w d _ (Vf f)).2.2.1,λe=>(A e).1,λe=>(A e).2.2,W,a2⟩,λx ao=>?_⟩
 ·obtain⟨y,rfl⟩:=Vs.1 p;rw[VV];have:=(Bj (l.map Vy) r (by simpa using y)).2;simp only[YR] at this;exact au _ _ this
 ·obtain⟨y,rfl⟩:=Vs.1 p;rw[VV,Ze];exact aa _ _ (by simp[bq,Vf y])
 ·obtain⟨f,aw,-⟩:=P d b j;have s:=(w d b j).1;have a0:L.getD d (⟨0,[]⟩,.bool U5)=L[d]:=by rw[Vk,Vf f];rfl
  intro r v p;have ad:(oD L[d])[r]? =I v:=by
   unfold oD;rw[aw];rw[a0] at s p;rw[s];exact p
  have:=B _ _ (mg oD 2 rf L d f r v ad);rw[VV];exact this
 ·obtain⟨y,rfl⟩:=Vs.1 p;exact(w d b j).2.2.2 _ _ (mg dF 8 uZ b.chunks r y a3 i am)
 ·rcases ao with rfl|rfl|⟨e,rfl⟩|⟨d,f,rfl⟩|⟨e,rfl⟩|⟨e,rfl⟩
  ·exact⟨ar,S⟩
  ·exact⟨Z,N⟩
  ·exact(t e).2
  ·exact⟨(w d _ (Vf f)).2.1,(w d _ (Vf f)).2.2.1⟩
  ·exact(A e).2
  ·exact a1 e
end Cc
namespace Cc
open Go Go.Conc
open Go.RowKit (Below)
open Ec
open Pk (bq)
abbrev Gj:=Option (List (bQ×Int)×List Bd)
def sH (s:ByteArray):Gj->Prop
 |none=>∀b a,¬gQ s b a
 |some (b,a)=>gQ s b a/\∀d c,gQ s d c->d=b/\c=a
def uH (n:Nat)(ah:List Int)(rs:List bT):Bool:=ah.all (cU n)&&rs.all λa=>cU n a.col
def o7 (l:List (bQ×Int))(k:Int):Int:=(l.getD k.toNat (⟨⟨#[]⟩,0⟩,0)).1.kind
def Fe (l:List (bQ×Int))(rs:List bT):Bool:=rs.all λa=>kK (o7 l a.col) a
def iV (b:Gj)(ah:List Int)(rs:List bT):Nat:=match b with
 |none=>3
 |some (a,_)=>if uH a.length ah rs then(if Fe a rs then 0 else 5) else 4
def pL{n:Nat}{k:Int}:cU n k=Z↔0<=k/\k<(n:Int):=by
 unfold cU;simp
def xY{n:Nat}{ah:List Int}{rs:List bT}:uH n ah rs=Z↔(∀k∈ah,0<=k/\k<(n:Int))/\∀r∈rs,0<=r.col/\r.col<(n:Int):=by
 unfold uH;rw[Vr,Vx,Vx];simp only[pL]
def Ba{a:Gj}{ah:List Int}{rs:List bT}(h:iV a ah rs=0):∃l bs,a=I (l,bs)/\uH l.length ah rs=Z/\Fe l rs=Z:=by
 cases a with
 |none=>simp[iV] at h
 |some d=>
  obtain⟨l,bs⟩:=d;simp only[iV] at h
  split at h
  ·rename_i b
   split at h
   ·rename_i c;exact⟨l,bs,rfl,b,c⟩
   ·cases h
  ·cases h
def xC{l:List (bQ×Int)}(h:om l){k:Int}(e:cU l.length k=Z):o7 l k=1\/o7 l k=2\/o7 l k=3:=by
 obtain⟨d,f⟩:=pL.1 e;obtain⟨b,rfl⟩:=XO d;have a:b<l.length:=by omega
 have c:=(h.1.2.2 b (by simpa using a)).1;simp only[YR,pX,gC,Vr,decide_eq_true_eq] at c;unfold o7;rw[Vk];simp[a];omega
def yR{v:aC}{k:Int}(b:k=1\/k=2\/k=3)(h:gD v k=Z):v.s.size<=32:=by
 have a:∀s:ByteArray,(s.toList==[])=Z->s.size<=32:=λs h=>by
  have:s.toList=[]:=by simpa using h
  rw[kS this];decide
 unfold gD at h
 split at h
 ·rw[Vr] at h;exact a _ h.2
 ·split at h
  ·exact a _ h
  ·split at h
   ·rw[Vr] at h;exact a _ h.2
   ·rw[Vr,decide_eq_true_eq] at h;have:=h.2;omega
end Cc
namespace Ec
open Go.RowKit Pk Pm
open Cc (Me Ra Gj sH uH o7 Fe iV pL xY xC yR mh)
def wX (w:F)(g:Nat)(a b c d e f:U):F:=(((((w.setCell ⟨g,0,K⟩ a).setCell ⟨g,1,K⟩ b).setCell ⟨g,2,K⟩ c).setCell ⟨g,3,K⟩ d).setCell ⟨g,4,K⟩ e).setCell ⟨g,5,K⟩ f
def xH{w:F}{g:Nat}{a b c d e f:U}{t:Vc}(i j k l m n:U)(h:w.heap[g]? =I (.cells #[a,b,c,d,e,f] t (0,0))):(wX w g i j k l m n).heap[g]? =I (.cells #[i,j,k,l,m,n] t (0,0)):=by
 have o:=Vl w g 0 _ _ i h;have p:=Vl _ g 1 _ _ j o;have q:=Vl _ g 2 _ _ k p;have r:=Vl _ g 3 _ _ l q;have s:=Vl _ g 4 _ _ m r;exact Vl _ g 5 _ _ n s
def pg{w w0:F}{g n:Nat}(c d e f i j:U)(h:XC n w0 w)(b:n<=w0.heap.size)(a:n<=g):XC n w0 (wX w g c d e f i j):=
 cH (cH (cH (cH (cH (cH h b a _ _) b a _ _) b a _ _) b a _ _) b a _ _) b a _ _
def qQ{h:F}{g:Nat}{a b c d e f:U}{t:Vc}(i:h.heap[g]? =I (.cells #[a,b,c,d,e,f] t (0,0))):h.frozen? ⟨g,0,K⟩=U5/\h.frozen? ⟨g,1,K⟩=U5/\h.frozen? ⟨g,2,K⟩=U5/\h.frozen? ⟨g,3,K⟩=U5/\h.frozen? ⟨g,4,K⟩=U5/\h.frozen? ⟨g,5,K⟩=U5:=by
 unfold VW;simp[i]
def yJ(n:Nat)(ah:List Int)(rs:List bT)(d:Option VI)(a:Nat)(b c:U)(co:Option VI)(cb bH aG:Nat)(ro:Option VI)(rb bF aK:Nat)(sk:Bool)(w:F)(l:ah.length<=Vp)(m:rs.length<=Vp)
 (h:0<ah.length->co=I ⟨cb,bH,K⟩) (k:0<ah.length->cb<w.heap.size) (i:∀j,j<ah.length->cD w cb (bH+j) (.int .i64 (ah.getD j 0))) (o:dK w ro rb bF rs):
 bK 27 #[.agg #[.slice d n a,b,c,.slice co ah.length aG,.slice ro rs.length aK,.bool sk]] w λe w'=>e= .returned (.bool (uH n ah rs))/\aQ w w':=by
 refine(yI n ah rs d a b c co cb bH aG ro rb bF aK sk w l m h k i o).mono ?_;rintro e w' ⟨p,rfl,f,g⟩;refine⟨qO ?_,g⟩;rw[Bool.eq_iff_iff,f];unfold uH;rw[Vr,Vx,Vx,List.forall_mem_iff_forall_getElem,List.forall_mem_iff_forall_getElem]
def AL(l:List (bQ×Int))(rs:List bT)(f h:Nat)(b c d:U)(ro:Option VI)(rb bF aK:Nat)(sk:Bool)(w:F)(u:rs.length<=Vp)(k:om l)(a:dK w ro rb bF rs)(m:∀r∈rs,cU l.length r.col=Z)(s:f<w.heap.size)(q:∀j x,l[j]? =I x->cD w f (j*2+1) (.int .i64 x.1.kind)):
 bK 28 #[.agg #[.slice (I ⟨f,0,K⟩) l.length h,b,c,d,.slice ro rs.length aK,.bool sk]] w λe w'=>e= .returned (.bool (Fe l rs))/\aQ w w':=by
 have t:l.length<=Vp:=by have:=k.each.2;unfold Vp;omega
 refine(AK l.length rs (o7 l) f h b c d ro rb bF aK sk w u t a λr a=>?_).mono ?_
 ·obtain⟨o,y⟩:=pL.1 (m r a);obtain⟨j,i⟩:=XO o;have g:j<l.length:=by omega
  refine⟨j,i,g,s,?_,xC k (m r a)⟩;have:=q j _ (Vf g);rw[this];unfold o7;rw[i,Vk];simp[g]
 ·rintro e w' ⟨v,rfl,n,p⟩;refine⟨qO ?_,p⟩;rw[Bool.eq_iff_iff,n];unfold Fe;rw[Vx,List.forall_mem_iff_forall_getElem]
def dK.cells{w:F}{f:Option VI}{b off:Nat}{l:List bT}(h:dK w f b off l):∀j u,(gE l)[j]? =I u->cD w b (off+j) u:=by
 intro j u e;have o:j<l.length*7:=by rw[<-sj];exact(Vs.1 e).1
 have c:j/7<l.length:=by omega
 have g:j=j/7*7+j%7:=by omega
 have p:j%7<7:=Nat.mod_lt _ (by decide);have n:(gE l)[j/7*7+j%7]? =I u:=by rw[<-g];exact e
 have d:∀a v,j%7=a->(sU l[j/7])[a]? =I v->u=v:=λa v k m=>by
  have:=oK l (j/7) c a v m;rw[<-k,n] at this;exact Zm this
 have i:off+j=off+j/7*7+j%7:=by omega
 rw[i];generalize j%7=a at*;have:a=0\/a=1\/a=2\/a=3\/a=4\/a=5\/a=6:=by omega
 rcases this with rfl|rfl|rfl|rfl|rfl|rfl|rfl
 ·rw[d 0 _ Y Y];exact h.c0 _ c
 ·rw[d 1 _ Y Y];exact h.c1 _ c
 ·rw[d 2 _ Y Y];exact h.c2 _ c
 ·rw[d 3 _ Y Y];exact h.c3 _ c
 ·rw[d 4 _ Y Y];exact h.c4 _ c
 ·rw[d 5 _ Y Y];exact h.c5 _ c
 ·rw[d 6 _ Y Y];exact h.c6 _ c
structure DU(W:F)(base:Nat)(l:List (bQ×Int))(L:List (Bd×U))(a b c cv rv:U)(ah:List Int)(rs:List bT):Prop where
 f:dh W base l L a b c
 c:Me W base cv ah
 r:Ra W base rv rs
def DU.put{d:F}{base:Nat}{l:List (bQ×Int)}{L:List (Bd×U)}{a b c f i:U}{ah:List Int}{rs:List bT}(h:DU d base l L a b c f i ah rs){g:Nat}{cs:Array U}(e:d.heap[g]? =I (.cells cs 68 (0,0)))(o:Nat)(u:U):DU (d.setCell ⟨g,o,K⟩ u) base l L a b c f i ah rs:=by
 refine⟨⟨h.f.ah.kept (aL d g o u) (.inr (bh h.f.ah e (by decide)).symm),h.f.n5.kept (aL d g o u) (.inr (bh h.f.n5 e (by decide)).symm),h.f.cj.put e (by decide) (by decide) o u⟩,h.c.imp (λh=>h) λh=>⟨h.1,h.2.kept (aL d g o u) (.inr (bh h.2 e (by decide)).symm)⟩,h.r.imp (λh=>h) λh=>⟨h.1,h.2.kept (aL d g o u) (.inr (bh h.2 e (by decide)).symm)⟩⟩
def DU.wX{d:F}{base:Nat}{l:List (bQ×Int)}{L:List (Bd×U)}{a b c e n:U}{ah:List Int}{rs:List bT}(h:DU d base l L a b c e n ah rs){g:Nat}{u v w x y z:U}(o p q r s A:U)(m:d.heap[g]? =I (.cells #[u,v,w,x,y,z] 68 (0,0))):DU (wX d g o p q r s A) base l L a b c e n ah rs:=by
 have f:=Vl d g 0 _ _ o m;have i:=Vl _ g 1 _ _ p f;have j:=Vl _ g 2 _ _ q i;have k:=Vl _ g 3 _ _ r j;have t:=Vl _ g 4 _ _ s k;exact(((((h.put m _ _).put f _ _).put i _ _).put j _ _).put k _ _).put t _ _
def Ud (w:F)(a:Gj)(ah:List Int)(rs:List bT)(sk:Bool)(e:X6)(w':F):Prop:=
 aQ w w'/\((iV a ah rs≠0/\e= .returned (.tuple #[.agg #[aM,aM,aM,aM,aM,.bool U5],.int .i64 (iV a ah rs:Int)]))\/
  (∃(i:List (bQ×Int)) (f:List Bd) (b:List (Bd×U)) (c d g h j:U),a=I (i,f)/\iV a ah rs=0/\e= .returned (.tuple #[.agg #[c,d,g,h,j,.bool sk],.int .i64 0])/\b.map Vy=f/\dh w' w.heap.size i b c d g/\Me w' w.heap.size h ah/\Ra w' w.heap.size j rs))
def Pn(s:ByteArray)(A:Gj)(ah:List Int)(rs:List bT)(co:Option VI)(cb bH aG:Nat)(ro:Option VI)(rb bF aK:Nat)(sk:Bool)(w:F)(eA:s.size<=Vp)(hF:sH s A)(eq:ah.length<=1000)(e1:rs.length<=1000)
 (em:0<ah.length->co=I ⟨cb,bH,K⟩) (eo:0<ah.length->cb<w.heap.size) (en:∀j,j<ah.length->cD w cb (bH+j) (.int .i64 (ah.getD j 0))) (Y:dK w ro rb bF rs):
 bK 17 #[.string s,.slice co ah.length aG,.slice ro rs.length aK,.bool sk] w (Ud w A ah rs sk):=by
 have b3:=af em;have a6:=af eo;have dr:=af en;have dT:=af Y;have a7:=af hF;have b5:=af eq;have bb:=af e1;have ae:X ((w.alloc (.cells #[aM,aM,aM,aM,aM,.bool U5] 68)).heap[w.heap.size]? =I (.cells #[aM,aM,aM,aM,aM,.bool U5] 68 (0,0))):=bC w _;have b2:X (aQ w (w.alloc (.cells #[aM,aM,aM,aM,aM,.bool U5] 68))):=(Vi _ _).alloc (U7 _) _;go_enter av.func17,Tryz.ntmps17
 go_wp2_with fail
 refine(Bt s _ eA).mono ?_;rintro u k ⟨W,⟨a,cn,b,e6,e7,e8,rfl,a2,eb,aw,fa⟩|⟨rfl,eQ⟩⟩;rotate_left
 ·have d8:iV A ah rs=3:=by
   cases A with
   |none=>rfl
   |some e4=>exact(eQ _ _ a7.o.1).elim
  have a3:=Va ae.o;have br:(k.alloc (.cells #[aM,aM,aM] 66)).heap[w.heap.size]? =I (.cells #[aM,aM,aM,aM,aM,.bool U5] 68 (0,0)):=by rw[VH _ _ _ (U9 a3 W.size)];exact(W.block _ a3).trans ae.o
  have U:aQ w k:=b2.o.trans (W.mono (by simp));have d6:aQ w (k.alloc (.cells #[aM,aM,aM] 66)):=U.alloc U.size _;have q:=af d8
  go_upto_region 3 with fail
  generalize k.alloc (.cells #[aM,aM,aM] 66)=d3 at*;have B:X (aQ w (wX d3 w.heap.size aM aM aM aM aM (.bool U5))):=pg _ _ _ _ _ _ d6 (U7 _) (U7 _);obtain⟨bx,bz,bA,bB,b0,b1⟩:=jy br;obtain⟨be,bi,bj,bk,bl,bm⟩:=qQ br;obtain⟨L,M,N,O,P,Q⟩:=jy (xH aM aM aM aM aM (.bool U5) br);unfold wX at*;go_wp2;simp[Xw,V0,Tryz.results17,go_sem,L,M,N,O,P,Q];exact⟨B.o,.inl ⟨by rw[q.o];decide,by rw[q.o];rfl⟩⟩
 ·have d9:A=I (a,cn):=by
   cases A with
   |none=>exact(a7.o _ _ a2).elim
   |some e4=>
    obtain⟨d4,d5⟩:=a7.o.2 _ _ a2;rw[d4,d5]
  have ad:=af d9;have dO:=af eb;have e0:0<a.length:=by
   have:=a2.1.pl.1.1;simp at this;omega
  have a8:=af a2.1.pl;obtain⟨c,f,rfl,fb,c4,e3⟩:=mh aw.ah e0;obtain⟨e,d,rfl⟩:=cF aw.n5;obtain⟨g,h,rfl⟩:=cF aw.cj.own;have a3:=Va ae.o;have U:aQ w k:=b2.o.trans (W.mono (by simp));have cs:k.heap[w.heap.size]? =I (.cells #[aM,aM,aM,aM,aM,.bool U5] 68 (0,0)):=(W.block _ a3).trans ae.o;have et:w.heap.size<k.heap.size:=Va cs;have V:aQ k ((k.alloc (.cells #[.slice (I ⟨c,0,K⟩) a.length f,.slice e a.length d,.slice g b.length h] 66)).alloc (.cells #[.slice (I ⟨c,0,K⟩) a.length f,.slice e a.length d,.slice g b.length h,.slice co ah.length aG,.slice ro rs.length aK,.bool sk] 68)):=((Vi _ _).alloc (U7 _) _).alloc (by simp) _;have a9:X (((k.alloc (.cells #[.slice (I ⟨c,0,K⟩) a.length f,.slice e a.length d,.slice g b.length h] 66)).alloc (.cells #[.slice (I ⟨c,0,K⟩) a.length f,.slice e a.length d,.slice g b.length h,.slice co ah.length aG,.slice ro rs.length aK,.bool sk] 68)).heap[k.heap.size+1]? =I (.cells #[.slice (I ⟨c,0,K⟩) a.length f,.slice e a.length d,.slice g b.length h,.slice co ah.length aG,.slice ro rs.length aK,.bool sk] 68 (0,0))):=kw _ _ _;have al:X (((k.alloc (.cells #[.slice (I ⟨c,0,K⟩) a.length f,.slice e a.length d,.slice g b.length h] 66)).alloc (.cells #[.slice (I ⟨c,0,K⟩) a.length f,.slice e a.length d,.slice g b.length h,.slice co ah.length aG,.slice ro rs.length aK,.bool sk] 68)).heap[w.heap.size]? =I (.cells #[aM,aM,aM,aM,aM,.bool U5] 68 (0,0))):=(V.block _ et).trans cs;have B:X (aQ w ((k.alloc (.cells #[.slice (I ⟨c,0,K⟩) a.length f,.slice e a.length d,.slice g b.length h] 66)).alloc (.cells #[.slice (I ⟨c,0,K⟩) a.length f,.slice e a.length d,.slice g b.length h,.slice co ah.length aG,.slice ro rs.length aK,.bool sk] 68))):=U.trans (V.mono U.size);have dD:X (dh ((k.alloc (.cells #[.slice (I ⟨c,0,K⟩) a.length f,.slice e a.length d,.slice g b.length h] 66)).alloc (.cells #[.slice (I ⟨c,0,K⟩) a.length f,.slice e a.length d,.slice g b.length h,.slice co ah.length aG,.slice ro rs.length aK,.bool sk] 68)) w.heap.size a b (.slice (I ⟨c,0,K⟩) a.length f) (.slice e a.length d) (.slice g b.length h)):=(aw.base (by simp)).below V;have es:c<((k.alloc (.cells #[.slice (I ⟨c,0,K⟩) a.length f,.slice e a.length d,.slice g b.length h] 66)).alloc (.cells #[.slice (I ⟨c,0,K⟩) a.length f,.slice e a.length d,.slice g b.length h,.slice co ah.length aG,.slice ro rs.length aK,.bool sk] 68)).heap.size:=U9 c4 V.size;have dE:X (∀j E,a[j]? =I E->((k.alloc (.cells #[.slice (I ⟨c,0,K⟩) a.length f,.slice e a.length d,.slice g b.length h] 66)).alloc (.cells #[.slice (I ⟨c,0,K⟩) a.length f,.slice e a.length d,.slice g b.length h,.slice co ah.length aG,.slice ro rs.length aK,.bool sk] 68)).cell? ⟨c,j*2+1,K⟩=I (.int .i64 E.1.kind)):=λj E p=>by
   obtain⟨bs,rfl⟩:=Vs.1 p;have:=(Bj (a.map Vy) j (by simpa using bs)).2;simp only[YR] at this;exact(V.cell (p:=⟨c,j*2+1,K⟩) c4).trans (e3 _ _ this)
  have b6:X (w.heap.size≠k.heap.size+1):=by show _≠_;omega
  have b7:X (w.heap.size<=k.heap.size+1):=by show _<=_;omega
  go_upto_region 5 with fail
  generalize (k.alloc (.cells #[.slice (I ⟨c,0,K⟩) a.length f,.slice e a.length d,.slice g b.length h] 66)).alloc (.cells #[.slice (I ⟨c,0,K⟩) a.length f,.slice e a.length d,.slice g b.length h,.slice co ah.length aG,.slice ro rs.length aK,.bool sk] 68)=ao at*;generalize k.heap.size+1=o at*;have cx:=B.o.size;have cB:∀j,j<ah.length->cD ao cb (bH+j) (.int .i64 (ah.getD j 0)):=λj p=>(B.o.cell (p:=⟨cb,bH+j,K⟩) (a6.o (by omega))).trans (dr.o j p);have c2:dK ao ro rb bF rs:=dT.o.below B.o;have aa:=yJ a.length ah rs (I ⟨c,0,K⟩) f (.slice e a.length d) (.slice g b.length h) co cb bH aG ro rb bF aK sk ao (by have:=b5.o;unfold Vp;omega) (by have:=bb.o;unfold Vp;omega) b3.o (λl=>U9 (a6.o l) cx) cB c2;have ds:=af cB;have d0:=af c2;have b4:X (0<ah.length->cb<ao.heap.size):=λl=>U9 (a6.o l) cx;obtain⟨c5,c6,c7,c8,c9,da⟩:=jy a9.o;have ca:=af es;cases a1:uH a.length ah rs
  ·rw[a1] at aa;have q:X (iV A ah rs=4):=by
    show _=_;rw[ad.o];simp[iV,a1]
   go_upto_region 6 with(go_at_call 27;refine aa.mono ?_;rintro u m ⟨rfl,i⟩;have H:m.heap[w.heap.size]? =I (.cells #[aM,aM,aM,aM,aM,.bool U5] 68 (0,0)):=(i.block _ (Va al.o)).trans al.o;have R:X (aQ w m):=B.o.trans (i.mono B.o.size))
   have C:X (aQ w (wX m w.heap.size aM aM aM aM aM (.bool U5))):=pg _ _ _ _ _ _ R.o (U7 _) (U7 _);obtain⟨bx,bz,bA,bB,b0,b1⟩:=jy H;obtain⟨be,bi,bj,bk,bl,bm⟩:=qQ H;obtain⟨L,M,N,O,P,Q⟩:=jy (xH aM aM aM aM aM (.bool U5) H);unfold wX at*;go_wp2;simp[Xw,V0,Tryz.results17,go_sem,L,M,N,O,P,Q];exact⟨C.o,.inl ⟨by rw[q.o];decide,by rw[q.o];rfl⟩⟩
  ·rw[a1] at aa;have a5:=af a1
   go_upto_region 7 with(go_at_call 27;refine aa.mono ?_;rintro u m ⟨rfl,i⟩;have am:X (m.heap[w.heap.size]? =I (.cells #[aM,aM,aM,aM,aM,.bool U5] 68 (0,0))):=(i.block _ (Va al.o)).trans al.o;have ba:X (m.heap[o]? =I (.cells #[.slice (I ⟨c,0,K⟩) a.length f,.slice e a.length d,.slice g b.length h,.slice co ah.length aG,.slice ro rs.length aK,.bool sk] 68 (0,0))):=(i.block _ (Va a9.o)).trans a9.o;have R:X (aQ w m):=B.o.trans (i.mono B.o.size);have dv:X (dh m w.heap.size a b (.slice (I ⟨c,0,K⟩) a.length f) (.slice e a.length d) (.slice g b.length h)):=dD.o.below i;have dp:X (∀j,j<ah.length->cD m cb (bH+j) (.int .i64 (ah.getD j 0))):=λj p=>(i.cell (p:=⟨cb,bH+j,K⟩) (b4.o (by omega))).trans (ds.o j p);have cf:X (dK m ro rb bF rs):=d0.o.below i;have du:X (0<ah.length->cb<m.heap.size):=λl=>U9 (b4.o l) i.size;have b8:X (c<m.heap.size/\∀j E,a[j]? =I E->cD m c (j*2+1) (.int .i64 E.1.kind)):=⟨U9 ca.o i.size,λj E p=>(i.cell (p:=⟨c,j*2+1,K⟩) ca.o).trans (dE.o j E p)⟩)
   obtain⟨c5,c6,c7,c8,c9,da⟩:=jy ba.o;have c3:∀D∈rs,cU a.length D.col=Z:=by
    have:=a5.o;unfold uH at this;rw[Vr,Vx,Vx] at this;exact this.2
   have ab:=AL a rs c f (.slice e a.length d) (.slice g b.length h) (.slice co ah.length aG) ro rb bF aK sk m (by have:=bb.o;unfold Vp;omega) a8.o cf.o c3 b8.o.1 b8.o.2;have ci:=af c3;cases S:Fe a rs
   ·rw[S] at ab;have q:X (iV A ah rs=5):=by
     show _=_;rw[ad.o];simp[iV,S,a5.o]
    go_upto_region 8 with(go_at_call 28;refine ab.mono ?_;rintro u n ⟨rfl,i⟩;have H:n.heap[w.heap.size]? =I (.cells #[aM,aM,aM,aM,aM,.bool U5] 68 (0,0)):=(i.block _ (Va am.o)).trans am.o;have C:X (aQ w n):=R.o.trans (i.mono R.o.size))
    have T:X (aQ w (wX n w.heap.size aM aM aM aM aM (.bool U5))):=pg _ _ _ _ _ _ C.o (U7 _) (U7 _);obtain⟨bx,bz,bA,bB,b0,b1⟩:=jy H;obtain⟨be,bi,bj,bk,bl,bm⟩:=qQ H;obtain⟨L,M,N,O,P,Q⟩:=jy (xH aM aM aM aM aM (.bool U5) H);unfold wX at*;go_wp2;simp[Xw,V0,Tryz.results17,go_sem,L,M,N,O,P,Q];exact⟨T.o,.inl ⟨by rw[q.o];decide,by rw[q.o];rfl⟩⟩
   ·rw[S] at ab;have q:X (iV A ah rs=0):=by
     show _=_;rw[ad.o];simp[iV,S,a5.o]
    have d1:X (∀D∈rs,D.low.s.size<=32/\D.high.s.size<=32):=λD Y=>by
     unfold Fe at S;have ar:=Vx.1 S D Y;unfold kK at ar;rw[Vr] at ar;exact⟨yR (xC a8.o (ci.o D Y)) ar.1,yR (xC a8.o (ci.o D Y)) ar.2⟩
    go_upto_region 9 with(go_at_call 28;refine ab.mono ?_;rintro u n ⟨rfl,i⟩;have ck:X (n.heap[w.heap.size]? =I (.cells #[aM,aM,aM,aM,aM,.bool U5] 68 (0,0))):=(i.block _ (Va am.o)).trans am.o;have cc:X (n.heap[o]? =I (.cells #[.slice (I ⟨c,0,K⟩) a.length f,.slice e a.length d,.slice g b.length h,.slice co ah.length aG,.slice ro rs.length aK,.bool sk] 68 (0,0))):=(i.block _ (Va ba.o)).trans ba.o;have C:X (aQ w n):=R.o.trans (i.mono R.o.size);have dC:X (dh n w.heap.size a b (.slice (I ⟨c,0,K⟩) a.length f) (.slice e a.length d) (.slice g b.length h)):=dv.o.below i;have dq:X (∀j,j<ah.length->cD n cb (bH+j) (.int .i64 (ah.getD j 0))):=λj p=>(i.cell (p:=⟨cb,bH+j,K⟩) (du.o (by omega))).trans (dp.o j p);have ch:X (dK n ro rb bF rs):=cf.o.below i)
    have db:=Az ah co cb bH aG n b5.o b3.o (λj fe p=>by
     obtain⟨bs,u⟩:=Vs.1 p;have c1:j<ah.length:=by simpa [bq] using bs
     rw[dq.o j c1,<-u];simp[bq,Vk,c1])
    have dc:=λcl (ef:aQ n cl)=>ym rs ro rb bF aK cl bb.o (λl=>ch.o.addr l) (ch.o.below ef).cells d1.o
    go_upto_region 10 with(first|(go_at_call 29;refine db.mono ?_;rintro u bv ⟨cu,eh⟩;have er:∃bc,u= .returned bc/\Me bv n.heap.size bc ah:=eh.elim (fun⟨G,bd,J⟩=>⟨_,J,.inl ⟨G,bd,rfl⟩⟩) (fun⟨G,v,J,bt⟩=>⟨v,J,.inr ⟨G,bt⟩⟩);obtain⟨bc,rfl,cR⟩:=er;obtain⟨r,e9,t,rfl,_⟩:=cR.at_;have dt:=af cR;have T:=af cu;have dd:=dc bv cu)|(go_at_call 30;refine dd.mono ?_;rintro u z ⟨cv,el⟩;have e2:∃bu,u= .returned bu/\Ra z bv.heap.size bu rs:=el.elim (fun⟨G,bd,J⟩=>⟨_,J,.inl ⟨G,bd,rfl⟩⟩) (fun⟨G,v,J,bt⟩=>⟨v,J,.inr ⟨G,bt⟩⟩);obtain⟨bu,rfl,c0⟩:=e2;obtain⟨x,fd,y,rfl,_⟩:=c0.at_;have au:aQ n z:=T.o.trans (cv.mono T.o.size);have dn:X (aQ w z):=C.o.trans (au.mono C.o.size);have ee:z.heap[w.heap.size]? =I (.cells #[aM,aM,aM,aM,aM,.bool U5] 68 (0,0)):=(au.block _ (Va ck.o)).trans ck.o;have bo:z.heap[o]? =I (.cells #[.slice (I ⟨c,0,K⟩) a.length f,.slice e a.length d,.slice g b.length h,.slice co ah.length aG,.slice ro rs.length aK,.bool sk] 68 (0,0)):=(au.block _ (Va cc.o)).trans cc.o;have df:X (DU z w.heap.size a b (.slice (I ⟨c,0,K⟩) a.length f) (.slice e a.length d) (.slice g b.length h) (.slice r ah.length t) (.slice x rs.length y) ah rs):=⟨dC.o.below au,(dt.o.below cv).imp (λl=>l) (λl=>⟨l.1,bE l.2 C.o.size⟩),c0.imp (λl=>l) (λl=>⟨l.1,bE l.2 (Vm C.o.size T.o.size)⟩)⟩;obtain⟨u0,u1,u2,u3,u4,u5⟩:=jy bo;obtain⟨fg,fi,fk,fl,fm,ft⟩:=qQ bo;have d2:=af ee;have cd:=af bo))
    have cp:=Vl _ o 3 _ _ (.slice r ah.length t) cd.o;have ec:=Vl _ o 4 _ _ (.slice x rs.length y) cp;have a0:((z.setCell ⟨o,3,K⟩ (.slice r ah.length t)).setCell ⟨o,4,K⟩ (.slice x rs.length y)).heap[w.heap.size]? =I (.cells #[aM,aM,aM,aM,aM,.bool U5] 68 (0,0)):=by
     rw[Vj _ _ _ _ b6.o,Vj _ _ _ _ b6.o];exact d2.o
    have dk:X (DU ((z.setCell ⟨o,3,K⟩ (.slice r ah.length t)).setCell ⟨o,4,K⟩ (.slice x rs.length y)) w.heap.size a b (.slice (I ⟨c,0,K⟩) a.length f) (.slice e a.length d) (.slice g b.length h) (.slice r ah.length t) (.slice x rs.length y) ah rs):=(df.o.put cd.o _ _).put cp _ _;have d7:aQ w ((z.setCell ⟨o,3,K⟩ (.slice r ah.length t)).setCell ⟨o,4,K⟩ (.slice x rs.length y)):=cH (cH dn.o (U7 _) b7.o _ _) (U7 _) b7.o _ _;generalize ((z.setCell ⟨o,3,K⟩ (.slice r ah.length t)).setCell ⟨o,4,K⟩ (.slice x rs.length y))=e5 at*;have a4:X _:=dk.o.wX (.slice (I ⟨c,0,K⟩) a.length f) (.slice e a.length d) (.slice g b.length h) (.slice r ah.length t) (.slice x rs.length y) (.bool sk) a0;have dl:X _:=pg (.slice (I ⟨c,0,K⟩) a.length f) (.slice e a.length d) (.slice g b.length h) (.slice r ah.length t) (.slice x rs.length y) (.bool sk) d7 (U7 _) (U7 _);obtain⟨L,M,N,O,P,Q⟩:=jy (xH (.slice (I ⟨c,0,K⟩) a.length f) (.slice e a.length d) (.slice g b.length h) (.slice r ah.length t) (.slice x rs.length y) (.bool sk) a0);obtain⟨bx,bz,bA,bB,b0,b1⟩:=jy a0;obtain⟨be,bi,bj,bk,bl,bm⟩:=qQ a0;obtain⟨c5,c6,c7,c8,c9,da⟩:=jy ec;unfold wX at*;go_wp2;simp[Xw,V0,Tryz.results17,go_sem,L,M,N,O,P,Q];exact⟨dl.o,.inr ⟨a,cn,b,_,_,_,_,_,ad.o,q.o,rfl,dO.o,a4.o.f,a4.o.c,a4.o.r⟩⟩
end Ec
namespace Ec
open Go.RowKit Pk Pm
open Cc (Me Ra Gj sH uH o7 Fe iV mh FM Rk sE dR fN FM.kept)
def tD (w:F)(a:Gj)(ah:List Int)(rs:List bT)(sk:Bool)(e:X6)(w':F):Prop:=
 aQ w w'/\((iV a ah rs≠0/\e= .returned (.tuple #[.pointer K,.int .i64 (iV a ah rs:Int)]))\/
  (∃(d:List (bQ×Int)) (b:List Bd) (c g p f o:Nat) (k:Option VI) (l cm:Nat) (cJ lS:Nat->Nat) (j:Option VI) (i aG:Nat) (n:Option VI) (m aK:Nat),a=I (d,b)/\iV a ah rs=0/\e= .returned (.tuple #[(aP c),.int .i64 0])/\w.heap.size<=c/\w'.heap[c]? =I (.cells (fN (dR g d.length p f d.length o k b.length cm j ah.length aG n rs.length aK sk) 0 0) 72 (0,0))/\FM w' d b ah rs g f k l cJ lS j i 0 n m 0/\∀h,sE g f l cJ i m b.length ah.length rs.length h->w.heap.size<=h/\h<c))
def xZ(a:Gj)(ah:List Int)(rs:List bT):iV a ah rs=0\/iV a ah rs=3\/iV a ah rs=4\/iV a ah rs=5:=by
 unfold iV
 split
 ·simp
 ·split
  ·split<;>simp
  ·simp
def oM(s:ByteArray)(b:Gj)(ah:List Int)(rs:List bT)(co:Option VI)(cb bH aG:Nat)(ro:Option VI)(rb bF aK:Nat)(sk:Bool)(w:F)(aa:s.size<=Vp)(hF:sH s b)(V:ah.length<=1000)(ae:rs.length<=1000)
 (R:0<ah.length->co=I ⟨cb,bH,K⟩) (U:0<ah.length->cb<w.heap.size) (S:∀j,j<ah.length->cD w cb (bH+j) (.int .i64 (ah.getD j 0))) (ad:dK w ro rb bF rs):
 bK 8 #[.string s,.slice co ah.length aG,.slice ro rs.length aK,.bool sk] w (tD w b ah rs sk):=by
 have C:=Pn s b ah rs co cb bH aG ro rb bF aK sk w aa hF V ae R U S ad;have z:=af hF;go_enter av.func8,Tryz.ntmps8
 go_wp2_with fail
 refine C.mono ?_;rintro a1 d ⟨l,⟨ab,rfl⟩|⟨a,c,ao,ar,au,aw,a0,a3,B,M,rfl,P,O,T,W⟩⟩
 ·have a2:=xZ b ah rs;have L:aQ w (d.alloc (.cells #[aM,aM,aM,aM,aM,.bool U5] 68)):=l.alloc l.size _;have t:=af L;have am:=af ab;have u:X (∀m,iV b ah rs=m->m≠0->∀v,aQ w v->tD w b ah rs sk (.returned (.tuple #[.pointer K,.int .i64 (m:Int)])) v):=λm A H v Q=>⟨Q,.inl ⟨by rw[A];exact H,by rw[A]⟩⟩;generalize iV b ah rs=m at*;have J:m=3\/m=4\/m=5:=by omega
  rcases J with rfl|rfl|rfl
  ·go_wp2;simp[Xw,V0,Tryz.results8,go_sem];exact u.o 3 Y (by decide) _ t.o
  ·go_wp2;simp[Xw,V0,Tryz.results8,go_sem];exact u.o 4 Y (by decide) _ t.o
  ·go_wp2;simp[Xw,V0,Tryz.results8,go_sem];exact u.o 5 Y (by decide) _ t.o
 ·have Z:xu a c:=by
   rw[B] at z;exact z.o.1.1
  obtain⟨n,g,k,f,i,G,cm,cJ,lS,h,E,e,p,al,o,rfl,rfl,rfl,rfl,rfl,N,y⟩:=Rk Z P O T W;have x:aQ d ((d.alloc (.cells #[.slice (I ⟨n,0,K⟩) a.length g,.slice (I ⟨k,0,K⟩) a.length f,.slice i c.length cm,.slice h ah.length e,.slice p rs.length o,.bool sk] 68)).alloc (.cells #[.slice (I ⟨n,0,K⟩) a.length g,.slice (I ⟨k,0,K⟩) a.length f,.slice i c.length cm,.slice h ah.length e,.slice p rs.length o,.bool sk,.int .i64 0,.int .i64 0] 72)):=((Vi _ _).alloc (U7 _) _).alloc (by simp) _;have D:X (tD w b ah rs sk (.returned (.tuple #[(aP (d.heap.size+1)),.int .i64 0])) ((d.alloc (.cells #[.slice (I ⟨n,0,K⟩) a.length g,.slice (I ⟨k,0,K⟩) a.length f,.slice i c.length cm,.slice h ah.length e,.slice p rs.length o,.bool sk] 68)).alloc (.cells #[.slice (I ⟨n,0,K⟩) a.length g,.slice (I ⟨k,0,K⟩) a.length f,.slice i c.length cm,.slice h ah.length e,.slice p rs.length o,.bool sk,.int .i64 0,.int .i64 0] 72))):=
   ⟨l.trans (x.mono l.size),.inr ⟨a,c,d.heap.size+1,n,g,k,f,i,G,cm,cJ,lS,h,E,e,p,al,o,B,M,rfl,by have:=l.size;omega,kw _ _ _,N.kept x.size (λq r=>Cc.oJ (x.block q (y q r).2)),λq r=>⟨(y q r).1,by have:=(y q r).2;omega⟩⟩⟩
  go_wp2;simp[Xw,V0,Tryz.results8,go_sem];exact D.o
def fZ(cu:Nat)(w:F):bK 16 #[(aP cu)] w λe w'=>e= .returned (.func (.func 24) #[] #[(aP w.heap.size)])/\w'=w.alloc (.cells #[(aP cu)] 31):=by
 have c:∀(b:Fn) (first a:Array U) (w:F),(Instr.makeFunc b first a).run (ax U1) w= .ok (.func b first a) w:=λ_ _ _ _=>rfl;go_enter av.func16,Tryz.ntmps16;go_wp2;go_ret;exact⟨rfl,rfl⟩
def ju(cu:Nat)(v:U)(w:F)(h:cD w cu 7 v):bK 12 #[(aP cu)] w λe w'=>e= .returned v/\w'=w:=by
 go_enter av.func12,Tryz.ntmps12;go_wp2;go_ret;exact⟨rfl,rfl⟩
def tI(cu:Nat)(v:U)(w:F)(h:cD w cu 6 v):bK 11 #[(aP cu)] w λe w'=>e= .returned v/\w'=w:=by
 go_enter av.func11,Tryz.ntmps11;go_wp2;go_ret;exact⟨rfl,rfl⟩
end Ec
namespace Cc
open Go Go.Conc
open Go.RowKit (Below)
open Ec (aC az bT dK qv bQ Bd aI gQ tD oM fZ ju)
section
variable {P0 P:Vb}{Post:U->F->Prop}{own:Nat->Prop}{cs:List Vg}{w:F}{b:Vg}{a:Xa}{k:List XR}{ops:Array Ww}{i:Nat}{rest:List Nat}{o:Ww}
def jM{d:F}(e:∀(b:Nat) o,w.heap[b]? =I o->bf P0 o->d.heap[b]? =I o){p:VI}{v:U}(h:w.cell? p=I v):d.cell? p=I v:=by
 unfold Ve at h ⊢;cases c:w.heap[p.block]? with
 |none=>rw[c] at h;cases h
 |some f=>
  rw[c] at h;cases f<;>first|(cases h;done)|skip
  rw[e _ _ c trivial];exact h
def xE{f:F}(e:∀(b:Nat) o,w.heap[b]? =I o->bf P0 o->f.heap[b]? =I o)(m:w.heap.size<=f.heap.size){g:Option VI}{b off:Nat}{l:List bT}(h:dK w g b off l):dK f g b off l:=
 ⟨h.addr,λj=>U9 (h.lt j) m,λd c=>jM e (h.c0 d c),λd c=>jM e (h.c1 d c),λd c=>jM e (h.c2 d c),λd c=>jM e (h.c3 d c),λd c=>jM e (h.c4 d c),λd c=>jM e (h.c5 d c),λd c=>jM e (h.c6 d c)⟩
def dY (w:F):Nat->Prop:=λb=>b<w.heap.size
def DH{fr:Vg}(h:∀c,RelB own w c->Xe P0 P Post (dY c) fr cs c):Xe P0 P Post own fr cs w:=λf c e d=>h c e (λb h=>h) c (RelB.refl _ _) d
def nS(h:Twins P0 P){f:Xb}{fn:XJ}{c:XQ}{args:Array V4}{ats:Array Vc}{vs:Array U}{R:F->U->F->Prop}(M:b.kind= .normal)(p:ops[i]? =I o)(aa:VA o (We ops a.tmps)=Z)(T:o.op= .call {callee:=.value (.func f),args,argTypes:=ats})(K:args.map a.eval=vs)
 (O:P.funcs[f]? =I fn) (S:(fn.name == "runtime.NumGoroutine")=U5) (L:fn.body=I c) (Q:P.funcs[f]? =P0.funcs[f]?) (W:eH P0 (b.at a (.inRegion ops (i::rest)::k)) [])
 (hR:∀d,(∀(b:Nat) o,w.heap[b]? =I o->bf P0 o->d.heap[b]? =I o)->w.heap.size<=d.heap.size->Calls P0 f vs d λe W'=>aQ d W'/\∃v,e= .returned v/\R d v W')
 (H:∀v d W' w',(∀(b:Nat) o,w.heap[b]? =I o->bf P0 o->d.heap[b]? =I o)->w.heap.size<=d.heap.size->aQ d W'->R d v W'->Un W' w'->RelB (dY w) w w'->Xe P0 P Post (dY w') (b.at (a.put o.dst v) (.inRegion ops rest::k)) cs w'):Xe P0 P Post (dY w) (b.at a (.inRegion ops (i::rest)::k)) cs w:=by
 intro z;refine oa (P0:=P0) (R:=λn e ab=>∃m,Mk P0 m n/\Tl m n (λe W'=>∃d,d.heap=m.heap/\aQ d W'/\∃v,e= .returned v/\R d v W') e ab) M p aa T K O S L W (λn g=>?_) (λn v w' g Y x V=>?_) (λn ad w' ⟨_,_,_,_,_,_,d,_,_,v,e,_⟩=>by cases e) (λn w' ⟨_,_,_,_,_,_,d,_,_,v,e,_⟩=>by cases e) z
 ·obtain⟨m,l⟩:=Bw P0 n;intro B C q j E G;exact qw h l.hp l.un Q (λw' ⟨d,_,_,v,e,_⟩=>by cases e) (λr=>(hR (sh r 0 m) (λb o p t=>l.at_ b o ((g.at_ b (U4.1 p).1).trans p) t) (by show w.heap.size<=m.heap.size;rw[<-l.un.size];exact g.size)).mono λe W' ⟨q,j⟩=>⟨sh r 0 m,rfl,q,j⟩) B C q j E λe w' N=>G e w' ⟨m,l,N⟩
 obtain⟨m,l,r,D,W',j,d,u,s,ae,e,J⟩:=Y;cases e;have X:d.heap.size<=w'.heap.size:=by rw[j.un.size];exact s.size
 have y:d.heap.size=n.heap.size:=by rw[u,l.un.size]
 have hrel:RelB (dY w) w w':=⟨λb A=>by
  have q:W'.heap[b]? =d.heap[b]? :=s.block b (by rw[y];exact U9 (z b A) g.size);exact(j.same l.un (by rw[q,u])).trans (g.at_ b A),Vm g.size (by rw[<-y];exact X),x.tape.trans g.tape,x.os.trans g.os,x.output.trans g.output⟩
 exact Xe.go (H v d (sh r D W') w' (λb o p t=>by rw[u];exact l.at_ b o ((g.at_ b (U4.1 p).1).trans p) t) (by rw[y];exact g.size) s J ⟨j.un.size,j.un.at_,j.un.os,j.un.output⟩ hrel) (λb h=>h) V
def Ok{P:Vb}{b:Vg}{a:Xa}{todo:List XR}{D:Nat}{m:FrameMode}(d:b.kind= .normal)(g:a.defers=[{target:=.collected D,args:= #[]}])(n:(todo.all (vX P))=Z):eH P {b.at a todo with mode:=m} []:=by
 refine⟨⟨λi l=>?_,λe h=>?_,.inl d⟩,λf j=>by simp at j,d⟩
 ·have:=Vx.1 n i l;cases i<;>first|exact this|trivial|cases this
 ·have c:e∈a.defers:=h;rw[g] at c;simp only[List.mem_singleton] at c;subst c;rfl
def JA{P:Vb}{b:Vg}{a:Xa}{todo:List XR}{D:Nat}(c:b.kind= .normal)(d:a.defers=[{target:=.collected D,args:= #[]}])(e:(todo.all (vX P))=Z):eH P (b.at a todo) []:=Ok (m:=.run) c d e
end
def oo{a:Xa}{x y z u:V4}{d e f c:U}(h1:a.eval x=d)(g:a.eval y=e)(h:a.eval z=f)(j:a.eval u=c): #[x,y,z,u].map a.eval=#[d,e,f,c]:=by simp[h1,g,h,j]
def Cf (f:Gj)(V:Nat->Nat->List aC):Prop:=match f with
 |none=>True
 |some (h,g)=>∀(i:Nat) b,g[i]? =I b->∀(c:Nat) e d,b.chunks[c]? =I e->h[c]? =I d->qc e.text d.1.kind d.2 (b.rows:Int) (V i c)
def vv (d:Gj)(V:Nat->Nat->List aC)(ah:List Int)(rs:List bT)(sk:Bool)(Go:List cg->Bool):List cg×Nat×Nat:=match d with
 |none=>([],0,0)
 |some (e,c)=>bV sk c ah rs (aI e.length (ah++rs.map bT.col)) V Go 0 c.length [] 0
def iN (c:Gj)(V:Nat->Nat->List aC)(ah:List Int)(rs:List bT)(sk:Bool):List (List aC)×Nat:=
 if iV c ah rs=0 then(if (vv c V ah rs sk λ_=>Z).2.2=0 then((vv c V ah rs sk λ_=>Z).1.map WD,0) else([],(vv c V ah rs sk λ_=>Z).2.2)) else([],iV c ah rs)
def lQ (f:F)(base:Nat)(v:U)(j:List (List aC)):Prop:=
 ∃d,f.ownsRow base 55 1 v j.length d/\(∀(i:Nat) e,j[i]? =I e->∃c,d[i]? =I c/\f.ownsRow base 54 3 c e.length (az e))/\∀(i h:Nat) c l g,d[i]? =I c->d[h]? =I l->c.ownBlock=I g->l.ownBlock=I g->i=h
def DW (c:List (List aC)×Nat)(w0:F)(e:X6)(w':F):Prop:=
 ∃v,e= .returned (.tuple #[v,.int .i64 (c.2:Int)])/\lQ w' w0.heap.size v c.1/\(c.2≠0->v=aM)/\(∀b,b<w0.heap.size->w'.heap[b]? =w0.heap[b]?)/\w0.heap.size<=w'.heap.size
def O7:(Tryz.f8.name == "runtime.NumGoroutine")=U5:=by kernel_rfl
def B8:(Tryz.f16.name == "runtime.NumGoroutine")=U5:=by kernel_rfl
def F7:(Tryz.f12.name == "runtime.NumGoroutine")=U5:=by kernel_rfl
def lQ.nil(d:F)(base:Nat):lQ d base aM []:=⟨[],Xj _ _ _ _,λi j c=>by simp at c,λi f h g e c=>by simp at c⟩
def Rm{s:ByteArray}{l:List (bQ×Int)}{bs:List Bd}{ah:List Int}{rs:List bT}{V:Nat->Nat->List aC}(d:gQ s l bs)(e:uH l.length ah rs=Z)(j:ah.length<=1000)(x:rs.length<=1000)(h:Cf (I (l,bs)) V):FQ l bs ah rs V:=by
 have u:l.length<=8:=by
  have:=d.1.pl.1.2.1;simpa using this
 have v:bs.length<=2000:=by
  have r:=Ec.zB bs (λb c=>(d.1.cj b c).lo);have t:=d.1.rows;omega
 refine⟨λb c=>by have:=(d.1.cj b c).len;simpa using this,by omega,by have:=d.1.pl.1.1;simp at this;omega,λb c=>(d.1.cj b c).hi,d.1.rows,by omega,j,by unfold Vp;omega,(xY.1 e).1,(xY.1 e).2,λi b c g p q f n=>⟨?_,h i b c g p q f n⟩⟩;obtain⟨m,rfl⟩:=Vs.1 f;have:=((d.1.cj b (Wv c)).each g m).n;unfold Vp;omega
def zG (fn:XJ):XQ:=match fn.body with
 |some (.seq _ (.seq _ (.seq _ (.seq _ (.seq _ c)))))=>c
 |_=>.skip
section
variable {Post:U->F->Prop}{cs:List Vg}{w:F}{a:Xa}{c:Vg}
def Knows.same{a a':Xa}{n:Nat}{l:List (Nat×U)}(b:Knows a n l)(h:a'.tmps=a.tmps):Knows a' n l:=⟨by rw[h];exact b.size,λs v d=>by unfold aS;rw[h];exact b.slot s v d⟩
def pP{D:Nat}{todo:List XR}(f:a.defers=[{target:=.collected D,args:= #[]}])(e:w.heap[D]? =I (.deferred (I [])))(l:(todo.all (vX (ax U1)))=Z){b:Vg}(k:b.kind= .normal)
 (j:∀a' w',a'.tmps=a.tmps->a'.defers=[]->w.heap.size<=w'.heap.size->(∀x,x<w.heap.size->x≠D->w'.heap[x]? =w.heap[x]?)->w'.tape=w.tape->w'.os=w.os->w'.output=w.output->Xe (ax U1) U1 Post (dY w') {b.at a' todo with mode:=.returning} cs w'):Xe (ax U1) U1 Post (dY w) {b.at a todo with mode:=.returning} cs w:=by
 intro r q d n;have i:D<w.heap.size:=(U4.1 e).1;have h:q.heap[D]? =I (.deferred (I [])):=(d.at_ D i).trans e;refine CK bI f h (λ_ o=>Xe.go (j {a with defers:=[]} _ Y Y ?_ ?_ d.tape d.os d.output) (λb g=>g) o) (Ok k f l) n
 ·rw[World.putObj_size];exact d.size
 ·intro x p m;rw[Ya m];exact d.at_ x p
structure UM(w w':F)(D:Nat):Prop where
 at_:∀x,x<w.heap.size->x≠D->w'.heap[x]? =w.heap[x]?
 size:w.heap.size<=w'.heap.size
 tape:w'.tape=w.tape
 os:w'.os=w.os
 output:w'.output=w.output
def Ls{cu rb D n e:Nat}{q:Array U}{C:U}(b:Knows a 40 [(12,(aP rb)),(10,(aP cu))])(s:a.defers=[{target:=.collected D,args:= #[]}])(u:w.heap[D]? =I (.deferred (I [])))(hc:w.heap[cu]? =I (.cells (fN q n e) 72 (0,0)))(ab:q.size=6)(L:w.heap[rb]? =I (.cells #[C] 27 (0,0)))
 (J:∀w',UM w w' D->Xe (ax U1) U1 Post (dY w') (c.finish (.tuple #[if e=0 then C else aM,.int .i64 (e:Int)])) cs w'):Xe (ax U1) U1 Post (dY w) ((base 7).at a [.inBlock 0,.code (zG Xo)]) (c::cs) w:=by
 have d:=eX (ax U1) U1 Post;have P:(fN q n e)[7]? =I (.int .i64 (e:Int)):=by simp[fN,Array.getElem?_append,ab]
 have aw:cu<w.heap.size:=(U4.1 hc).1;have M:rb<w.heap.size:=(U4.1 L).1;have B:D<w.heap.size:=(U4.1 u).1;have G:∀h,(∀(m:Nat) r,w.heap[m]? =I r->bf (ax U1) r->h.heap[m]? =I r)->w.heap.size<=h.heap.size->bK 12 #[(aP cu)] h λf i=>aQ h i/\∃v,f= .returned v/\(v= .int .i64 (e:Int)/\i=h):=λh o t=>(ju cu _ h (gU (o cu _ hc trivial) P)).mono λf i ⟨O,F⟩=>⟨by rw[F];exact Below.refl _ _,_,O,rfl,F⟩;refine gM d ?_;refine aJ d ?_;refine aJ d ?_;refine bg d [0,1,2] Y ?_;refine bX d b λb=>?_;refine nS (vs:= #[(aP cu)]) (R:=λh v i=>v= .int .i64 (e:Int)/\i=h) bI Y Y Y Y (mK (b.of Y)) Tryz.func12 F7 Y (iW Y Y Y).symm (JA Y (by simp only[put_defers];exact s) (by kernel_rfl)) G λv h i a0 o t Q A T g=>?_;obtain⟨rfl,-⟩:=A;replace b:=b.put (d:=35) (by decide) (.int .i64 (e:Int));by_cases H:e=0
 ·subst H;refine dw d b Y (.bool U5) (rB (c:=U5) Y (b.of Y) Y (by decide)) λb=>?_;refine aj d ?_;refine cY d U5 (b.of Y) ?_;refine gS d ?_;refine aJ d ?_;refine bg d [0,1,2] Y ?_;refine qd d b Y C (bP Y (b.of Y) Tryz.isAgg27 (.inr (U9 M g.size)) (gU ((g.at_ rb M).trans L) Y)) λb=>?_;refine gw d b λb=>?_;refine oz d b (.int .i64 0) λb=>?_;refine aj d ?_;refine oB d ?_;refine pP (by simp only[put_defers];exact s) ((g.at_ D B).trans u) (by kernel_rfl) Y λN E z x ad V al X ao=>?_;replace b:=b.same z;have p:=gI (P:=U1) Tryz.results7 (b.slot 8 _ Y) (b.slot 9 _ Y);refine ig d Y x Tryz.func7 p.1 p.2 ?_;have:=J E ⟨λl k y=>(V l (U9 k g.size) y).trans (g.at_ l k),Vm g.size ad,al.trans g.tape,X.trans g.os,ao.trans g.output⟩;rw[if_pos Y] at this;exact this
 ·refine dw d b Y (.bool Z) (rB (c:=Z) Y (b.of Y) Y (by simp;omega)) λb=>?_;refine aj d ?_;refine cY d Z (b.of Y) ?_;refine aJ d ?_;refine bg d [0,1,2,3] Y ?_;refine bX d b λb=>?_;refine nS (vs:= #[(aP cu)]) (R:=λh v i=>v= .int .i64 (e:Int)/\i=h) bI Y Y Y Y (mK (b.of Y)) Tryz.func12 F7 Y (iW Y Y Y).symm (JA Y (by simp only[put_defers];exact s) (by kernel_rfl)) (λh o t=>G h (λm r K S=>o m r ((g.at_ m (U4.1 K).1).trans K) S) (Vm g.size t)) λv h i E o t Q A T j=>?_;obtain⟨rfl,-⟩:=A;replace b:=b.put (d:=38) (by decide) (.int .i64 (e:Int));refine oz d b aM λb=>?_;refine gw d b λb=>?_;refine aj d ?_;refine oB d ?_;have R:E.heap[D]? =I (.deferred (I [])):=(j.at_ D (U9 B g.size)).trans ((g.at_ D B).trans u);refine pP (by simp only[put_defers];exact s) R (by kernel_rfl) Y λN au z x ae W am aa ar=>?_;replace b:=b.same z;have p:=gI (P:=U1) Tryz.results7 (b.slot 8 _ Y) (b.slot 9 _ Y);refine ig d Y x Tryz.func7 p.1 p.2 ?_;have:=J au ⟨λl k y=>(W l (U9 k (Vm g.size j.size)) y).trans ((j.at_ l (U9 k g.size)).trans (g.at_ l k)),Vm g.size (Vm j.size ae),am.trans (j.tape.trans g.tape),aa.trans (j.os.trans g.os),ar.trans (j.output.trans g.output)⟩;rw[if_neg H] at this;exact this
end
def Oc (fn:XJ):XQ:=match fn.body with
 |some (.seq _ (.seq _ (.seq _ (.seq _ (.seq (.seq _ (.block _ c)) _)))))=>c
 |_=>.skip
section
variable {Post:U->F->Prop}{cs:List Vg}{w:F}{a:Xa}{c:Vg}{l:List (bQ×Int)}{bs:List Bd}{ah:List Int}{rs:List bT}{kb ck eb ce db:Nat}{dO:Option VI}{cJ lS:Nat->Nat}{co:Option VI}{cb bH aG:Nat}{ro:Option VI}{rb bF aK:Nat}{V:Nat->Nat->List aC}{cm:Nat}{sk:Bool}{cu xb bx vR:Nat}
structure RA(w w':F)(vR cu bx:Nat)(q:Array U)(res:List cg×Nat×Nat)(D:Nat)(rv:U):Prop where
 d:w'.heap[D]? =I (.deferred (I []))
 dl:w.heap.size<=D
 c:w'.heap[cu]? =I (.cells (fN q res.2.1 res.2.2) 72 (0,0))
 b:w'.heap[bx]? =I (.cells #[rv] 27 (0,0))
 own:lQ w' vR rv (res.1.map WD)
 keep:∀x,x<vR->w'.heap[x]? =w.heap[x]?
 size:w.heap.size<=w'.heap.size
 tape:w'.tape=w.tape
 os:w'.os=w.os
 output:w'.output=w.output
def Ic(q:FQ l bs ah rs V)(hF:FM w l bs ah rs kb eb dO db cJ lS co cb bH ro rb bF)(aa:∀x,sE kb eb db cJ cb rb bs.length ah.length rs.length x->x<cu)(b7:vR<=cu)(ca:cu<bx)(ch:bx<xb)
 (hc:w.heap[cu]? =I (.cells (fN (dR kb l.length ck eb l.length ce dO bs.length cm co ah.length aG ro rs.length aK sk) 0 0) 72 (0,0))) (Q:w.heap[bx]? =I (.cells #[aM] 27 (0,0))) (d:w.heap[xb]? =I (.cells #[(aP cu)] 31 (0,0)))
 (f:Knows a 40 [(27,.func (.func 24) #[] #[(aP xb)]),(12,(aP bx)),(10,(aP cu))]) (S:a.defers=[])
 (T:∀a' w' D E,Knows a' 40 [(12,(aP bx)),(10,(aP cu))]->a'.defers=[{target:=.collected D,args:= #[]}]->RA w w' vR cu bx (dR kb l.length ck eb l.length ce dO bs.length cm co ah.length aG ro rs.length aK sk) (bV sk bs ah rs (aI l.length (ah++rs.map bT.col)) V (λ_=>Z) 0 bs.length [] 0) D E->Xe (ax U1) U1 Post (dY w') ((base 7).at a' [.inBlock 0,.code (zG Xo)]) (c::cs) w'):
 Xe (ax U1) U1 Post (dY w) ((base 7).at a [.code (Oc Xo),.inBlock 0,.code (zG Xo)]) (c::cs) w:=by
 intro b8 b n bk;have bv:cu<w.heap.size:=(U4.1 hc).1;have bu:bx<w.heap.size:=(U4.1 Q).1;have bz:xb<w.heap.size:=(U4.1 d).1;have br:=n.size;generalize t:qN (base 7).fn a.tmps #[28,29] (.region 6 (fG Xo) U5) (.block 1 (.region 7 (ed Xo) U5)) b.heap.size=i;have X:q8 i bx:=by
  rw[<-t];exact⟨rfl,rfl,rfl,f.size,f.slot 12 _ Y⟩
 generalize o:(b.alloc (.deferred (I []))).alloc (.loop i)=j;have a4:∀x,x<b.heap.size->j.heap[x]? =b.heap[x]? :=λx d=>by
  rw[<-o];show((b.heap.push _).push _)[x]? =_;rw[VF,if_neg (by simp;omega),VF,if_neg (by omega)]
 have a5:j.heap[b.heap.size]? =I (.deferred (I [])):=by
  rw[<-o];show((b.heap.push _).push _)[b.heap.size]? =_;rw[VF,if_neg (by simp),VF,if_pos Y]
 have a6:j.heap[b.heap.size+1]? =I (.loop i):=by
  rw[<-o];show((b.heap.push _).push _)[b.heap.size+1]? =_;rw[VF,if_pos (by simp)]
 have b6:j.heap.size=b.heap.size+2:=by
  rw[<-o];show((b.heap.push _).push _).size=_;simp
 have m:∀x,x<w.heap.size->j.heap[x]? =w.heap[x]? :=λx d=>(a4 x (by omega)).trans (n.at_ x d);let ad:Nat->Prop:=λx=>x=b.heap.size+1\/x=b.heap.size\/x=bx;have bo:i.state= .ready:=by rw[<-t];rfl
 have bm:i.pending=K:=by rw[<-t];rfl
 have a8:l7 (b.heap.size+1) b.heap.size bx i [] ad j:=by
  refine⟨bo,bm,a6,a5,aM,[],(m bx bu).trans Q,Xj _ _ _ _,λu x h=>by simp at h,λu ci v G e h=>by simp at h,λx=>?_⟩;show(x=_\/x=_\/x=_)↔_;simp[Wz]
 have R:=Bm (Post:=Post) (cu:=cu) (xb:=xb) (n0:=0) (e0:=0) (Lp (Post:=Post) (D:=b.heap.size) (l:=b.heap.size+1) X) Y q a8 (λb2 bc cd=>hF.kept (by omega) λx d=>by
  have g:=aa x d;refine λbA bj bb=>bc x (by omega) (λh=>?_) (by omega) bA ((m x (by omega)).trans bj) bb;rcases h with h|h|h<;>omega) (λa2 h=>by
  have g:=aa db (.inr (.inr (.inl ⟨a2,rfl⟩)));rcases h with h|h|h<;>omega) (λh=>by rcases h with h|h|h<;>omega) (λh=>by rcases h with h|h|h<;>omega) (by omega) ((m xb bz).trans d) ((m cu bv).trans hc)
 generalize bV sk bs ah rs (aI l.length (ah++rs.map bT.col)) V (λ_=>Z) 0 bs.length [] 0=bB at R T;subst o;subst t;refine ES bI (g:=.tmp 27) (gf:=24) (cap:= #[(aP xb)]) (f.of Y) (λargs w=>av.call24 args w) (.inl (iW Y Y Y).symm) R (λv r a7 A=>?_) (λb5 w' h=>by cases h.1) (λw' h=>by cases h.1) (λs h=>?_) (bL Y S (by kernel_rfl)) bk
 ·obtain⟨-,⟨J,a9,be⟩,bi,bd,cf⟩:=a7;obtain⟨ao,M,N,ar,E,b0,au,aw,a0,a1,O⟩:=a9;refine ER bI N (zI X M) (by rw[ao];decide) M (by intro s;simp) ?_;intro _ bl;refine Xe.go (own:=dY _) (T _ _ b.heap.size E ?_ (by show _::a.defers=_;rw[S]) ?_) (λb4 h=>h) bl
  ·exact((f.nil.cons (f.slot 10 _ Y)).cons (f.slot 12 _ Y)).same Y
  ·have ba:∀x,J x->vR<=x:=λx d=>by
    rcases be x d with h|h
    ·rcases h with h|h|h<;>omega
    ·omega
   have cc:b.heap.size+1<r.heap.size:=by omega
   have p:∀x,x≠b.heap.size+1->(r.putObj (b.heap.size+1) (.loop {qN (base 7).fn a.tmps #[28,29] (.region 6 (fG Xo) U5) (.block 1 (.region 7 (ed Xo) U5)) b.heap.size with state:=.exhausted})).heap[x]? =r.heap[x]? :=λx d=>Ya d;have ab:∀{k:Vc} {F C:Nat} {v:U} {H:List U},r.ownsRow 0 k F v C H->(∀e,v.ownBlock=I e->J e)->(r.putObj (b.heap.size+1) (.loop {qN (base 7).fn a.tmps #[28,29] (.region 6 (fG Xo) U5) (.block 1 (.region 7 (ed Xo) U5)) b.heap.size with state:=.exhausted})).ownsRow vR k F v C H:=λ{k F C v H} h bt=>by
    obtain⟨W,⟨g,P⟩|⟨e,al,am,g,P,y,a3⟩⟩:=h
    ·exact⟨W,.inl ⟨g,P⟩⟩
    ·refine⟨W,.inr ⟨e,al,am,g,ba e (bt e (by rw[g];rfl)),(p e (λk=>?_)).trans y,a3⟩⟩;rw[k,N] at y;cases y
   refine⟨(p _ (by omega)).trans ar,br,(p _ (by omega)).trans bd,(p _ (by omega)).trans au,⟨b0,by rw[VQ];exact ab aw (λe z=>(O e).2 (.inr (.inr (.inr (.inl z.symm))))),λu x d=>?_,a1⟩,λx d=>?_,?_,A.tape.trans n.tape,A.os.trans n.os,A.output.trans n.output⟩
   ·rw[YI] at d;cases B:bB.1[u]? with
    |none=>rw[B] at d;cases d
    |some b1=>
     rw[B] at d;simp only[Xc,VY] at d;subst d;obtain⟨G,L,b3,ae⟩:=a0 u b1 B;exact⟨G,L,ab ae λe z=>(O e).2 (.inr (.inr (.inr (.inr ⟨G,Wv L,z.symm⟩))))⟩
   ·refine(p x (by omega)).trans ((bi x (by omega) (λh=>?_) (by omega)).trans (m x (by omega)));rcases h with h|h|h<;>omega
   ·rw[World.putObj_size];omega
 ·rw[enter_at _ av.func24 Y] at h;cases h
end
end Cc
namespace Cc
open Go Go.Conc
open Go.RowKit (Below)
open Ec (aC az bT dK qv bQ Bd aI gQ tD oM fZ ju xZ)
def O8(w:F):(Xl 27).run U1 w= .ok aM w:=Tryz.zeroValue27 w
section
variable {Post:U->F->Prop}{s:ByteArray}{F0:Gj}{V:Nat->Nat->List aC}{ah:List Int}{rs:List bT}{co:Option VI}{cb bH aG:Nat}{ro:Option VI}{rb bF aK:Nat}{sk:Bool}{w0:F}
def zH(b8:s.size<=Vp)(hF:sH s F0)(bs:Cf F0 V)(a1:ah.length<=1000)(a4:rs.length<=1000)
 (bz:0<ah.length->co=I ⟨cb,bH,K⟩) (bB:0<ah.length->cb<w0.heap.size) (bA:∀j,j<ah.length->cD w0 cb (bH+j) (.int .i64 (ah.getD j 0))) (ck:dK w0 ro rb bF rs):
 kq (ax U1) U1 Post 7 #[.string s,.slice co ah.length aG,.slice ro rs.length aK,.bool sk] w0 (DW (iN F0 V ah rs sk) w0):=by
 intro db dc a6 dp cf aw;have b:=eX (ax U1) U1 Post;refine Xe.go (own:=dY w0) ?_ (λc d=>d) cf;rw[enter_at _ Tryz.func7 Y];have a:=Uu (.string s) (.slice co ah.length aG) (.slice ro rs.length aK) (.bool sk) 40 (by decide);refine aJ b ?_;refine bg b [0,1] Y ?_;refine oz b a aM λa=>?_;refine oz b a (.int .i64 0) λa=>?_;refine aj b ?_;refine aJ b ?_;refine bg b [0,1,2,3,4,5,6,7,8,9] Y ?_;refine bX b a λa=>?_;refine bX b a λa=>?_;refine bX b a λa=>?_;refine bX b a λa=>?_;refine nS (vs:= #[.string s,.slice co ah.length aG,.slice ro rs.length aK,.bool sk]) (R:=λn v w=>tD n F0 ah rs sk (.returned v) w) bI Y Y Y Y (oo (a.of Y) (a.of Y) (a.of Y) (a.of Y)) Tryz.func8 O7 Y (iW Y Y Y).symm (bL Y (by simp only[put_defers]) (by kernel_rfl)) (λn L F=>?_) λv n w u L F df cn S g=>?_
 ·refine(oM s F0 ah rs co cb bH aG ro rb bF aK sk n b8 hF a1 a4 bz (λd=>U9 (bB d) F) (λj b5=>jM L (bA j b5)) (xE L F ck)).mono λk w d=>⟨d.1,?_⟩
  ·rcases d.2 with⟨_,rfl⟩|⟨p,f,r,T,bl,Q,bk,al,O,cm,cJ,lS,ae,N,bj,ba,W,c4,_,_,rfl,_⟩
   ·exact⟨_,rfl,d⟩
   ·exact⟨_,rfl,d⟩
 ·rcases cn.2 with⟨cd,k⟩|⟨p,f,r,T,bl,Q,bk,al,O,cm,cJ,lS,ae,N,bj,ba,W,c4,J,au,k,b0,M,bo,a8⟩
  ·have P:=XG k;subst P;have ca:iV F0 ah rs≠0:=cd;generalize cc:iV F0 ah rs=m at*;replace a:=a.put (d:=20) (by decide) (.tuple #[.pointer K,.int .i64 (m:Int)]);refine bX b a λa=>?_;refine qu b a λa=>?_;refine qu b a λa=>?_;refine gw b a λa=>?_;refine gw b a λa=>?_;refine aj b ?_;refine aJ b ?_;refine aJ b ?_;refine bg b [0,1] Y ?_;refine bX b a λa=>?_;refine dw b a Y (.bool Z) (rB (c:=Z) Y (a.of Y) Y (by simp;omega)) λa=>?_;refine aj b ?_;refine cY b Z (a.of Y) ?_;refine aJ b ?_;refine bg b [0,1,2] Y ?_;refine bX b a λa=>?_;refine oz b a aM λa=>?_;refine gw b a λa=>?_;refine aj b ?_;refine oB b ?_;have a3:=gI (P:=U1) Tryz.results7 (a.slot 8 _ Y) (a.slot 9 _ Y);refine ig b Y (by simp only[put_defers]) Tryz.func7 a3.1 a3.2 ?_;intro _ H h ch;have A:iN F0 V ah rs sk=([],m):=by
    unfold iN;rw[cc,if_neg ca]
   refine aw (.returned (.tuple #[aM,.int .i64 (m:Int)])) H ⟨aM,by rw[A],by rw[A];exact lQ.nil _ _,λ_=>rfl,λc e=>(h.at_ c (U9 e g.size)).trans (g.at_ c e),Vm g.size h.size⟩ ch ⟨h.tape.trans g.tape,h.os.trans g.os,h.output.trans g.output,Vm g.size h.size⟩ (lm a6 _)
  ·have P:=XG k;subst P;have b1:=Vm F b0;replace M:=S.row.1 M;have br:FM u p f ah rs T Q al O cJ lS ae N 0 ba W 0:=bo.kept (by rw[S.size];exact U7 _) (λc _=>EH S);have cB:r<u.heap.size:=(U4.1 M).1;replace a:=a.put (d:=20) (by decide) (.tuple #[(aP r),.int .i64 0]);refine bX b a λa=>?_;refine qu b a λa=>?_;refine qu b a λa=>?_;refine gw b a λa=>?_;refine gw b a λa=>?_;refine aj b ?_;refine aJ b ?_;refine aJ b ?_;refine bg b [0,1] Y ?_;refine bX b a λa=>?_;refine dw b a Y (.bool U5) (rB (c:=U5) Y (a.of Y) Y (by decide)) λa=>?_;refine aj b ?_;refine cY b U5 (a.of Y) ?_;refine gS b ?_;refine aJ b ?_;refine bg b [0] Y ?_;refine kg b (λc e=>e.elim YJ (λd=>d)) (by decide) Y Y (.cells #[aM] 27) trivial (λG=>(aP G)) (oL Y O8) λB du dn dr E bx=>?_;replace a:=a.put (d:=12) (by decide) (aP B);refine aj b ?_;refine DH λH h=>?_;have x:RelB (dY u) u H:=⟨λc e=>(h.at_ c (.inl e)).trans (E.at_ c (.inr e)),Vm E.size h.size,h.tape.trans E.tape,h.os.trans E.os,h.output.trans E.output⟩;have a0:H.heap[B]? =I (.cells #[aM] 27 (0,0)):=(h.at_ B (.inr Y)).trans bx;have cx:B<H.heap.size:=(U4.1 a0).1;refine aJ b ?_;refine aJ b ?_;refine bg b [0,1] Y ?_;refine bX b a λa=>?_;refine nS (vs:= #[(aP r)]) (R:=λn v w=>v= .func (.func 24) #[] #[(aP n.heap.size)]/\w=n.alloc (.cells #[(aP r)] 31)) bI Y Y Y Y (mK (a.of Y)) Tryz.func16 B8 Y (iW Y Y Y).symm (bL Y (by simp only[put_defers]) (by kernel_rfl)) (λn L F=>(fZ r n).mono λk w ⟨ar,C⟩=>⟨by rw[C];exact(Below.refl _ _).alloc (U7 _) _,_,ar,rfl,C⟩) λv bi c8 bc dl dq dk cp bu y=>?_;obtain⟨rfl,bt⟩:=cp;generalize cu:bi.heap.size=bd at*;have cs:bc.heap[bd]? =I (.cells #[(aP r)] 31 (0,0)):=by
    refine bu.row.1 ?_;rw[bt,<-cu];exact Ec.bC _ _
   replace a:=a.put (d:=27) (by decide) (.func (.func 24) #[] #[(aP bd)]);refine aj b ?_;refine fO b ?_;have bv:uH p.length ah rs=Z:=by
    obtain⟨ds,da,am,bm,_⟩:=Ba au;rw[J] at am;cases am;exact bm
   have b3:gQ s p f:=by
    rw[J] at hF;exact hF.1
   have o:RelB (dY u) u bc:=⟨λc e=>(y.at_ c (U9 e x.size)).trans (x.at_ c e),Vm x.size y.size,y.tape.trans x.tape,y.os.trans x.os,y.output.trans x.output⟩;have b7:∀l,sE T Q O cJ N W f.length ah.length rs.length l->l<u.heap.size:=λl t=>by have:=(a8 l t).2;omega
   refine Ic (vR:=w0.heap.size) (Rm b3 bv a1 a4 (J▸bs)) (br.kept o.size λl t=>oJ (o.at_ l (b7 l t))) (λl t=>(a8 l t).2) b1 (by omega) (by omega) ((o.at_ r cB).trans M) ((y.at_ B cx).trans a0) cs (((a.nil.cons (a.slot 10 _ Y)).cons (a.slot 12 _ Y)).cons (a.slot 27 _ Y)) (by simp only[put_defers]) λc9 c7 D bb be b2 i=>?_;refine Ls be b2 i.d i.c Y i.b λdv q=>?_;intro _ ab z ci;have a7:=Vm g.size (Vm o.size i.size);have cl:vv F0 V ah rs sk (λ_=>Z)=bV sk f ah rs (aI p.length (ah++rs.map bT.col)) V (λ_=>Z) 0 f.length [] 0:=by rw[J];rfl
   have A:iN F0 V ah rs sk=if (bV sk f ah rs (aI p.length (ah++rs.map bT.col)) V (λ_=>Z) 0 f.length [] 0).2.2=0 then((bV sk f ah rs (aI p.length (ah++rs.map bT.col)) V (λ_=>Z) 0 f.length [] 0).1.map WD,0) else([],(bV sk f ah rs (aI p.length (ah++rs.map bT.col)) V (λ_=>Z) 0 f.length [] 0).2.2):=by
    unfold iN;rw[if_pos au,cl]
   generalize bV sk f ah rs (aI p.length (ah++rs.map bT.col)) V (λ_=>Z) 0 f.length [] 0=X at*;have dt:=Vm g.size (Vm o.size i.dl);have b6:∀c,c<w0.heap.size->ab.heap[c]? =w0.heap[c]? :=λc e=>(z.at_ c (U9 e (Vm a7 q.size))).trans ((q.at_ c (by omega) (by omega)).trans ((i.keep c e).trans ((o.at_ c (U9 e g.size)).trans (g.at_ c e))));have a5:=Vm a7 (Vm q.size z.size);refine aw (.returned (.tuple #[if X.2.2=0 then bb else aM,.int .i64 (X.2.2:Int)])) ab ⟨if X.2.2=0 then bb else aM,?_,?_,?_,b6,a5⟩ ci ⟨z.tape.trans (q.tape.trans (i.tape.trans (o.tape.trans g.tape))),z.os.trans (q.os.trans (i.os.trans (o.os.trans g.os))),z.output.trans (q.output.trans (i.output.trans (o.output.trans g.output))),a5⟩ (lm a6 _)
   ·rw[A]
    split
    ·rename_i R;rw[R]
    ·rfl
   ·rw[A]
    split
    ·obtain⟨c6,cR,c0,c1⟩:=i.own;have a9:∀{k:Vc} {aa G:Nat} {v:U} {ad:List U},c7.ownsRow w0.heap.size k aa v G ad->ab.ownsRow w0.heap.size k aa v G ad:=λ{k aa G v ad} d=>jU d (U7 _) λao b4 ar C=>by
      refine(z.at_ ao (U9 C q.size)).trans (q.at_ ao C λk=>?_);obtain⟨dd,a2⟩:=Ec.mZ d b4;rw[k,i.d] at a2;cases a2
     exact⟨c6,a9 cR,λcv l t=>by
      obtain⟨c5,c2,c3⟩:=c0 cv l t;exact⟨c5,c2,a9 c3⟩,c1⟩
    ·exact lQ.nil _ _
   ·rw[A];intro d
    split at d
    ·exact absurd Y d
    ·rename_i R;rw[if_neg R]
end
end Cc
namespace Cc
open Go Go.Conc
open Ec
def Ja(s:ByteArray)(w0:F)(e:s.size<=Vp):∃b,sH s b:=by
 obtain⟨k,m,l,⟨_,a⟩,_⟩:=Bt s w0 e [];rcases a with⟨f,bs,g,h,i,j,_,c,_,_,d⟩|⟨_,a⟩
 ·exact⟨I (f,bs),c,d⟩
 ·exact⟨K,a⟩
def QD(s:ByteArray)(k e cn:Int)(w0:F)(g:s.size<=Vp):∃vs,qc s k e cn vs:=by
 obtain⟨n,m,j,⟨_,a⟩,_⟩:=qt s k e cn w0 g [];rcases a with⟨a,_⟩|⟨b,rfl,d,c,l,⟨v,i,_,_,f⟩|⟨_,h⟩⟩
 ·exact⟨[],.inr ⟨rfl,.inl a⟩⟩
 ·exact⟨i,.inl ⟨b,rfl,d,c,f⟩⟩
 ·exact⟨[],.inr ⟨rfl,.inr ⟨b,rfl,h⟩⟩⟩
def EE{s:ByteArray}{i:Gj}(w0:F)(hF:sH s i):∃V,Cf i V:=by
 cases i with
 |none=>exact⟨λ_ _=>[],trivial⟩
 |some v=>
  obtain⟨p,bs⟩:=v;have o:∀e c:Nat,∃l,∀b d a,bs[e]? =I b->b.chunks[c]? =I d->p[c]? =I a->qc d.text a.1.kind a.2 (b.rows:Int) l:=λe c=>by
   cases k:bs[e]? with
   |none=>exact⟨[],λb d a h=>by cases h⟩
   |some b=>
    cases g:b.chunks[c]? with
    |none=>exact⟨[],λm d a h f=>by cases h;rw[g] at f;cases f⟩
    |some d=>
     cases n:p[c]? with
     |none=>exact⟨[],λm d a h f j=>by cases j⟩
     |some a=>
      have t:d.text.size<=Vp:=by
       obtain⟨r,rfl⟩:=Vs.1 g;have:=((hF.1.1.cj b (Wv k)).each c r).n;unfold Vp;omega
      obtain⟨l,u⟩:=QD d.text a.1.kind a.2 (b.rows:Int) w0 t;exact⟨l,λm w x q f j=>by
       cases q;rw[g] at f;cases f;cases j;exact u⟩
  exact⟨λe c=>Wq (o e c),λe b k c d a g n=>Vo (o e c) b d a k g n⟩
theorem oF:∀(a pre:List cg),feed (λ_=>Z) pre a=(pre++a,Z)
 | [],pre=>by simp[feed]
 |x::a,pre=>by
  rw[oG,if_pos Y,oF a (pre++[x])];simp
section
variable {bs:List Bd}{ah:List Int}{rs:List bT}{ws:List Bool}{V:Nat->Nat->List aC}
def Fo(sk:Bool)(r i:Nat)(pre:List cg)(n:Nat):bV sk bs ah rs ws V (λ_=>Z) i (r+1) pre n=if sk&&y8 bs rs i then bV sk bs ah rs ws V (λ_=>Z) (i+1) r pre n else if Jk bs ws V i then bV sk bs ah rs ws V (λ_=>Z) (i+1) r (pre++fL bs ah rs V i) (n+1) else(pre,n+1,3):=by
 rw[bV,oF];simp
end
end Cc
namespace Ec
open Go.RowKit Pk Pm
theorem yh:∀A B C:List UInt8,Wy A B<=0->Wy B C<=0->Wy A C<=0
 | [],B,[],_,_=>by simp[Wy]
 | [],B,_::_,_,_=>by simp[Wy]
 |_::_,[],C,b,_=>by simp[Wy] at b
 |_::_,_::_,[],_,b=>by simp[Wy] at b
 |a::A,h::B,i::C,b,c=>by
  have f:=yh A B C;simp only[Wy] at b c ⊢;have g:∀d e:UInt8,d<e↔d.toNat<e.toNat:=λd e=>UInt8.lt_iff_toNat_lt;simp only[g] at b c ⊢
  split at b
  ·split at c
   ·rw[if_pos (by omega)];omega
   ·split at c
    ·omega
    ·rw[if_pos (by omega)];omega
  ·split at b
   ·omega
   ·split at c
    ·rw[if_pos (by omega)];omega
    ·split at c
     ·omega
     ·rw[if_neg (by omega),if_neg (by omega)];exact f b c
def Ag{x y z:aC}(h:jI x y<=0)(a:jI y z<=0):jI x z<=0:=by
 unfold jI at h a ⊢
 split at h
 ·split at a
  ·rw[if_pos (by omega)];omega
  ·split at a
   ·omega
   ·rw[if_pos (by omega)];omega
 ·split at h
  ·omega
  ·split at a
   ·rw[if_pos (by omega)];omega
   ·split at a
    ·omega
    ·rw[if_neg (by omega),if_neg (by omega)];exact yh _ _ _ h a
def DQ (l:List aC)(b:lZ):Prop:=(b=cK/\∀a∈l,a.null=Z)\/(b.there=Z/\b.least∈l/\b.least.null=U5/\b.most∈l/\b.most.null=U5/\∀a∈l,a.null=U5->jI b.least a<=0/\jI a b.most<=0)
def Gt{l:List aC}{b:lZ}(h:DQ l b)(v:aC):DQ (l++[v]) (ox b v):=by
 unfold ox;cases f:v.null with
 |true=>
  rw[if_pos Y];rcases h with⟨g,e⟩|⟨g,e,i,j,k,m⟩
  ·refine .inl ⟨g,λd a=>?_⟩;rcases VM.1 a with a|a
   ·exact e d a
   ·simp at a;rw[a];exact f
  ·refine .inr ⟨g,List.mem_append_left _ e,i,List.mem_append_left _ j,k,λd a c=>?_⟩;rcases VM.1 a with a|a
   ·exact m d a c
   ·simp at a;rw[a,f] at c;cases c
 |false=>
  rw[if_neg (by simp)];rcases h with⟨rfl,e⟩|⟨g,e,i,j,k,m⟩
  ·refine .inr ⟨rfl,?_,?_,?_,?_,λd a c=>?_⟩
   ·simp[cK]
   ·simp[cK,f]
   ·simp[cK]
   ·simp[cK,f]
   ·rcases VM.1 a with a|a
    ·rw[e d a] at c;cases c
    ·simp at a;subst a;simp[cK,vM]
  ·have p:v∈l++[v]:=by simp
   refine .inr ⟨rfl,?_,?_,?_,?_,λd a c=>?_⟩
   ·dsimp only;split
    ·exact p
    ·exact List.mem_append_left _ e
   ·dsimp only;split
    ·exact f
    ·exact i
   ·dsimp only;split
    ·exact p
    ·exact List.mem_append_left _ j
   ·dsimp only;split
    ·exact f
    ·exact k
   ·dsimp only;simp only[g,Bool.true_eq_false,false_or];rcases VM.1 a with a|a
    ·obtain⟨n,o⟩:=m d a c;constructor
     ·split
      ·rename_i h;exact Ag (by omega) n
      ·exact n
     ·split
      ·rename_i h;exact Ag o (by have:=vL v b.most;omega)
      ·exact o
    ·simp at a;subst a;constructor
     ·split
      ·rw[vM];omega
      ·rename_i h;have:=vL b.least d;omega
     ·split
      ·rw[vM];omega
      ·rename_i h;omega
def Tt(l:List aC):DQ l (cy l):=by
 have g:∀(a l:List aC) (b:lZ),DQ l b->DQ (l++a) (a.foldl ox b):=by
  intro a
  induction a with
  |nil=>intro l b c;simpa using c
  |cons d a f=>
   intro l b c;have:=f (l++[d]) _ (Gt c d);rw[Vu] at this;exact this
 exact g l [] cK (.inl ⟨rfl,λd e=>by cases e⟩)
def RK{k:Int}{l:List aC}(h:∀x∈l,VC k x):Ma k (cy l):=by
 rcases Tt l with⟨b,_⟩|⟨b,c,d,f,g,i⟩
 ·exact .inl b
 ·have e:∀x∈l,x.null=U5->VK k x:=λx m j=>by
   rcases h x m with⟨a,_⟩|a
   ·rw[j] at a;cases a
   ·exact a
  exact .inr ⟨b,e _ c d,e _ f g,by have:=(i _ c d).2;omega⟩
def tL{α:Type}{f:α->List Nat}{l:List α}(h:∀a∈l,∀x∈f a,x<256):∀x∈l.flatMap f,x<256:=λx b=>by
 obtain⟨a,c,b⟩:=List.mem_flatMap.1 b;exact h a c x b
def kx{a b:List Nat}(h1:∀x∈a,x<256)(c:∀x∈b,x<256):∀x∈a++b,x<256:=λx d=>(VM.1 d).elim (h1 x) (c x)
def J1(k:Int)(b:lZ):∀x∈cw k b,x<256:=by
 unfold cw
 split
 ·exact kx (by simp) (kx (vi _ _) (vi _ _))
 ·simp
def PA(cs:List bQ)(es:List Int)(i:Nat):∀x∈Cw cs es i,x<256:=by
 unfold Cw;refine kx (kW _) (kx (jr _) λx a=>?_);simp only[WI,YS,or_false] at a;rcases a with rfl|rfl<;>exact oy _
def NJ(cs:List bQ)(l:List j8)(n:Nat):∀x∈eY cs l n,x<256:=by
 unfold eY;refine tL λa _=>?_;unfold sq;exact kx (kW _) (J1 _ _)
def M8(cs:List bQ)(es:List Int)(bs:List Bd):∀x∈jO cs es bs,x<256:=by
 unfold jO;refine kx (kW _) (kx (tL λa _=>PA cs es a) (kx (kW _) (tL λb _=>?_)));unfold eB;exact kx (kW _) (NJ _ _ _)
def EJ:∀x∈dQ,x<256:=by decide
def PZ(n:Nat):∀x∈iJ n,x<256:=by
 intro x a;unfold iJ at a;simp only[WI,YS,or_false] at a;omega
def M5(cs:List bQ)(es:List Int)(bs:List Bd):∀x∈yx cs es bs,x<256:=by
 unfold yx;exact kx EJ (kx (tL λa _=>tL λb _=>jr _) (kx (M8 _ _ _) (kx (PZ _) EJ)))
section
variable {cs:List bQ}{rows:List (List aC)}{es:List Int}{bd:Nat}
def xO(h:sJ cs rows es bd):(cs.zip es).map Vy=cs:=List.map_fst_zip (by rw[h.Kk];exact U7 _)
def JO(h:sJ cs rows es bd):(cs.zip es).map WD=es:=List.map_snd_zip (by rw[h.Kk];exact U7 _)
theorem I6(rows:List (List aC)){bd:Nat}(a:0<bd):∀n,((VS n).map λj=>(ea rows bd j).length).sum=min (n*bd) rows.length
 |0=>by simp
 |n+1=>by
  rw[List.range_succ,V1,List.sum_append,I6 rows a n];simp only[List.map_cons,List.map_nil,List.sum_cons,List.sum_nil,iq,Nat.succ_mul];omega
def Gq(h:sJ cs rows es bd)(b:Bool):gh (dH rows cs es b bd (fJ rows.length bd))=rows.length:=by
 unfold gh dH;rw[List.map_map];have:=I6 rows h.lo (fJ rows.length bd);have d:((λc:Bd=>c.rows) ∘ λa=>nJ (ea rows bd a) cs es b)=λa=>(ea rows bd a).length:=rfl;rw[d,this];have f:¬fJ rows.length bd*bd<rows.length:=λe=>Nat.lt_irrefl _ ((qs (len:=rows.length) h.lo (fJ rows.length bd)).1 e);omega
def sJ.vc(h:sJ cs rows es bd)(j p:Nat)(a:p<cs.length):∀x∈bS (ea rows bd j) p,VC cs[p].kind x:=by
 intro x e;unfold bS at e;obtain⟨f,k,rfl⟩:=Wu.1 e;have d:=El k;obtain⟨m,g,l⟩:=WN d;have c:=h.table.2.2 m g;rw[l] at c;have b:p<f.length:=by rw[c.1];exact a
 have i:=c.2 p b a;rw[Vk,Vf b];exact LR (qE h.table.1 _ (Vn a)) (h.vals f d _ (Vn b)) i
def yL(h:sJ cs rows es bd)(a:Bool)(k:(ki cs rows es a bd).length<=65536):gQ (strOf (ki cs rows es a bd)) (cs.zip es) (dH rows cs es a bd (fJ rows.length bd)):=by
 refine⟨⟨⟨by rw[xO h];exact h.table.1,by rw[xO h,JO h];exact h.n5⟩,λm e=>?_,by rw[Gq h a];exact h.table.2.1⟩,by rw[nu];exact k,?_⟩
 ·rw[xO h];unfold dH at e;obtain⟨b,i,rfl⟩:=Wu.1 e;have q:=(qs (len:=rows.length) h.lo b).2 (WK.1 i);have f:(nJ (ea rows bd b) cs es a).rows=min bd (rows.length-b*bd):=iq;have n:=h.lo;have o:=h.hi;refine⟨by rw[f];omega,by rw[f];omega,dM _ _ _ _ _,λc p=>?_⟩;have d:c<cs.length:=by
   have:(nJ (ea rows bd b) cs es a).chunks.length=cs.length:=dM _ _ _ _ _;omega
  have g:(nJ (ea rows bd b) cs es a).chunks[c]=Ee (ea rows bd b) cs es a c:=by simp[nJ,eD]
  rw[g];have l:Ee (ea rows bd b) cs es a c∈eD (ea rows bd b) cs es a cs.length:=Wu.2 ⟨c,WK.2 d,rfl⟩;have r:=(h.chunks a b _ l).1;refine⟨by omega,?_⟩;have j:(cs.getD c ⟨⟨#[]⟩,0⟩).kind=cs[c].kind:=by rw[Vk,Vf d];rfl
  rw[j,h.mb a b c d];cases a with
  |false=>exact .inl Y
  |true=>exact RK (h.vc b c d)
 ·unfold ki;rw[r9 _ (M5 _ _ _)];unfold yx;rw[<-M7,xO h,JO h]
end
def NG{cs:List bQ}{b:List (List aC)}{es:List Int}{a:Int}(h:iG cs b)(d:mI a es cs)(e:∀r∈b,∀x∈r,L7 x):sJ cs b es a.toNat/\a=(a.toNat:Int):=by
 obtain⟨f,g,c⟩:=d;exact⟨⟨h,c,by omega,by omega,e⟩,by omega⟩
def Ib{es:List Int}(a8:(∀e∈es,e=0)\/A5/\uA)(cs:List bQ)(a:List (List aC))(b:Int)(c:Bool)(a3 be a4:U)(w:F)(am:cs.length<=Vp)(a9:a.length<=Vp)(ba:∀r∈a,r.length<=Vp)(bb:es.length<=Vp)(bd:∀r∈a,∀x∈r,L7 x)
 (H:Cd w a3 cs) (S:DL w be a) (Q:uv w a4 es):
 bK 15 #[.agg #[a3,be],.agg #[.int .i64 b,a4,.bool c]] w λe w'=>∃s n,e= .returned (.tuple #[.string s,.int .i64 n])/\Mm cs a b es c s n/\aQ w w':=by
 have bj:=af a8;clear a8;have bs:=H;have bu:=S;have bt:=Q;obtain⟨f,bz,bH,aG,rfl,b0,-⟩:=bs;obtain⟨o,b2,bF,aK,rfl,b1,-⟩:=bu;obtain⟨j,bA,bB,i,rfl,-,-,-⟩:=bt;have au:=af H;have bk:=af S;have aw:=af Q;have bl:=af bd;have M:X (∀d,aQ w d->bK 20 #[.agg #[.slice f cs.length aG,.slice o a.length aK]] d λe w'=>∃C,e= .returned (.bool C)/\(C=Z↔iG cs a)/\aQ d w'):=λd m=>
  EG cs a _ _ d am a9 ba (H.below m) (S.below m)
 have L:X (∀d,aQ w d->bK 21 #[.agg #[.int .i64 b,.slice j es.length i,.bool c],.slice f cs.length aG] d λe w'=>∃C,e= .returned (.bool C)/\(C=Z↔mI b es cs)/\aQ d w'):=λd m=>
  xX b es c cs _ _ d am bb (H.below m) (Q.lower m)
 clear H S Q am a9 ba bb bd;go_enter av.func15,Tryz.ntmps15
 go_upto_region 1 with fail
 have a6:aQ w ((w.alloc (.cells #[.slice f cs.length aG,.slice o a.length aK] 57)).alloc (.cells #[.int .i64 b,.slice j es.length i,.bool c] 61)):=kA _ _;have ao:((w.alloc (.cells #[.slice f cs.length aG,.slice o a.length aK] 57)).alloc (.cells #[.int .i64 b,.slice j es.length i,.bool c] 61)).heap[w.heap.size]? =I (.cells #[.slice f cs.length aG,.slice o a.length aK] 57 (0,0)):=alloc_old _ (by simp) (bC w _);have ar:((w.alloc (.cells #[.slice f cs.length aG,.slice o a.length aK] 57)).alloc (.cells #[.int .i64 b,.slice j es.length i,.bool c] 61)).heap[w.heap.size+1]? =I (.cells #[.int .i64 b,.slice j es.length i,.bool c] 61 (0,0)):=kw w _ _;generalize (w.alloc (.cells #[.slice f cs.length aG,.slice o a.length aK] 57)).alloc (.cells #[.int .i64 b,.slice j es.length i,.bool c] 61)=u at*;have A:=af a6;have ab:X (∀d,aQ u d->(cD d w.heap.size 0 (.slice f cs.length aG)/\cD d w.heap.size 1 (.slice o a.length aK))/\cD d (w.heap.size+1) 0 (.int .i64 b)/\cD d (w.heap.size+1) 1 (.slice j es.length i)/\cD d (w.heap.size+1) 2 (.bool c)):=λd m=>
  ⟨ny ((m.block _ (Va ao)).trans ao),bW ((m.block _ (Va ar)).trans ar)⟩
 clear a6 ao ar;obtain⟨⟨Y,aa⟩,T,V,W⟩:=ab.o u (Vi _ _);by_cases B:iG cs a
 ·have J:X (bK 20 #[.agg #[.slice f cs.length aG,.slice o a.length aK]] u λe w'=>e= .returned (.bool Z)/\aQ u w'):=qz (M.o _ A.o) B;have O:=af B;clear M B
  go_upto_region 3 with(go_at_call 20;refine J.o.mono ?_;rintro e z ⟨rfl,E⟩)
  have q:X (aQ w z):=A.o.trans (E.mono A.o.size);have P:=af E;clear Y aa T V W E J;obtain⟨⟨Y,aa⟩,T,V,W⟩:=ab.o z P.o;by_cases v:mI b es cs
  ·have K:X (bK 21 #[.agg #[.int .i64 b,.slice j es.length i,.bool c],.slice f cs.length aG] z λe w'=>e= .returned (.bool Z)/\aQ z w'):=qz (L.o _ q.o) v;obtain⟨bc,a7⟩:=NG O.o v bl.o;have h:=af bc;have bi:=af a7;have a2:=af v;clear L v bc a7
   go_upto_region 5 with(go_at_call 21;refine K.o.mono ?_;rintro e p ⟨rfl,G⟩)
   have g:X (aQ w p):=q.o.trans (G.mono q.o.size);have bm:X (aQ u p):=P.o.trans (G.mono P.o.size);clear Y aa T V W G K P q;obtain⟨⟨Y,aa⟩,T,V,W⟩:=ab.o p bm.o;have a0:X (bK 23 #[.agg #[.slice f cs.length aG,.slice o a.length aK],.agg #[.int .i64 b,.slice j es.length i,.bool c]] p λe w'=>∃l k,e= .returned (.agg #[.slice f cs.length aG,.slice j es.length i,l])/\k.map Vy=dH a cs es c b.toNat (fJ a.length b.toNat)/\iY w' p.heap.size l k/\aQ p w'):=by
    have m:=GU bj.o a cs b.toNat c (.slice o a.length aK) (.slice f cs.length aG) (.slice j es.length i) p h.o.lo h.o.hi h.o.table.2.1 h.o.len h.o.vals h.o.table.1.2.1 h.o.Kk (bk.o.below g.o) (au.o.below g.o) (aw.o.lower g.o);rw[<-bi.o] at m;exact m
   have a1:X (∀d l k,aQ w d->k.map Vy=dH a cs es c b.toNat (fJ a.length b.toNat)->(∃base,iY d base l k)->bK 22 #[.agg #[.slice f cs.length aG,.slice j es.length i,l]] d λe w'=>e= .returned (.string (strOf (ki cs a es c b.toNat)))/\aQ d w'):=λd l k a5 D ad=>by
    obtain⟨base,ad⟩:=ad;exact Nm cs es (dH a cs es c b.toNat (fJ a.length b.toNat)) _ _ l d h.o.table.1.2.1 h.o.Kk (EM h.o.table.1) (qE h.o.table.1) (by rw[nX];exact h.o.nb) (h.o.cj c _) (h.o.pos c) (h.o.body c) (au.o.below a5) (aw.o.lower a5) ⟨base,k,D,ad⟩
   have N:X ((strOf (ki cs a es c b.toNat)).size=(ki cs a es c b.toNat).length):=nu _;by_cases R:65536<(ki cs a es c b.toNat).length
   ·have t:X (Mm cs a b es c ⟨#[]⟩ 6):=.inr (.inr (.inl ⟨O.o,a2.o,R,rfl,rfl⟩));have bo:decide (65536<((strOf (ki cs a es c b.toNat)).size:Int))=Z:=by rw[N.o];simp;omega
    clear R N;generalize strOf (ki cs a es c b.toNat)=br at*
    go_wp2_with (first|(go_at_call 23;refine a0.o.mono ?_;rintro e bv ⟨l,k,rfl,D,al,y⟩)|(go_at_call 22;refine(a1.o _ l k ?_ D ⟨_,al⟩).mono ?_;(exact g.o.trans (y.mono g.o.size));rintro e bx ⟨rfl,ae⟩))
    go_ret2
    exact⟨_,_,rfl,t.o,(g.o.trans (y.mono g.o.size)).trans (ae.mono (g.o.trans (y.mono g.o.size)).size)⟩
   ·have t:X (Mm cs a b es c (strOf (ki cs a es c b.toNat)) 0):=.inr (.inr (.inr ⟨O.o,a2.o,R,rfl,rfl⟩));have bo:decide (65536<((strOf (ki cs a es c b.toNat)).size:Int))=U5:=by rw[N.o];simp;omega
    clear R N;generalize strOf (ki cs a es c b.toNat)=br at*
    go_wp2_with (first|(go_at_call 23;refine a0.o.mono ?_;rintro e bv ⟨l,k,rfl,D,al,y⟩)|(go_at_call 22;refine(a1.o _ l k ?_ D ⟨_,al⟩).mono ?_;(exact g.o.trans (y.mono g.o.size));rintro e bx ⟨rfl,ae⟩))
    go_ret2
    exact⟨_,_,rfl,t.o,(g.o.trans (y.mono g.o.size)).trans (ae.mono (g.o.trans (y.mono g.o.size)).size)⟩
  ·have K:X (bK 21 #[.agg #[.int .i64 b,.slice j es.length i,.bool c],.slice f cs.length aG] z λe w'=>e= .returned (.bool U5)/\aQ z w'):=oE (L.o _ q.o) v;have t:X (Mm cs a b es c ⟨#[]⟩ 2):=.inr (.inl ⟨O.o,v,rfl,rfl⟩);clear L v
   go_wp2_with (go_at_call 21;refine K.o.mono ?_;rintro e p ⟨rfl,G⟩)
   go_ret2
   exact⟨_,_,rfl,t.o,q.o.trans (G.mono q.o.size)⟩
 ·have J:X (bK 20 #[.agg #[.slice f cs.length aG,.slice o a.length aK]] u λe w'=>e= .returned (.bool U5)/\aQ u w'):=oE (M.o _ A.o) B;have t:X (Mm cs a b es c ⟨#[]⟩ 1):=.inl ⟨B,rfl,rfl⟩;clear M B
  go_wp2_with (go_at_call 20;refine J.o.mono ?_;rintro e z ⟨rfl,E⟩)
  go_ret2
  exact⟨_,_,rfl,t.o,A.o.trans (E.mono A.o.size)⟩
end Ec
namespace Cc
open Go Go.Conc
open Go.RowKit (Below)
open Ec
def AN{cs:List bQ}{b:List (List aC)}{es:List Int}{a:Nat}{c:Bool}(h:sJ cs b es a){V:Nat->Nat->List aC}(s:Cf (I (cs.zip es,dH b cs es c a (fJ b.length a))) V):∀j,j<fJ b.length a->∀p,p<cs.length->V j p=bS (ea b a j) p:=by
 intro j v p d;have o:(dH b cs es c a (fJ b.length a))[j]? =I (nJ (ea b a j) cs es c):=by simp[dH,v]
 have q:(nJ (ea b a j) cs es c).chunks[p]? =I (Ee (ea b a j) cs es c p):=by simp[nJ,eD,d]
 have n:p<es.length:=by rw[h.Kk];exact d
 have r:(cs.zip es)[p]? =I (cs[p],es[p]):=by simp[List.getElem?_zip_eq_some,d,n]
 have g:=s j _ o p _ _ q r;have l:es.getD p 0=es[p]:=by rw[Vk,Vf n];rfl
 rw[h.mb c j p d,l] at g;have x:((nJ (ea b a j) cs es c).rows:Int)=((bS (ea b a j) p).length:Int):=by rw[jN];rfl
 rw[x] at g;have A:=h.cut j p;have m:=h.n5.2 p d;rw[l] at m;have t:js ((bS (ea b a j) p).length:Int) cs[p].kind es[p]=0:=by
  unfold js;rw[if_neg (by omega),m];rfl
 have k:=Pk.r9 _ (GH cs[p].kind es[p] (bS (ea b a j) p));rcases g with⟨i,e,y,z,u⟩|⟨_,e|⟨i,e,w⟩⟩
 ·have f:(bS (ea b a j) p).length=i:=by omega
  exact(u.JJ _ f (h.vc j p d) (eN k.symm)).symm
 ·exact absurd t e
 ·have f:(bS (ea b a j) p).length=i:=by omega
  exact absurd k.symm (w _ f (h.vc j p d))
def gY:List bQ:=[⟨⟨#[120]⟩,1⟩]
def j7:List (List aC):=[[⟨U5,7,⟨#[]⟩⟩],[⟨Z,0,⟨#[]⟩⟩]]
def sG:ByteArray:=Pk.strOf (ki gY j7 [0] Z 1)
def OU:(ki gY j7 [0] Z 1).length=31:=by decide +kernel
def F2:sJ gY j7 [0] 1:=by
 refine⟨⟨⟨by decide,by decide,λa b=>?_⟩,by decide,λa b=>?_⟩,⟨rfl,λa b=>?_⟩,by decide,by decide,λh f i d=>?_⟩
 ·have:a=0:=by simp[gY] at b;omega
  subst this;exact⟨(by decide +kernel:pX ⟨⟨#[120]⟩,1⟩=Z),λe c=>by omega⟩
 ·have:a=0\/a=1:=by simp[j7] at b;omega
  rcases this with rfl|rfl
  ·refine⟨rfl,λe c g=>?_⟩;have:e=0:=by simp[j7] at c;omega
   subst this;exact(by decide +kernel:gD ⟨U5,7,⟨#[]⟩⟩ 1=Z)
  ·refine⟨rfl,λe c g=>?_⟩;have:e=0:=by simp[j7] at c;omega
   subst this;exact(by decide +kernel:gD ⟨Z,0,⟨#[]⟩⟩ 1=Z)
 ·have:a=0:=by simp[gY] at b;omega
  subst this;exact(by decide +kernel:bw 1 0=Z)
 ·simp[j7] at f;rcases f with rfl|rfl
  ·simp at d;subst d;exact⟨by decide,by decide⟩
  ·simp at d;subst d;exact⟨by decide,by decide⟩
def QS:∃a c1,dH j7 gY [0] Z 1 (fJ j7.length 1)=[⟨1,[a]⟩,⟨1,[c1]⟩]:=⟨_,_,rfl⟩
def TX{V:Nat->Nat->List aC}(a c1:j8)(d:V 0 0=[⟨U5,7,⟨#[]⟩⟩])(h1:V 1 0=[⟨Z,0,⟨#[]⟩⟩]):iN (I (gY.zip [0],[⟨1,[a]⟩,⟨1,[c1]⟩])) V [0] [] U5=([[⟨U5,7,⟨#[]⟩⟩],[⟨Z,0,⟨#[]⟩⟩]],0):=by
 have e:iV (I (gY.zip [0],[⟨1,[a]⟩,⟨1,[c1]⟩])) [0] []=0:=rfl;have f:vv (I (gY.zip [0],[⟨1,[a]⟩,⟨1,[c1]⟩])) V [0] [] U5 (λ_=>Z)=([(0,[⟨U5,7,⟨#[]⟩⟩]),(1,[⟨Z,0,⟨#[]⟩⟩])],2,0):=by
  have c:Jk [⟨1,[a]⟩,⟨1,[c1]⟩] (aI (gY.zip [(0:Int)]).length ([0]++([]:List bT).map bT.col)) V 0=Z:=by
   simp[Jk,aI,gY,rowsOf,d]
  have b:Jk [⟨1,[a]⟩,⟨1,[c1]⟩] (aI (gY.zip [(0:Int)]).length ([0]++([]:List bT).map bT.col)) V 1=Z:=by
   simp[Jk,aI,gY,rowsOf,h1]
  show bV U5 [⟨1,[a]⟩,⟨1,[c1]⟩] [0] [] (aI (gY.zip [(0:Int)]).length ([0]++([]:List bT).map bT.col)) V (λ_=>Z) 0 2 [] 0=_
  revert c b
  generalize aI (gY.zip [(0:Int)]).length ([0]++([]:List bT).map bT.col)=g;intro c b;rw[Fo,Fo];simp only[Bool.false_and,Vv,if_false,c,b,if_true,VV];simp[bV,oF,b,fL,dS,nL,rowsOf,eM,Dz,d,h1]
 unfold iN;rw[e,f];rfl
end Cc
namespace Cc
open Go Go.Conc
open Go.RowKit (Below)
section
variable {P0 P:Vb}{Post:U->F->Prop}{cs:List Vg}{w:F}{b:Vg}{a:Xa}{k:List XR}
def SX(h:Twins P0 P){c:XQ}{Q:F->Xa->F->Prop}(G:∀s,Zv (.refuse s)∉k)(L:eH P0 (b.at a (.code c::k)) [])
 (H:∀d,(∀(b:Nat) o,w.heap[b]? =I o->bf P0 o->d.heap[b]? =I o)->w.heap.size<=d.heap.size->c.wp P0 (λe a' W'=>e= .normal/\aQ d W'/\Q d a' W') a d)
 (D:∀a' d W' w',(∀(b:Nat) o,w.heap[b]? =I o->bf P0 o->d.heap[b]? =I o)->w.heap.size<=d.heap.size->aQ d W'->Q d a' W'->Un W' w'->RelB (dY w) w w'->Xe P0 P Post (dY w') (b.at a' k) cs w'):Xe P0 P Post (dY w) (b.at a (.code c::k)) cs w:=by
 intro R O f J;refine Jm h (Q:=λi e a' W'=>e= .normal/\∃d,d.heap=i.heap/\aQ d W'/\Q d a' W') (λi l n=>?_) G (λi id a w g=>by cases g.1) (λi S a w g=>by cases g.1) (λi a w g=>by cases g.1) (λi e a' y w' n B l g j u=>?_) L J
 ·intro z N A;obtain⟨e,a',w',⟨p,j,C⟩,E⟩:=H (sh n 0 i) (λb o m r=>l.at_ b o ((f.at_ b (U4.1 m).1).trans m) r) (by show w.heap.size<=i.heap.size;rw[<-l.un.size];exact f.size) z N A;exact⟨e,a',w',⟨p,sh n 0 i,rfl,j,C⟩,E⟩
 ·obtain⟨rfl,d,t,q,g⟩:=g;have M:d.heap.size<=w'.heap.size:=by rw[j.un.size];exact q.size
  have v:d.heap.size=O.heap.size:=by rw[t,l.un.size]
  have hrel:RelB (dY w) w w':=⟨λb x=>by
   have p:y.heap[b]? =d.heap[b]? :=q.block b (by rw[v];exact U9 x f.size);exact(j.same l.un (by rw[p,t])).trans (f.at_ b x),Vm f.size (by rw[<-v];exact M),u.tape.trans f.tape,u.os.trans f.os,u.output.trans f.output⟩
  intro _ K;exact Xe.go (D a' d (sh n B y) w' (λb o m r=>by rw[t];exact l.at_ b o ((f.at_ b (U4.1 m).1).trans m) r) (by rw[v];exact f.size) q g ⟨j.un.size,j.un.at_,j.un.os,j.un.output⟩ hrel) (λb h=>h) K
end
end Cc
namespace Cc
open Go Go.Conc
open Go.RowKit (Below)
open Ec
open Pk
def Tu{a:Xa}{n:Nat}(h:a.tmps.size=n)(c:a.defers=[]):a=⟨((VS n).map (aS a)).toArray,[]⟩:=by
 obtain⟨f,e⟩:=a;simp only at h c;subst c;congr 1;apply Yo;intro d;simp only[List.getElem?_toArray,YI,List.getElem?_range];rcases WG d n with b|b
 ·simp[b,aS,h]
 ·simp[b,h]
def SQ (fn:XJ):XQ:=match fn.body with
 |some (.seq _ (.seq a _))=>a
 |_=>.skip
def SR (fn:XJ):XQ:=match fn.body with
 |some (.seq _ (.seq _ (.seq a _)))=>a
 |_=>.skip
structure L8(W:F)(n:Nat):Prop where
 c:W.heap[n]? =I (.cells #[.string ⟨#[120]⟩,.int .i64 1] 51 (0,0))
 v0:W.heap[n+1]? =I (.cells #[.bool U5,.int .i64 7,.string ⟨#[]⟩] 54 (0,0))
 v1:W.heap[n+2]? =I (.cells #[.bool Z,.int .i64 0,.string ⟨#[]⟩] 54 (0,0))
 r:W.heap[n+3]? =I (.cells #[.slice (I ⟨n+1,0,K⟩) 1 1,.slice (I ⟨n+2,0,K⟩) 1 1] 55 (0,0))
 t:W.heap[n+4]? =I (.cells #[.slice (I ⟨n,0,K⟩) 1 1,.slice (I ⟨n+3,0,K⟩) 2 2] 57 (0,0))
def L8.go{d W':F}{n:Nat}(h:L8 d n)(a:∀(b:Nat) c t,d.heap[b]? =I (.cells c t (0,0))->W'.heap[b]? =I (.cells c t (0,0))):L8 W' n:=⟨a _ _ _ h.c,a _ _ _ h.v0,a _ _ _ h.v1,a _ _ _ h.r,a _ _ _ h.t⟩
def SU(a:F)(v:Nat->U):(SQ Tryz.f6).wp (ax U1) (λe a' W'=>e= .normal/\aQ a W'/\Knows a' 59 [(1,(aP (a.heap.size+4)))]/\a'.defers=[]/\L8 W' a.heap.size) ⟨#[v 0,v 1,v 2,v 3,v 4,v 5,v 6,v 7,v 8,v 9,v 10,v 11,v 12,v 13,v 14,v 15,v 16,v 17,v 18,v 19,v 20,v 21,v 22,v 23,v 24,v 25,v 26,v 27,v 28,v 29,v 30,v 31,v 32,v 33,v 34,v 35,v 36,v 37,v 38,v 39,v 40,v 41,v 42,v 43,v 44,v 45,v 46,v 47,v 48,v 49,v 50,v 51,v 52,v 53,v 54,v 55,v 56,v 57,v 58],[]⟩ a:=by
 unfold SQ Tryz.f6;dsimp only;go_wp2;refine⟨(((((Below.refl _ _).alloc (U7 _) _).alloc (by simp) _).alloc (by simp;omega) _).alloc (by simp;omega) _).alloc (by simp;omega) _,Knows.cons (l:=[]) ⟨rfl,λs v b=>by simp at b⟩ Y,⟨?_,?_,?_,?_,?_⟩⟩
 ·show(((((a.heap.push _).push _).push _).push _).push _)[a.heap.size]? =_;rw[VF,if_neg (by simp only[WU];omega)];rw[VF,if_neg (by simp only[WU];omega)];rw[VF,if_neg (by simp only[WU];omega)];rw[VF,if_neg (by simp only[WU];omega)];rw[VF,if_pos (by simp only[WU])]
 ·show(((((a.heap.push _).push _).push _).push _).push _)[a.heap.size+1]? =_;rw[VF,if_neg (by simp only[WU];omega)];rw[VF,if_neg (by simp only[WU];omega)];rw[VF,if_neg (by simp only[WU];omega)];rw[VF,if_pos (by simp only[WU])]
 ·show(((((a.heap.push _).push _).push _).push _).push _)[a.heap.size+2]? =_;rw[VF,if_neg (by simp only[WU];omega)];rw[VF,if_neg (by simp only[WU];omega)];rw[VF,if_pos (by simp only[WU])]
 ·show(((((a.heap.push _).push _).push _).push _).push _)[a.heap.size+3]? =_;rw[VF,if_neg (by simp only[WU];omega)];rw[VF,if_pos (by simp only[WU])]
 ·show(((((a.heap.push _).push _).push _).push _).push _)[a.heap.size+4]? =_;rw[VF,if_pos (by simp only[WU])]
def L8.ah{c:F}{n:Nat}(h:L8 c n):Cd c (.slice (I ⟨n,0,K⟩) 1 1) gY:=by
 obtain⟨d,e⟩:=ny h.c;refine⟨_,n,0,1,rfl,U7 _,λ_=>rfl,λ_=>Va h.c,λb a=>?_,λb a=>?_⟩
 ·have:b=0:=by simp[gY] at a;omega
  subst this;exact d
 ·have:b=0:=by simp[gY] at a;omega
  subst this;exact e
def L8.rows{c:F}{n:Nat}(h:L8 c n):DL c (.slice (I ⟨n+3,0,K⟩) 2 2) j7:=by
 obtain⟨d,i⟩:=ny h.r;obtain⟨e,f,g⟩:=bW h.v0;obtain⟨j,k,l⟩:=bW h.v1;refine⟨_,n+3,0,2,rfl,U7 _,λ_=>rfl,λ_=>Va h.r,λa b=>?_⟩;have:a=0\/a=1:=by simp[j7] at b;omega
 rcases this with rfl|rfl
 ·refine⟨_,d,_,n+1,0,1,rfl,λ_=>rfl,λ_=>Va h.v0,λa b=>?_,λa b=>?_,λa b=>?_⟩
  all_goals have:a=0:=by simp[j7] at b;omega
  all_goals subst this
  ·exact e
  ·exact f
  ·exact g
 ·refine⟨_,i,_,n+2,0,1,rfl,λ_=>rfl,λ_=>Va h.v1,λa b=>?_,λa b=>?_,λa b=>?_⟩
  all_goals have:a=0:=by simp[j7] at b;omega
  all_goals subst this
  ·exact j
  ·exact k
  ·exact l
def OW{a:F}{n:Nat}(h:L8 a n)(c:U)(f:uv a c [0]):bK 15 #[.agg #[.slice (I ⟨n,0,K⟩) 1 1,.slice (I ⟨n+3,0,K⟩) 2 2],.agg #[.int .i64 1,c,.bool Z]] a λe w'=>e= .returned (.tuple #[.string sG,.int .i64 0])/\aQ a w':=by
 refine(Ib (es:=[0]) (.inl (by decide)) gY j7 1 Z _ _ _ a (by decide) (by decide) (by decide) (by decide) F2.vals h.ah h.rows f).mono ?_;rintro e w' ⟨s,n,rfl,g,d⟩;refine⟨?_,d⟩;rcases g with⟨b,_⟩|⟨_,b,_⟩|⟨_,_,b,_⟩|⟨_,_,_,rfl,rfl⟩
 ·exact absurd F2.table b
 ·exact absurd ⟨by decide,by decide,F2.n5⟩ b
 ·exact absurd b (by have:=OU;show ¬ 65536<(ki gY j7 [0] Z 1).length;omega)
 ·rfl
def SV(a:F)(n:Nat)(h:L8 a n)(v:Nat->U)(f:v 1=(aP (n+4))):(SR Tryz.f6).wp (ax U1) (λe a' W'=>e= .normal/\aQ a W'/\Knows a' 59 [(2,.string sG),(3,.int .i64 0)]/\a'.defers=[]) ⟨#[v 0,v 1,v 2,v 3,v 4,v 5,v 6,v 7,v 8,v 9,v 10,v 11,v 12,v 13,v 14,v 15,v 16,v 17,v 18,v 19,v 20,v 21,v 22,v 23,v 24,v 25,v 26,v 27,v 28,v 29,v 30,v 31,v 32,v 33,v 34,v 35,v 36,v 37,v 38,v 39,v 40,v 41,v 42,v 43,v 44,v 45,v 46,v 47,v 48,v 49,v 50,v 51,v 52,v 53,v 54,v 55,v 56,v 57,v 58],[]⟩ a:=by
 have c:=af h;obtain⟨l,m⟩:=ny c.o.t;rw[f];unfold SR Tryz.f6;dsimp only
 go_wp2_with (go_at_call 15;refine(OW (c.o.go λi j k b=>alloc_old _ (Va b) b) _ ⟨_,a.heap.size,0,1,rfl,λ_=>rfl,λ_=>by simp,λg d=>?_⟩).mono ?_)
 ·have:g=0:=by simp at d;omega
  subst this;show _=_;simp
 rintro e o ⟨rfl,b⟩;go_wp2;refine⟨((Below.refl _ a).alloc (U7 _) _).trans (b.mono (by simp)),Knows.cons (Knows.cons (l:=[]) ⟨rfl,λs v h=>by simp at h⟩ Y) Y⟩
def SS (fn:XJ):XQ:=match fn.body with
 |some (.seq _ (.seq _ (.seq _ (.seq _ (.seq a _)))))=>a
 |_=>.skip
def QW{b:F}{base:Nat}{v:U}(h:lQ b base v [[⟨U5,7,⟨#[]⟩⟩],[⟨Z,0,⟨#[]⟩⟩]]):∃g cap a c,v= .slice (I ⟨g,0,K⟩) 2 cap/\cD b g 0 (.slice (I ⟨a,0,K⟩) 1 c)/\cD b a 0 (.bool U5)/\cD b a 1 (.int .i64 7)/\cD b a 2 (.string ⟨#[]⟩):=by
 obtain⟨p,f,j,-⟩:=h;obtain⟨o,k,i⟩:=j 0 _ rfl;have l:=f;have e:=i;rcases f.2 with⟨_,d⟩|⟨g,cap,m,rfl,-⟩
 ·cases d
 rcases i.2 with⟨_,d⟩|⟨a,c,n,rfl,-⟩
 ·cases d
 exact⟨g,cap,a,c,rfl,l.cells (g:=g) Y 0 _ k,e.cells (g:=a) Y 0 _ Y,e.cells (g:=a) Y 1 _ Y,e.cells (g:=a) Y 2 _ Y⟩
def Am:sG.size=31:=by
 show(Pk.strOf _).size=31;rw[Pk.nu];exact OU
def QV(a:F)(v:Nat->U)(d:v 2= .string sG)(f:v 3= .int .i64 0)(h:v 5= .int .i64 0){base:Nat}(g:lQ a base (v 4) [[⟨U5,7,⟨#[]⟩⟩],[⟨Z,0,⟨#[]⟩⟩]]):(SS Tryz.f6).wp (ax U1) (λe a' W'=>e= .normal/\aQ a W'/\Knows a' 59 [(0,.bool Z)]/\a'.defers=[]) ⟨#[v 0,v 1,v 2,v 3,v 4,v 5,v 6,v 7,v 8,v 9,v 10,v 11,v 12,v 13,v 14,v 15,v 16,v 17,v 18,v 19,v 20,v 21,v 22,v 23,v 24,v 25,v 26,v 27,v 28,v 29,v 30,v 31,v 32,v 33,v 34,v 35,v 36,v 37,v 38,v 39,v 40,v 41,v 42,v 43,v 44,v 45,v 46,v 47,v 48,v 49,v 50,v 51,v 52,v 53,v 54,v 55,v 56,v 57,v 58],[]⟩ a:=by
 obtain⟨n,l,o,m,b,q,i,j,k⟩:=QW g;have p:=Am;rw[d,f,h,b];generalize sG=s at*;unfold SS Tryz.f6;dsimp only;go_wp2;exact⟨Below.refl _ _,Knows.cons (l:=[]) ⟨rfl,λs v c=>by simp at c⟩ Y⟩
end Cc
namespace Cc
open Go Go.Conc
open Go.RowKit (Below)
open Ec
section
variable {P0 P:Vb}{S own:Nat->Prop}{w:F}{a:Xa}{o:Ww}
def G9{t e:Vc}{i:TypeInfo}{z v:U}{x:V4}(m:o.op= .buildSlice t 1 #[(0,x)])(q:a.eval x=v)(y:v.cells=#[v])(p:P.underlying t=I (.slice e))(l:P.info? e=I i)(r:i.zero=I z)(C:z.cells.size=1)(d:i.size=1):
 ∀c,RelB (λb=>S b\/own b) w c->∃w',(Vw a.eval o).run P c= .ok (.value (.slice (I ⟨c.heap.size,0,K⟩) 1 1)) w'/\w'.heap=c.heap.push (.cells #[v] e)/\w'.tape=c.tape/\w'.os=c.os/\w'.output=c.output/\∀h∈(Vw a.eval o).events P c #[],jq c.heap.size S own h:=by
 intro c B;have g:YL (λs=>I (s*i.size,i.size)) ((Y3 (1*i.size)).map (z.cells[· % z.cells.size]!)) #[(0,v)].toList=I #[v]:=by
  rw[d];simp[YL,y,Y3,Array.zipIdx];apply Array.ext
  ·simp
  ·intro s A j;simp at j;subst j;simp
 have n:=run_buildSlice (P:=P) c t e 1 #[(0,v)] #[v] i z p l r (by rw[d];decide) (by rw[d];decide) g;refine⟨c.alloc (.cells #[v] e),?_,rfl,rfl,rfl,rfl,λh f=>?_⟩
 ·unfold Vw;simp[m,q,n]
 ·have u:(X9 t 1 #[(0,v)]).events P c #[]=#[]:=by
   simp only[List.toArray,Nat.one_mul,Ze,d] at g;simp[X9,X5 p,sizeOf,typeInfo,Xl,l,r,d,g,newRow]
  unfold Vw at f;simp only[m] at f;simp[q,n,u] at f
end
section
variable {P0 P:Vb}{Post:U->F->Prop}{cs:List Vg}{w:F}{b:Vg}{a:Xa}{k:List XR}
def fQ(h:Twins P0 P){n:Nat}{l:List (Nat×U)}(f:Knows a n l)(j:a.defers=[])(c:XQ)(Q:F->Xa->F->Prop)(m:∀s,Zv (.refuse s)∉k)(r:eH P0 (b.at a (.code c::k)) [])
 (p:∀v d,(∀s x,l.lookup s=I x->v s=x)->(∀(b:Nat) o,w.heap[b]? =I o->bf P0 o->d.heap[b]? =I o)->w.heap.size<=d.heap.size->c.wp P0 (λe a' W'=>e= .normal/\aQ d W'/\Q d a' W') ⟨((VS n).map v).toArray,[]⟩ d)
 (g:∀a' d W' w',(∀(b:Nat) o,w.heap[b]? =I o->bf P0 o->d.heap[b]? =I o)->w.heap.size<=d.heap.size->aQ d W'->Q d a' W'->Un W' w'->RelB (dY w) w w'->Xe P0 P Post (dY w') (b.at a' k) cs w'):Xe P0 P Post (dY w) (b.at a (.code c::k)) cs w:=
 SX h m r (λd i q=>by
  have:=p (aS a) d f.slot i q;rwa [<-Tu f.size j] at this) g
end
def AP(m:Nat):Knows ⟨#[]++V8 (m-0) V9,[]⟩ m []:=⟨by simp,λs v c=>by simp at c⟩
def Gd{c:XQ}(hc:∀s,c≠.refuse s):∀s,Zv (.refuse s)∉[Zv c]:=λs d=>by
 simp only[List.mem_singleton,Item.code.injEq] at d;exact hc s d.symm
def lQ.like{P0:Vb}{w e:F}{base:Nat}{v:U}{p:List (List aC)}(h:lQ w base v p)(y:∀(b:Nat) o,w.heap[b]? =I o->bf P0 o->e.heap[b]? =I o):lQ e base v p:=by
 have q:∀{f:Vc} {j i:Nat} {v:U} {l:List U},w.ownsRow base f j v i l->e.ownsRow base f j v i l:=λ{f j i v l} h=>by
  obtain⟨n,⟨c,d⟩|⟨m,t,u,c,d,g,x⟩⟩:=h
  ·exact⟨n,.inl ⟨c,d⟩⟩
  ·exact⟨n,.inr ⟨m,t,u,c,d,y m _ g trivial,x⟩⟩
 obtain⟨C,c,d,g⟩:=h;exact⟨C,q c,λA D z=>by
  obtain⟨B,r,s⟩:=d A D z;exact⟨B,r,q s⟩,g⟩
def TZ:∃c,U1.info? 3=I c/\c.zero=I (.int .i64 0)/\c.size=1:=⟨Tryz.t3,by kernel_rfl,rfl,rfl⟩
def O9:(Xo.name == "runtime.NumGoroutine")=U5:=by kernel_rfl
def QX{Post:U->F->Prop}{w0:F}{cb aG:Nat}(u:cb<w0.heap.size)(t:w0.cell? ⟨cb,0,K⟩=I (.int .i64 0)):kq (ax U1) U1 Post 7 #[.string sG,.slice (I ⟨cb,0,K⟩) 1 aG,.slice K 0 0,.bool U5] w0 (DW ([[⟨U5,7,⟨#[]⟩⟩],[⟨Z,0,⟨#[]⟩⟩]],0) w0):=by
 have i:sG.size<=Vp:=by rw[Am];decide
 obtain⟨e,hF⟩:=Ja sG w0 i;have f:=yL F2 Z (by rw[OU];decide);have r:e=I (gY.zip [0],dH j7 gY [0] Z 1 (fJ j7.length 1)):=by
  cases e with
  |none=>exact absurd f (hF _ _)
  |some y=>
   obtain⟨A,z⟩:=y;obtain⟨m,n⟩:=hF.2 _ _ f;rw[<-m,<-n]
 subst r;obtain⟨V,g⟩:=EE w0 hF;have h:=AN F2 g;have p:V 0 0=[⟨U5,7,⟨#[]⟩⟩]:=h 0 (by decide) 0 (by decide);have q:V 1 0=[⟨Z,0,⟨#[]⟩⟩]:=h 1 (by decide) 0 (by decide);have x:iN (I (gY.zip [0],dH j7 gY [0] Z 1 (fJ j7.length 1))) V [0] [] U5=([[⟨U5,7,⟨#[]⟩⟩],[⟨Z,0,⟨#[]⟩⟩]],0):=by
  obtain⟨j,l,s⟩:=QS;rw[s];exact TX j l p q
 have:=zH (Post:=Post) (ah:=[0]) (rs:=[]) (co:=I ⟨cb,0,K⟩) (cb:=cb) (bH:=0) (aG:=aG) (ro:=K) (rb:=0) (bF:=0) (aK:=0) (sk:=U5) (w0:=w0) i hF g (by decide) (by decide) (λ_=>rfl) (λ_=>u) (λd v=>by
  have:d=0:=by simp at v;omega
  subst this;exact t) ⟨λc=>by simp at c,λc=>by simp at c,λd c=>by simp at c,λd c=>by simp at c,λd c=>by simp at c,λd c=>by simp at c,λd c=>by simp at c,λd c=>by simp at c,λd c=>by simp at c⟩
 rw[x] at this;exact this
def F4{Post:U->F->Prop}{w0:F}:kq (ax U1) U1 Post 6 #[] w0 (λe w'=>e= .returned (.bool Z)/\(∀b,b<w0.heap.size->w'.heap[b]? =w0.heap[b]?)/\w0.heap.size<=w'.heap.size):=by
 intro N cs a2 bv ao V;have d:=eX (ax U1) U1 Post;refine Xe.go (own:=dY w0) ?_ (λb f=>f) ao;rw[enter_at _ Tryz.func6 Y];have c:=AP 59;refine aJ d ?_;refine bg d [0] Y ?_;refine oz d c (.bool U5) λc=>?_;refine aj d ?_;refine aJ d ?_;refine fQ bI c (by simp only[put_defers]) (SQ Tryz.f6) (λg j B=>Knows j 59 [(1,(aP (g.heap.size+4)))]/\j.defers=[]/\L8 B g.heap.size) (Gd λs f=>by cases f) (bL Y (by simp only[put_defers]) (by kernel_rfl)) (λv g n u D=>SU g v) λbc g a7 A u D bj aw aa p=>?_;clear c;obtain⟨c,i,O⟩:=aw;have X:L8 A g.heap.size:=O.go λb N a4 h=>aa.row.1 h;clear O;generalize g.heap.size=H at*;refine aJ d ?_;refine fQ bI c i (SR Tryz.f6) (λg j B=>Knows j 59 [(2,.string sG),(3,.int .i64 0)]/\j.defers=[]) (Gd λs f=>by cases f) (bL Y i (by kernel_rfl)) (λv g n u D=>SV g H (X.go λb N a4 h=>u b _ h trivial) v (n 1 _ Y)) λbd a8 a9 a5 br bx bk a0 bm q=>?_;clear i c;obtain⟨c,i⟩:=a0;refine aJ d ?_;refine bg d [0,1,2,3,4,5,6,7] Y ?_;refine bX d c λc=>?_;obtain⟨bB,ad,a3,G⟩:=TZ;refine kg d (λb h=>h.elim YJ (λf=>f)) (by decide) Y Y (.cells #[.int .i64 0] 3) trivial (λH=>.slice (I ⟨H,0,K⟩) 1 1) (G9 Y Y Y Tryz.underlying22 ad a3 Y G) λy b0 bu bA r ab=>?_;replace c:=c.put (d:=23) (by decide) (.slice (I ⟨y,0,K⟩) 1 1);refine oa (vs:= #[.string sG,.slice (I ⟨y,0,K⟩) 1 1,.slice K 0 0,.bool U5]) (R:=λA e w'=>DW ([[⟨U5,7,⟨#[]⟩⟩],[⟨Z,0,⟨#[]⟩⟩]],0) A e w') Y Y Y Y (oo (c.of Y) (c.of Y) Y Y) Tryz.func7 O9 Y (bL Y (by simp only[put_defers];exact i) (by kernel_rfl)) (λx l=>?_) (λx v L l W E ar=>?_) (λx bi w' f=>?_) (λx w' f=>?_)
 ·have Q:x.heap[y]? =_:=(l.at_ y (.inr Y)).trans ab;exact QX (U4.1 Q).1 (by unfold Ve;rw[Q];rfl)
 ·obtain⟨J,e,am,-,al,G⟩:=W;have T:=XG e;subst T;have ae:∀b,b<w0.heap.size->L.heap[b]? =w0.heap[b]? :=λb h=>by
   have M:b<A.heap.size:=U9 h p.size;have C:b<a5.heap.size:=U9 M q.size;refine(al b ?_).trans ((l.at_ b (.inl C)).trans ((r.at_ b (.inr C)).trans ((q.at_ b M).trans (p.at_ b h))));exact U9 C (Vm r.size l.size)
  have z:w0.heap.size<=L.heap.size:=Vm p.size (Vm q.size (Vm r.size (Vm l.size G)));refine Xe.go (own:=dY L) ?_ (λb f=>f) ar;replace c:=c.put (d:=24) (by decide) (.tuple #[J,.int .i64 0]);refine bX d c λc=>?_;refine qu d c λc=>?_;refine qu d c λc=>?_;refine gw d c λc=>?_;refine gw d c λc=>?_;refine aj d ?_;refine aJ d ?_;have bt:=i;refine fQ bI c (by simp only[put_defers];exact i) (SS Tryz.f6) (λg j B=>Knows j 59 [(0,.bool Z)]/\j.defers=[]) (Gd λs f=>by cases f) (bL Y (by simp only[put_defers];exact i) (by kernel_rfl)) (λv g n u D=>QV g v (n 2 _ Y) (n 3 _ Y) (n 5 _ Y) (base:=x.heap.size) (by rw[n 4 _ Y];exact am.like u)) λbe ba bb b1 bs bz bl a1 bo m=>?_
  ·obtain⟨c,i⟩:=a1;refine oB d ?_;have R:=iM (P:=U1) Tryz.results6 (c.slot 0 _ Y);refine ig d Y i Tryz.func6 R.1 R.2 ?_;intro _ a6 t au;refine V (.returned (.bool Z)) a6 ⟨rfl,λb h=>(t.at_ b (U9 h (Vm z m.size))).trans ((m.at_ b (U9 h z)).trans (ae b h)),Vm z (Vm m.size t.size)⟩ au ⟨?_,?_,?_,Vm z (Vm m.size t.size)⟩ (lm a2 _)
   ·exact t.tape.trans (m.tape.trans (E.tape.trans (l.tape.trans (r.tape.trans (q.tape.trans p.tape)))))
   ·exact t.os.trans (m.os.trans (E.os.trans (l.os.trans (r.os.trans (q.os.trans p.os)))))
   ·exact t.output.trans (m.output.trans (E.output.trans (l.output.trans (r.output.trans (q.output.trans p.output)))))
 ·obtain⟨J,e,-⟩:=f;cases e
 ·obtain⟨J,e,-⟩:=f;cases e
end Cc
namespace Ec
open Go.RowKit Pk
def uU{Q:Prop}{P:Vb}{f:Nat}{args:Array U}{w:F}(h:Calls P f args w λe w'=>∃b,e= .returned (.bool b)/\(b=Z↔Q)/\∃n,w'=w.drewN n)(d:Q):Calls P f args w λe w'=>e= .returned (.bool Z)/\∃n,w'=w.drewN n:=
 h.mono (by rintro e w' ⟨g,rfl,c,a⟩;rw[c.2 d];exact⟨rfl,a⟩)
def GM{Q:Prop}{P:Vb}{f:Nat}{args:Array U}{w:F}(h:Calls P f args w λe w'=>∃b,e= .returned (.bool b)/\(b=Z↔Q)/\∃n,w'=w.drewN n)(g:¬Q):Calls P f args w λe w'=>e= .returned (.bool U5)/\∃n,w'=w.drewN n:=
 h.mono (by
  rintro e w' ⟨a,rfl,d,c⟩;cases a
  ·exact⟨rfl,c⟩
  ·exact absurd (d.1 Y) g)
def ue(c d:List (List aC))(H I:Option VI)(b off cap b2 S ad:Nat)(w:F)(ae:c.length<=Vp)(al:d.length<=Vp)(N:∀r∈c,r.length<=Vp)(O:∀r∈d,r.length<=Vp)
 (h1:xS w H b off c) (y:xS w I b2 S d):
 bK 13 #[.slice H c.length cap,.slice I d.length ad] w λe w'=>∃b,e= .returned (.bool b)/\(b=Z↔c=d)/\∃n,w'=w.drewN n:=by
 have U:=af N;have V:=af O;unfold Vp at ae al;clear N O;by_cases i:c.length=d.length
 ·have M:((c.length:Int) !=(d.length:Int))=U5:=by simp[i]
  have D:=af i;clear i;go_enter av.func13,Tryz.ntmps13
  go_wp2_with fail
  clear M
  go_loopw [5] (λA wr=>∃a:Nat,a<=c.length/\A= .int .i64 a/\c.take a=d.take a/\∃n,wr=w.drewN n) (λA _=>c.length-(V3 A).toNat)
  case atStart=>exact⟨0,VB _,rfl,rfl,0,rfl⟩
  case round=>
   obtain⟨a,a1,rfl,P,n,f⟩:=hrel;have u:=af P;clear P;by_cases l:a<c.length
   ·have z:a<d.length:=by rw[<-D.o];exact l
    obtain rfl:=h1.addr (by omega);obtain rfl:=y.addr (by omega);obtain⟨ar,E,aa⟩:=h1.c a l;obtain⟨au,G,ab⟩:=y.c a z;have a3:cD wr b (off+a) ar:=by rw[f];exact E
    have a4:cD wr b2 (S+a) au:=by rw[f];exact G
    have k:=af f;have h:X (c[a]≠d[a]->c≠d):=λx e=>x (by subst e;rfl);have v:X (c[a]=d[a]->c.take (a+1)=d.take (a+1)):=λx=>by rw[Vh l,Vh z,u.o,x]
    have K:=U.o c[a] (Vn l);have L:=V.o d[a] (Vn z);have a2:(a:Int)<(d.length:Int):=by omega
    obtain⟨s,aw,a0,q,rfl,Q⟩:=aa;obtain⟨p,am,ao,o,rfl,R⟩:=ab;have j:X (∀m,bK 19 #[.slice s c[a].length q,.slice p d[a].length o] (wr.drewN m) λe w'=>∃b,e= .returned (.bool b)/\(b=Z↔c[a]=d[a])/\∃n,w'=(wr.drewN m).drewN n):=λm=>by
     have J:aQ w (wr.drewN m):=by rw[f];exact below_drewN (below_drewN (Vi _ _) n) m
     exact zF c[a] d[a] s p aw a0 q am ao o _ K L (Q.below J) (R.below J)
    clear f h1 y u E G Q R K L;generalize c[a]=B at*;generalize d[a]=C at*;by_cases g:B=C
    ·have Y:=af (v.o g);have t:X (∀m,bK 19 #[.slice s B.length q,.slice p C.length o] (wr.drewN m) λe w'=>e= .returned (.bool Z)/\∃n,w'=(wr.drewN m).drewN n):=λm=>uU (j.o m) g;clear v h g j
     go_wp2_with fail
     go_quiet ((go_at_call 19;exact Calls.quiet_of (t.o _)))
     go_wp2
     go_roundw
     case rel=>exact⟨a+1,by omega,by go_num,Y.o,n+nq,by rw[k.o];exact Yi _ _ _⟩
     case measure=>simp[V3];omega
    ·have W:=af (h.o g);have t:X (∀m,bK 19 #[.slice s B.length q,.slice p C.length o] (wr.drewN m) λe w'=>e= .returned (.bool U5)/\∃n,w'=(wr.drewN m).drewN n):=λm=>GM (j.o m) g;clear v h g j
     go_wp2_with fail
     go_quiet ((go_at_call 19;exact Calls.quiet_of (t.o _)))
     go_wp2;go_ret;exact⟨U5,rfl,by simp only[Vv,false_iff];exact W.o,n+nq,by rw[k.o];exact Yi _ _ _⟩
   ·have T:X (c=d):=by
     have:=u.o;rw[VJ (by omega),VJ (by have:=D.o;omega)] at this;exact this
    have k:=af f;clear f;go_wp2;go_ret;exact⟨Z,rfl,by simp only[true_iff];exact T.o,n,k.o⟩
 ·have M:((c.length:Int) !=(d.length:Int))=Z:=by simp;omega
  have h:X (c≠d):=λe=>i (by rw[e]);clear i;go_enter av.func13,Tryz.ntmps13;go_wp2;go_ret;exact⟨U5,rfl,by simp only[Vv,false_iff];exact h.o,0,rfl⟩
end Ec
namespace Ec
open Go.RowKit Pk Pm
def PK(a:Option VI)(n cap:Nat)(w:F)(g:n<=Vp)(hc:n<=cap)(f:0<n->∃b off,a=I ⟨b,off,K⟩):
 bK 4 #[.slice a n cap] w λe w'=>(∃d,min n 16<=d/\e= .returned (.slice a (min n 16) d))/\w'=w:=by
 unfold Vp at g;by_cases h:16<n
 ·obtain⟨b,off,rfl⟩:=f (by omega);have c:min n 16=16:=by omega
  rw[c];go_enter av.func4,Tryz.ntmps4;go_wp2;go_ret;exact⟨⟨_,by omega,rfl⟩,rfl⟩
 ·have c:min n 16=n:=by omega
  rw[c];go_enter av.func4,Tryz.ntmps4;go_wp2;go_ret;exact⟨⟨_,hc,rfl⟩,rfl⟩
def AH(a:Option VI)(n cap:Nat)(w:F)(g:n<=Vp)(hc:n<=cap)(f:0<n->∃b off,a=I ⟨b,off,K⟩):
 bK 5 #[.slice a n cap] w λe w'=>(∃d,min n 16<=d/\e= .returned (.slice a (min n 16) d))/\w'=w:=by
 unfold Vp at g;by_cases h:16<n
 ·obtain⟨b,off,rfl⟩:=f (by omega);have c:min n 16=16:=by omega
  rw[c];go_enter av.func5,Tryz.ntmps5;go_wp2;go_ret;exact⟨⟨_,by omega,rfl⟩,rfl⟩
 ·have c:min n 16=n:=by omega
  rw[c];go_enter av.func5,Tryz.ntmps5;go_wp2;go_ret;exact⟨⟨_,hc,rfl⟩,rfl⟩
end Ec
namespace Cc
open Go Go.Conc
open Go.RowKit
open Ec
open Pk
section
variable {P0 P:Vb}{Post:U->F->Prop}{cs:List Vg}{w:F}{b:Vg}{a:Xa}{k:List XR}
def JM(h:Twins P0 P){n:Nat}{l:List (Nat×U)}(B:Knows a n l)(N:a.defers=[])(c:XQ)(Q:F->Xa->F->Prop)(O:∀s,Zv (.refuse s)∉k)(V:eH P0 (b.at a (.code c::k)) [])
 (R:∀v d,(∀s x,l.lookup s=I x->v s=x)->(∀(b:Nat) o,w.heap[b]? =I o->bf P0 o->d.heap[b]? =I o)->w.heap.size<=d.heap.size->c.wp P0 (λe a' W'=>e= .ret/\aQ d W'/\Q d a' W') ⟨((VS n).map v).toArray,[]⟩ d)
 (L:∀a' d W' w' todo,(∀(b:Nat) o,w.heap[b]? =I o->bf P0 o->d.heap[b]? =I o)->w.heap.size<=d.heap.size->aQ d W'->Q d a' W'->Un W' w'->RelB (dY w) w w'->Xe P0 P Post (dY w') {b.at a' todo with mode:=.returning} cs w'):Xe P0 P Post (dY w) (b.at a (.code c::k)) cs w:=by
 intro Z Y f S;refine Jm h (Q:=λi e a' W'=>e= .ret/\∃d,d.heap=i.heap/\aQ d W'/\Q d a' W') (λi m q=>?_) O (λi id a w g=>by cases g.1) (λi l a w g=>by cases g.1) (λi a w g=>by cases g.1) (λi e a' E w' q J m g j z=>?_) V S
 ·intro G X H;have C:=R (aS a) (sh q 0 i) B.slot (λb o p u=>m.at_ b o ((f.at_ b (U4.1 p).1).trans p) u) (by show w.heap.size<=i.heap.size;rw[<-m.un.size];exact f.size);rw[<-Tu B.size N] at C;obtain⟨e,a',w',⟨r,j,K⟩,M⟩:=C G X H;exact⟨e,a',w',⟨r,sh q 0 i,rfl,j,K⟩,M⟩
 ·obtain⟨rfl,d,y,t,g⟩:=g;have W:d.heap.size<=w'.heap.size:=by rw[j.un.size];exact t.size
  have A:d.heap.size=Y.heap.size:=by rw[y,m.un.size]
  have hrel:RelB (dY w) w w':=⟨λb D=>by
   have r:E.heap[b]? =d.heap[b]? :=t.block b (by rw[A];exact U9 D f.size);exact(j.same m.un (by rw[r,y])).trans (f.at_ b D),Vm f.size (by rw[<-A];exact W),z.tape.trans f.tape,z.os.trans f.os,z.output.trans f.output⟩
  intro todo _ T;exact Xe.go (L a' d (sh q J E) w' todo (λb o p u=>by rw[y];exact m.at_ b o ((f.at_ b (U4.1 p).1).trans p) u) (by rw[A];exact f.size) t g ⟨j.un.size,j.un.at_,j.un.os,j.un.output⟩ hrel) (λb h=>h) T
end
end Cc
namespace Cc
open Go Go.Conc
open Go.RowKit (Below)
open Ec
def cL{w0 a b:F}(h:RelB (dY w0) w0 a)(c:RelB (dY a) a b):RelB (dY w0) w0 b:=h.trans (c.mono λe d=>U9 d h.size)
def Fb{w0 a c:F}(h:RelB (dY w0) w0 a)(e:∀b,b<a.heap.size->c.heap[b]? =a.heap[b]?)(f:a.heap.size<=c.heap.size)(d:Sm a c):RelB (dY w0) w0 c:=cL h ⟨e,f,d.tape,d.os,d.output⟩
def jZ{w0 c:F}(h:RelB (dY w0) w0 c):∀(b:Nat) o,w0.heap[b]? =I o->bf (ax U1) o->c.heap[b]? =I o:=λb o a _=>(h.at_ b (U4.1 a).1).trans a
def lQ.SI{d:F}{base:Nat}{v:U}{a:List (List aC)}(h:lQ d base v a):DL d v a/\a.length<=Vp/\∀r∈a,r.length<=Vp:=by
 obtain⟨J,e,m,-⟩:=h;have o:∀{k:Vc} {u g:Nat} {v:U} {w:List U},d.ownsRow base k u v g w->g<=Vp:=λ{k u g v w} h=>by
  rcases h.2 with⟨_,l⟩|⟨b,j,x,_,_,_,p,y,_⟩
  ·omega
  ·omega
 refine⟨?_,o e,λr C=>?_⟩
 ·have D:=e;rcases e.2 with⟨rfl,l⟩|⟨b,j,x,rfl,E,z,p,y,G,H⟩
  ·have:a=[]:=Wt l;subst this;exact⟨K,0,0,0,rfl,U7 _,λh=>by simp at h,λh=>by simp at h,λc h=>by simp at h⟩
  ·refine⟨I ⟨b,0,K⟩,b,0,j,rfl,p,λ_=>rfl,λ_=>(U4.1 z).1,λc B=>?_⟩;obtain⟨i,q,f⟩:=m c a[c] (Vf B);have n:=D.cells (g:=b) Y c i q;rw[YN] at n;exact⟨i,n,tE.cS f⟩
 ·obtain⟨t,A,rfl⟩:=WN C;obtain⟨i,q,f⟩:=m t a[t] (Vf A);exact o f
def dK.take{w:F}{f:Option VI}{b off:Nat}{l:List bT}(h:dK w f b off l)(n:Nat):dK w f b off (l.take n):=by
 have d:∀a,a<(l.take n).length->a<l.length:=λa c=>by simp at c;omega
 exact⟨λe=>h.addr (d 0 e),λe=>h.lt (d 0 e),λa c=>by rw[WE];exact h.c0 a (d a c),λa c=>by rw[WE];exact h.c1 a (d a c),λa c=>by rw[WE];exact h.c2 a (d a c),λa c=>by rw[WE];exact h.c3 a (d a c),λa c=>by rw[WE];exact h.c4 a (d a c),λa c=>by rw[WE];exact h.c5 a (d a c),λa c=>by rw[WE];exact h.c6 a (d a c)⟩
def TY:(Tryz.f4.name == "runtime.NumGoroutine")=U5:=by kernel_rfl
def F8:(Tryz.f5.name == "runtime.NumGoroutine")=U5:=by kernel_rfl
def Q3:(Tryz.f6.name == "runtime.NumGoroutine")=U5:=by kernel_rfl
def Rt{Post:U->F->Prop}{b:Vg}{a:Xa}{todo:List XR}{w:F}{fn:XJ}{v:U}(q:U1.inits.idxOf? b.fn=K)(n:b.kind= .normal)(o:a.defers=[])(i:U1.funcs[b.fn]? =I fn)(j:(∀w,(V0 fn a.tmps).run U1 w= .ok v w)/\∀w,(V0 fn a.tmps).events U1 w #[]=#[])(r:∀c,RelB (dY w) w c->Post v c):Xe (ax U1) U1 Post (dY w) {b.at a todo with mode:=.returning} [] w:=by
 intro u c t x;refine G8 (v:=v) q (λy k=>⟨rfl,o,n,fn,i,j.1 _⟩) (λd f e p l g=>?_) (λd f=>?_)
 ·have:e=fn:=Zm (p.symm.trans i);subst this;rw[Sem.runT_eq] at g;have m:=j.2 d;have h:l∈(V0 e a.tmps).events U1 d #[]:=g;rw[m] at h;simp at h
 ·obtain⟨k,rfl⟩:=f;exact r _ (t.trans (RelB.at _ _ _))
section
variable {Post:U->F->Prop}{s:ByteArray}{ah:List Int}{rs:List bT}{co:Option VI}{cb bH aG:Nat}{ro:Option VI}{rb bF aK:Nat}{w0:F}
end
end Cc
namespace Cc
open Go Go.Conc
open Ec (aC bT dK)
def Uv:U1.cellsOf 3=1:=by kernel_rfl
def UT:U1.cellsOf 4=1:=by kernel_rfl
def UX:U1.cellsOf 9=1:=by kernel_rfl
def UK:U1.cellsOf 54=3:=by kernel_rfl
def UW:U1.cellsOf 122=7:=by kernel_rfl
def UU:U1.bytesOf 3=8:=by kernel_rfl
def Uw:U1.bytesOf 122=72:=by kernel_rfl
def A6 {H:Type}(d:DataW H)(t:Vc):Prop:=∀a∈d.weights U1 t,a<=140737488351232
def A6.slice{H:Type}{es a:List (DataW H)}{t e:Vc}(h:A6 (.slice es a) t)(b:U1.underlying t=I (.slice e)):es.length*U1.bytesOf e<=140737488351232:=by
 have:=h ((es.length+a.length)*U1.bytesOf e) (by simp[DataW.weights,b]);exact Vm (Nat.mul_le_mul_right _ (Nat.le_add_right _ _)) this
section
variable {H:Type}{enc:Vc×U->H}{w:F}{spare:Nat->Bool}{held:Bool}{fuel:Nat}{v:U}{x:DataW H×List MemPlace}
def open_ints(h:DataW.trod enc U1 w 0 spare held fuel 22 [v]=I x):
 ∃(l:List Int) (k:Option VI) (b off cap:Nat),v= .slice k l.length cap/\l.length<=cap/\(0<l.length->k=I ⟨b,off,K⟩)/\(0<l.length->b<w.heap.size)/\(∀j,j<l.length->cD w b (off+j) (.int .i64 (l.getD j 0)))/\(A6 x.1 22->l.length<=140737488351232):=by
 rcases Deep.open_slice1 Tryz.underlying22 Uv h with⟨d,_⟩|⟨i,a,cap,m,N,V,D,F,d,_,q,L,z,rfl,B⟩
 ·simp at d;subst d;exact⟨[],K,0,0,0,rfl,U7 _,λh=>by simp at h,λh=>by simp at h,λj h=>by simp at h,λ_=>by simp⟩
 ·simp at d;subst d;have J:a<=m:=by rw[z];split<;>omega
  have t:∀g,g<a->∃s:Int,w.cell? (i.add g)=I (.int .i64 s):=by
   intro g G;obtain⟨u,y⟩:=B g (by omega);obtain⟨C,r,_,M⟩:=DataW.trod_int Tryz.underlying3 y;simp at r;exact⟨C,by rw[u,r]⟩
  obtain⟨f,p⟩:=Deep.choose_lt t;have c:((VS a).map f).length=a:=by simp
  by_cases o:0<a
  ·obtain⟨b,off,E⟩:=i;have A:E=K:=by simpa [Zl] using World.cell?_spot (p 0 o)
   subst A;have n:∀j,j<a->cD w b (off+j) (.int .i64 (f j)):=λj e=>by have:=p j e;rwa [WZ] at this
   refine⟨(VS a).map f,I ⟨b,off,K⟩,b,off,cap,by rw[c],by rw[c];exact q,λ_=>rfl,λ_=>World.block_lt_of_cell? w ⟨b,off+0,K⟩ (n 0 o),?_,λhF=>?_⟩
   ·intro j e;rw[c] at e;show _=_;rw[n j e];simp[e]
   ·have:=hF.slice Tryz.underlying22;rw[UU] at this;simp at this ⊢;omega
  ·refine⟨(VS a).map f,I i,0,0,cap,by rw[c],by rw[c];exact q,λh=>?_,λh=>?_,λj h=>?_,λ_=>?_⟩
   all_goals (rw[c] at *;omega)
def EV{fuel:Nat}{cs:List U}{x:DataW H×List MemPlace}(h:DataW.trod enc U1 w 0 spare held fuel 54 cs=I x):∃y:aC,cs=[.bool y.null,.int .i64 y.n,.string y.s]:=by
 obtain⟨q,r,t,m,_,e,a,b,c⟩:=Deep.trod_struct3 Tryz.underlying54 h;rw[UK] at e
 match cs,e with
 | [n,o,p],_=>
  simp[Uv,UX,UT] at a b c;obtain⟨i,d,_⟩:=DataW.trod_bool Tryz.underlying4 a;obtain⟨j,f,_,l⟩:=DataW.trod_int Tryz.underlying3 b;obtain⟨s,g,_,k⟩:=DataW.trod_string Tryz.underlying9 c;simp at d f g;subst d f g;exact⟨⟨i,j,s⟩,rfl⟩
def KS(h:DataW.trod enc U1 w 0 spare held fuel 23 [v]=I x):
 ∃(l:List bT) (q:Option VI) (b off cap:Nat),v= .slice q l.length cap/\l.length<=cap/\dK w q b off l/\(A6 x.1 23->l.length<=140737488351232):=by
 rcases Deep.open_slice Tryz.underlying23 h with⟨p,_⟩|⟨g,e,cap,m,am,D,Z,p,_,L,ad,U,rfl,O⟩
 ·simp at p;subst p;exact⟨[],K,0,0,0,rfl,U7 _,⟨λh=>by simp at h,λh=>by simp at h,λa h=>by simp at h,λa h=>by simp at h,λa h=>by simp at h,λa h=>by simp at h,λa h=>by simp at h,λa h=>by simp at h,λa h=>by simp at h⟩,λ_=>by simp⟩
 ·simp at p;subst p;have ab:e<=m:=by rw[U];split<;>omega
  rw[UW] at O;have Q:∀d,d<e->∃j:bT,w.cell? (g.add (d*7))=I (.int .i64 j.col)/\w.cell? (g.add (d*7+1))=I (.bool j.low.null)/\w.cell? (g.add (d*7+2))=I (.int .i64 j.low.n)/\w.cell? (g.add (d*7+3))=I (.string j.low.s)/\w.cell? (g.add (d*7+4))=I (.bool j.high.null)/\w.cell? (g.add (d*7+5))=I (.int .i64 j.high.n)/\w.cell? (g.add (d*7+6))=I (.string j.high.s):=by
   intro d aa;obtain⟨P,R,S⟩:=O d (by omega);obtain⟨_,o,k⟩:=World.cells?_some R;obtain⟨a3,a4,a5,al,_,_,C,E,F⟩:=Deep.trod_struct3 Tryz.underlying122 S
   match P,o with
   | [ao,ar,au,aw,a0,a1,a2],_=>
    simp[Uv,UK] at C E F;obtain⟨X,N,_,ae⟩:=DataW.trod_int Tryz.underlying3 C;obtain⟨W,M⟩:=EV E;obtain⟨T,J⟩:=EV F;simp at N M J;obtain⟨rfl,rfl,rfl⟩:=M;obtain⟨rfl,rfl,rfl⟩:=J;subst N;have s:=k 0 (by omega);have t:=k 1 (by omega);have u:=k 2 (by omega);have y:=k 3 (by omega);have z:=k 4 (by omega);have A:=k 5 (by omega);have B:=k 6 (by omega);rw[Deep.add_add] at s t u y z A B;exact⟨⟨X,W,T⟩,by simpa using s,by simpa using t,by simpa using u,by simpa using y,by simpa using z,by simpa using A,by simpa using B⟩
  obtain⟨f,i⟩:= @Deep.choose_lt bT ⟨⟨0,⟨U5,0,⟨#[]⟩⟩,⟨U5,0,⟨#[]⟩⟩⟩⟩ _ _ Q;have o:((VS e).map f).length=e:=by simp
  have n:∀a,(c:a<((VS e).map f).length)->((VS e).map f)[a]=f a:=λa c=>by simp
  by_cases G:0<e
  ·obtain⟨b,off,Y⟩:=g;have V:Y=K:=by simpa [Zl] using World.cell?_spot (i 0 G).1
   subst V;have r:∀a,a<e->cD w b (off+a*7) (.int .i64 (f a).col):=λa c=>by have:=(i a c).1;rwa [WZ] at this
   refine⟨(VS e).map f,I ⟨b,off,K⟩,b,off,cap,by rw[o],by rw[o];exact L,⟨λ_=>rfl,λ_=>World.block_lt_of_cell? w ⟨b,off+0*7,K⟩ (r 0 G),?_,?_,?_,?_,?_,?_,?_⟩,λhF=>?_⟩
   ·intro a c;rw[n a c];exact r a (by simpa using c)
   ·intro a c;rw[n a c];have:=(i a (by simpa using c)).2.1;rwa [WZ,<-Wc] at this
   ·intro a c;rw[n a c];have:=(i a (by simpa using c)).2.2.1;rwa [WZ,<-Wc] at this
   ·intro a c;rw[n a c];have:=(i a (by simpa using c)).2.2.2.1;rwa [WZ,<-Wc] at this
   ·intro a c;rw[n a c];have:=(i a (by simpa using c)).2.2.2.2.1;rwa [WZ,<-Wc] at this
   ·intro a c;rw[n a c];have:=(i a (by simpa using c)).2.2.2.2.2.1;rwa [WZ,<-Wc] at this
   ·intro a c;rw[n a c];have:=(i a (by simpa using c)).2.2.2.2.2.2;rwa [WZ,<-Wc] at this
   ·have:=hF.slice Tryz.underlying23;rw[Uw] at this;simp at this ⊢;omega
  ·refine⟨(VS e).map f,I g,0,0,cap,by rw[o],by rw[o];exact L,⟨λh=>?_,λh=>?_,λa h=>?_,λa h=>?_,λa h=>?_,λa h=>?_,λa h=>?_,λa h=>?_,λa h=>?_⟩,λ_=>?_⟩
   all_goals (rw[o] at *;omega)
end
end Cc
namespace Pk
open Go.RowKit Pm
def o5 (es:List (U×Int)):List U:=es.flatMap λa=>[a.1,.int .i64 a.2]
def Es(es:List (U×Int))(e:U×Int):o5 es++[e.1,.int .i64 e.2]=o5 (es++[e]):=by simp[o5]
def GO(es:List (U×Int))(i:Nat)(h:i<es.length):(o5 es)[2*i]? =I es[i].1/\(o5 es)[2*i+1]? =I (.int .i64 es[i].2):=by
 induction es generalizing i with
 |nil=>simp at h
 |cons c d b=>
  cases i with
  |zero=>simp[o5]
  |succ a=>
   have:=b a (by simpa using h);simp only[o5,List.flatMap_cons,List.getElem_cons_succ] at*;rw[Wb (by simp;omega),Wb (by simp;omega)];simp only[List.length_cons,List.length_nil];rw[show 2*(a+1)-(0+1+1)=2*a by omega,show 2*(a+1)+1-(0+1+1)=2*a+1 by omega];exact this
def gR{w:F}{a b:Nat}{c1 c2:Array U}{d e:Vc}{f g:Nat×Nat}(h1:w.heap[a]? =I (.cells c1 d f))(c:w.heap[b]? =I (.cells c2 e g))(i:d≠e):a≠b:=by
 intro h;subst h;rw[h1] at c;simp at c;exact i c.2.1
def jT{w:F}{base:Nat}{e:Vc}{d:Nat}{v:U}{n:Nat}{f:List U}(h:w.ownsRow base e d v n f){g:Nat}(b:v.ownBlock=I g):
 ∃a,w.heap[g]? =I (.cells a e (0,0)):=by
 rcases h.2 with⟨rfl,_⟩|⟨j,i,a,rfl,_,c,_⟩
 ·simp[Wz] at b
 ·simp[Wz] at b;subst b;exact⟨a,c⟩
def iz{w:F}{base:Nat}{e:Vc}{d:Nat}{v:U}{n:Nat}{f:List U}(h:w.ownsRow base e d v n f):∃b cap,v= .slice b n cap:=by
 rcases h.2 with⟨a,c⟩|⟨i,cap,g,a,_⟩
 ·exact⟨K,0,by rw[a,c]⟩
 ·exact⟨_,cap,a⟩
def vh{w:F}{base:Nat}{e:Vc}{c:Nat}{b:Option VI}{n cap:Nat}{d:List U}(h:w.ownsRow base e c (.slice b n cap) n d)(j:0<n):∃g,b=I ⟨g,0,K⟩:=by
 rcases h.2 with⟨a,i⟩|⟨g,cap,f,a,_⟩
 ·omega
 ·simp only[V7] at a;exact⟨g,a.1⟩
def Jq(w:F)(a b:U)(t:Vc):∀(j:Nat) (u:U),[a,b][j]? =I u->(w.alloc (.cells #[a,b] t)).cell? ((⟨w.heap.size,0,K⟩:VI).add j)=I u:=by
 intro j u c
 match j,c with
 |0,c=>simp at c;subst c;simp[Zl]
 |1,c=>simp at c;subst c;simp[Zl]
def EY(b:Option VI)(n cap:Nat)(k:Int):∀u∈[VR b n cap,.int .i64 k],u.oneCell'=Z:=by
 intro u a;simp at a;rcases a with rfl|rfl
 ·rfl
 ·rfl
def G4{es:List (U×Int)}{v:U}{k:Int}(h:∀e∈es,e.2=k):∀e∈es++[(v,k)],e.2=k:=by
 intro e b;rcases VM.1 b with a|a
 ·exact h e a
 ·simp at a;subst a;rfl
end Pk
namespace Ec
open Go.RowKit Pk Pm
def T6:ByteArray:=⟨#[109,97,114,107]⟩
def mkV (k:Int):aC:=⟨U5,-1-k,T6⟩
def yC{a:Array U}{n:Nat}{k:Int}(h:a.toList.take (n*3)=az (VP n (mkV k))){j:Nat}(e:j<n):a[j*3]? =I (.bool U5)/\a[j*3+1]? =I (.int .i64 (-1-k))/\a[j*3+2]? =I (.string T6):=by
 obtain⟨b,c,d⟩:=gP (VP n (mkV k)) j (by simpa using e);rw[<-h,Xg,if_pos (by omega)] at b c d;simp only[List.getElem_replicate,Array.getElem?_toList] at b c d;exact⟨b,c,d⟩
def av.Ni:((ax U1).info? 78).map (λi=>(i.zero,i.size,i.bytes))=I (I (.agg #[.slice K 0 0,.int .i64 0]),2,32):=by kernel_rfl
def vP (w:F)(v:U)(m:Int):Prop:=
 ∃d c f,v= .slice d c f/\c<=5000/\(0<c->∃e a,d=I ⟨e,0,K⟩/\w.heap[e]? =I (.cells a 54 (0,0))/\∀b,b<c->a[b*3]? =I (.bool U5)/\a[b*3+1]? =I (.int .i64 (-1-m))/\a[b*3+2]? =I (.string T6))
structure ey(w:F)(base B:Nat)(iv:U)(es:List (U×Int)):Prop where
 blk:w.heap[B]? =I (.cells #[.slice K 0 0,iv,.slice K 0 0,.slice K 0 0] 40 (0,0))
 own:w.ownsRow base 78 2 iv es.length (o5 es)
 full:∀e∈es,vP w e.1 e.2
def ey.other{w w':F}{base B:Nat}{iv:U}{es:List (U×Int)}{q:Option Nat}(h:ey w base B iv es)(j:w.grownBy w' q)
 (i:∀g,q=I g->(∃a,w.heap[g]? =I (.cells a 54 (0,0)))/\∀e∈es,∀d n cap,e.1= .slice d n cap->0<n->e.1.ownBlock≠I g):ey w' base B iv es:=by
 refine⟨?_,?_,?_⟩
 ·rw[j.block B (Va h.blk) (λc=>?_)]
  ·exact h.blk
  ·obtain⟨⟨a,b⟩,_⟩:=i B c.symm;exact gR b h.blk (by decide) Y
 ·refine h.own.kept j ?_;by_cases p:iv.ownBlock=K
  ·exact .inl p
  ·refine .inr λc=>?_;obtain⟨g,o⟩:=Option.ne_none_iff_exists'.1 p;obtain⟨a,b⟩:=jT h.own o;obtain⟨⟨u,r⟩,_⟩:=i g (by rw[<-c,o]);exact gR b r (by decide) Y
 ·intro e m;obtain⟨d,n,cap,f,t,s⟩:=h.full e m;rw[f];refine⟨d,n,cap,rfl,t,λk=>?_⟩;obtain⟨g,a,rfl,l,b⟩:=s k;refine⟨g,a,rfl,?_,b⟩;rw[j.block g (Va l) (λc=>?_)]
  ·exact l
  ·exact(i g c.symm).2 e m _ _ _ f k (by rw[f];rfl)
def ey.push{w d:F}{base B:Nat}{iv f v:U}{k:Int}{es:List (U×Int)}{n:Nat}{D:List U}(o:Yk)(h:ey w base B iv es)(T:vP w v k)
 (y:w.ownsRow base 54 3 v n D) (W:base<=B) (C:d.ownsRow base 78 2 f (es.length+1) (o5 es++[v,.int .i64 k])) (Q:(w.alloc o).grownBy d iv.ownBlock):
 ey (d.setCell ⟨B,1,K⟩ f) base B f (es++[(v,k)])/\(d.setCell ⟨B,1,K⟩ f).ownsRow base 54 3 v n D:=by
 have N:=XY w o K;have z:∀(a:Nat) (g:Array U) (c:Vc),w.heap[a]? =I (.cells g c (0,0))->c≠78->d.heap[a]? =w.heap[a]? :=by
  intro a g c b s;rw[Q.block a (by have:=Va b;simp;omega) (λp=>?_),N.block a (Va b) (by simp)];obtain⟨i,l⟩:=jT h.own p.symm;exact gR b l s Y
 have r:=z B _ _ h.blk (by decide);rw[h.blk] at r;have M:=Vl d B 1 _ _ f r;have A:∀(a:Nat) (g:Array U) (c:Vc),w.heap[a]? =I (.cells g c (0,0))->c≠78->c≠40->(d.setCell ⟨B,1,K⟩ f).heap[a]? =w.heap[a]? :=by
  intro a g c b s S;rw[Vj d ⟨B,1,K⟩ a f (λp=>?_),z a g c b s];exact gR b h.blk S p
 have x:∀t m,vP w t m->vP (d.setCell ⟨B,1,K⟩ f) t m:=by
  rintro t m ⟨E,V,q,rfl,R,P⟩;refine⟨E,V,q,rfl,R,λH=>?_⟩;obtain⟨j,i,rfl,b,l⟩:=P H;exact⟨j,i,rfl,by rw[A j _ _ b (by decide) (by decide)];exact b,l⟩
 refine⟨⟨?_,?_,?_⟩,?_⟩
 ·rw[M];rfl
 ·rw[U8,List.length_singleton,<-Es];refine ownsRow_setCell_other C (λp=>?_) _;obtain⟨i,l⟩:=jT C p;exact gR l r (by decide) Y
 ·intro G O;rcases VM.1 O with e|e
  ·exact x _ _ (h.full G e)
  ·simp at e;subst e;exact x _ _ T
 ·refine⟨y.1,?_⟩;rcases y.2 with e|⟨j,q,i,e,J,u,L⟩
  ·exact .inl e
  ·exact .inr ⟨j,q,i,e,J,by rw[A j _ _ u (by decide) (by decide)];exact u,L⟩
def vP.mk{w:F}{base:Nat}{v:U}{n:Nat}{x:Int}(h:w.ownsRow base 54 3 v n (az (VP n (mkV x))))(g:n<=5000):vP w v x:=by
 rcases h.2 with⟨rfl,rfl⟩|⟨c,a,b,rfl,_,d,_,_,_,e⟩
 ·exact⟨K,0,0,rfl,by omega,by omega⟩
 ·refine⟨_,n,a,rfl,g,λi=>⟨c,b,rfl,d,λj f=>?_⟩⟩;exact yC e f
def Cj (v:U)(n:Nat)(k:Int)(es:List (U×Int)):Prop:=∀b∈es,∀c a d,b.1= .slice (I ⟨c,0,K⟩) a d->0<a->v.ownBlock=I c->b.2=k/\a<=n
def ey.grow{w i:F}{base B:Nat}{iv v r:U}{k:Int}{es:List (U×Int)}{n:Nat}(o:Yk)(h:ey w base B iv es)(O:Cj v n k es)
 (T:w.ownsRow base 54 3 v n (az (VP n (mkV k)))) (Z:i.ownsRow base 54 3 r (n+1) (az (VP (n+1) (mkV k))))
 (a:((w.alloc o).grownBy i K/\i.ownsRow (w.alloc o).heap.size 54 3 r (n+1) (az (VP (n+1) (mkV k))))\/(r.ownBlock=v.ownBlock/\(w.alloc o).grownBy i v.ownBlock)):
 ey i base B iv es/\Cj r (n+1) k es:=by
 have c:=h.other (XY w o K) (λb a=>by cases a);rcases a with⟨a,X⟩|⟨ab,a⟩
 ·refine⟨c.other a (λb a=>by cases a),?_⟩;intro e g b P E u H A
  exfalso
  obtain⟨D,C,s,f,_,y⟩:=c.full e g;rw[u] at f;simp only[V7] at f;obtain⟨rfl,rfl,rfl⟩:=f;obtain⟨al,t,L,l,_⟩:=y H;simp only[VY,Xk,and_true] at L;subst L;have:=Va l;have:=(X.lt b A).1;omega
 ·rcases Z.2 with⟨_,H⟩|⟨G,ad,j,rfl,_,Q,_,_,_,aa⟩
  ·omega
  have q:v.ownBlock=I G:=by rw[<-ab];rfl
  rw[q] at a;obtain⟨ae,J⟩:=jT (T.alloc o) q;have R:∀d,d<n+1->j[d*3]? =I (.bool U5)/\j[d*3+1]? =I (.int .i64 (-1-k))/\j[d*3+2]? =I (.string T6):=λd N=>yC aa N;refine⟨⟨?_,?_,?_⟩,?_⟩
  ·rw[a.block B (Va c.blk) (λp=>?_)]
   ·exact c.blk
   ·simp at p;subst p;exact gR J c.blk (by decide) Y
  ·refine c.own.kept a ?_;by_cases S:iv.ownBlock=K
   ·exact .inl S
   ·refine .inr λp=>?_;obtain⟨t,x⟩:=jT c.own p;exact gR x J (by decide) Y
  ·intro e g;obtain⟨D,C,s,f,W,y⟩:=c.full e g;rw[f];refine⟨D,C,s,rfl,W,λm=>?_⟩;obtain⟨b,t,rfl,l,x⟩:=y m;by_cases M:b=G
   ·subst M;obtain⟨z,V⟩:=O e g b C s f m q;exact⟨b,j,rfl,Q,λd N=>by rw[z];exact R d (by omega)⟩
   ·exact⟨b,t,rfl,by rw[a.block b (Va l) (by simp;exact M)];exact l,x⟩
  ·intro e g b P E u m A;obtain⟨z,V⟩:=O e g b P E u m (by rw[q];exact A);exact⟨z,by omega⟩
def ey.cells{w:F}{base B:Nat}{iv:U}{es:List (U×Int)}(h:ey w base B iv es):w.cell? ⟨B,1,K⟩=I iv/\w.frozen? ⟨B,1,K⟩=U5:=by
 have:=h.blk;exact⟨by simp[Ve,this],by simp[VW,this]⟩
def ey.ME{w a:F}{base B:Nat}{iv:U}{es:List (U×Int)}(o:Yk)(h:ey w base B iv es)(d:(w.alloc o).grownBy a iv.ownBlock):a.cell? ⟨B,1,K⟩=I iv/\a.frozen? ⟨B,1,K⟩=U5:=by
 have b:a.heap[B]? =I (.cells #[aM,iv,aM,aM] 40 (0,0)):=by
  rw[d.block B (by have:=Va h.blk;simp;omega) (λe=>?_),(XY w o K).block B (Va h.blk) (by simp)]
  ·exact h.blk
  ·obtain⟨f,c⟩:=jT h.own e.symm;exact gR h.blk c (by decide) Y
 exact⟨by simp[Ve,b],by simp[VW,b]⟩
def rL(w:F)(g o:Nat)(v:U):w.grownBy (w.setCell ⟨g,o,K⟩ v) (I g):=
 ⟨rfl,rfl,rfl,by simp,λc _ b=>Vj _ _ _ _ (λa=>b (by cases a;rfl))⟩
def tc(w:F)(g j:Nat)(a b c:U):w.grownBy (((w.setCell ⟨g,j*3,K⟩ a).setCell ⟨g,j*3+1,K⟩ b).setCell ⟨g,j*3+2,K⟩ c) (I g):=
 ((rL w g _ a).trans (rL _ g _ b)).trans (rL _ g _ c)
def pQ (B:Nat)(iv v:U)(w w':F):Prop:=∀a:Nat,a<w.heap.size->a≠B->iv.ownBlock≠I a->v.ownBlock≠I a->w'.heap[a]? =w.heap[a]?
def pQ.step{B:Nat}{iv v:U}{w wr f:F}{e:Option Nat}(h:pQ B iv v w wr)(m:w.heap.size<=wr.heap.size)(j:wr.grownBy f e)
 (k:∀g:Nat,e=I g->g=B\/iv.ownBlock=I g\/v.ownBlock=I g\/w.heap.size<=g):pQ B iv v w f:=by
 intro g i b c d;rw[j.block g (by omega) (λl=>?_)]
 ·exact h g i b c d
 ·rcases k g l.symm with a|a|a|a
  ·exact b a
  ·exact c a
  ·exact d a
  ·omega
def pQ.push{B:Nat}{b v:U}{w wr c:F}{iv:U}{o:Yk}(h:pQ B b v w wr)(i:w.heap.size<=wr.heap.size)(f:∀g,iv.ownBlock=I g->b.ownBlock=I g\/w.heap.size<=g)(a:(wr.alloc o).grownBy c iv.ownBlock)(u:U):
 pQ B b v w (c.setCell ⟨B,1,K⟩ u):=by
 have d:=h.step i (XY wr o K) (λg a=>by cases a);have e:=d.step (by simp;omega) a (λg a=>(f g a).elim (λh=>.inr (.inl h)) (λh=>.inr (.inr (.inr h))));exact e.step (by have:=a.size;simp at this;omega) (rL c B 1 u) (λg a=>.inl (by cases a;rfl))
def IL(l:List aC)(x:aC)(t:Nat)(h:t<l.length):(VP t x++l.drop t).set t x=VP (t+1) x++l.drop (t+1):=by
 rw[List.set_append_right _ _ (by simp),List.length_replicate,Nat.sub_self,List.drop_eq_getElem_cons h,List.set_cons_zero,List.replicate_succ' (n:=t)];simp
def IK(n:Nat)(x:aC):az (VP n x)++[.bool x.null,.int .i64 x.n,.string x.s]=az (VP (n+1) x):=by rw[ew,List.replicate_succ']
def ey.store{w:F}{base B:Nat}{iv:U}{es:List (U×Int)}{g n cap:Nat}{l:List aC}(h:ey w base B iv es)(p:w.ownsRow base 54 3 (.slice (I ⟨g,0,K⟩) n cap) n (az l))
 (u:∀e∈es,∀g' b c,e.1= .slice (I ⟨g',0,K⟩) b c->0<b->g≠g') (j:Nat) (x:aC) (t:j<l.length):
 ey (((w.setCell ⟨g,j*3,K⟩ (.bool x.null)).setCell ⟨g,j*3+1,K⟩ (.int .i64 x.n)).setCell ⟨g,j*3+2,K⟩ (.string x.s)) base B iv es/\
  (((w.setCell ⟨g,j*3,K⟩ (.bool x.null)).setCell ⟨g,j*3+1,K⟩ (.int .i64 x.n)).setCell ⟨g,j*3+2,K⟩ (.string x.s)).ownsRow base 54 3 (.slice (I ⟨g,0,K⟩) n cap) n (az (l.set j x)):=by
 refine⟨h.other (tc w g j _ _ _) ?_,?_⟩
 ·intro g' m;simp at m;subst m;refine⟨jT p Y,?_⟩;intro e k q b c d i a;rw[d] at a;cases q with
  |none=>simp[Wz] at a
  |some v=>
   obtain⟨y,C,z,f,_,s⟩:=h.full e k;rw[d] at f;simp only[V7] at f;obtain⟨rfl,rfl,rfl⟩:=f;obtain⟨r,A,o,_⟩:=s i;simp only[VY] at o;subst o;simp[Wz] at a;exact u e k r b c d i a.symm
 ·rw[<-IJ l j x t];exact((((p.stored (j*3) (.bool x.null)).1).stored (j*3+1) (.int .i64 x.n)).1.stored (j*3+2) (.string x.s)).1
def AS(B base:Nat)(v iv:U)(l:List aC)(es:List (U×Int))(w:F)(et:l.length<=1000)(er:es.length<=100000)(h:ey w base B iv es)
 (d:w.ownsRow base 54 3 v l.length (az l)) (ad:base<=B) (cx:∀e∈es,∀g' y A,e.1= .slice (I ⟨g',0,K⟩) y A->0<y->v.ownBlock≠I g'):
 bK 18 #[.pointer (I ⟨B,0,K⟩),v] w λe w'=>e= .returned (.tuple #[])/\∃c3 i,i.length=4/\ey w' base B c3 (es++i)/\(∀e∈i,e.2=(es.length:Int))/\
  (∀e∈i,∀g,e.1.ownBlock=I g->v.ownBlock=I g\/w.heap.size<=g)/\pQ B iv v w w'/\(∀g,c3.ownBlock=I g->iv.ownBlock=I g\/w.heap.size<=g)/\w.heap.size<=w'.heap.size/\XC base w w':=by
 obtain⟨d7,H,d4,d5,d6⟩:=Wo av.mW;obtain⟨c2,ck,cR,c0,c1⟩:=Wo av.Ni;have dt:base<=w.heap.size:=by have:=Va h.blk;omega
 obtain⟨n,o,rfl⟩:=iz d;obtain⟨x,u,rfl⟩:=iz h.own;obtain⟨aa,ab⟩:=h.cells;have f:=af h;have b4:=af cx;clear h cx;obtain⟨a,t⟩:∃a,a=mkV (es.length:Int):=⟨_,rfl⟩;have cp:a.null=U5:=by rw[t];rfl
 have cs:a.n= -1-(es.length:Int):=by rw[t];rfl
 have cu:a.s=⟨#[109,97,114,107]⟩:=by rw[t];rfl
 have df:=af t;have a3:=f.o.other (XY w (.cells #[.bool a.null,.int .i64 a.n,.string a.s] 54) K) (λg c=>by cases c);have a6:=d.alloc (.cells #[.bool a.null,.int .i64 a.n,.string a.s] 54);have a4:pQ B (.slice x es.length u) (.slice n l.length o) w (w.alloc (.cells #[.bool a.null,.int .i64 a.n,.string a.s] 54)):=by
  intro g c _ _ _;rw[VH _ _ g c]
 have a1:XC base w (w.alloc (.cells #[.bool a.null,.int .i64 a.n,.string a.s] 54)):=(Vi _ _).alloc dt _;have a8:(w.alloc (.cells #[.bool a.null,.int .i64 a.n,.string a.s] 54)).heap[w.heap.size]? =I (.cells #[.bool a.null,.int .i64 a.n,.string a.s] 54 (0,0)):=Xf w _;have a7:w.heap.size+1<=(w.alloc (.cells #[.bool a.null,.int .i64 a.n,.string a.s] 54)).heap.size:=by simp
 rw[cp,cs,cu] at a3 a6 a4 a1 a8 a7;have bA:=af a3;have b1:=af a6;have bB:=af a4;have bx:=af a1;have b7:=af a8;have ci:∀g,(VR n l.length o).ownBlock=I g->g≠w.heap.size:=λg c=>by have:=(d.lt g c).2;omega
 have bz:=af ci;clear a3 a6 a4 a1 a8 t ci;go_enter av.func18,Tryz.ntmps18
 go_wp2_with fail
 clear aa ab;have b8:=af a7;clear a7;generalize w.alloc (.cells #[.bool U5,.int .i64 (-1-(es.length:Int)),.string ⟨#[109,97,114,107]⟩] 54)=eb at*
 go_loopw [6] (λJ wr=>∃b:Nat,b<=l.length/\J= .int .i64 b/\wr.ownsRow base 54 3 (.slice n l.length o) l.length (az (VP b a++l.drop b))/\ey wr base B (.slice x es.length u) es/\pQ B (.slice x es.length u) (.slice n l.length o) w wr/\XC base w wr/\wr.heap[w.heap.size]? =I (.cells #[.bool U5,.int .i64 (-1-(es.length:Int)),.string ⟨#[109,97,114,107]⟩] 54 (0,0))/\w.heap.size+1<=wr.heap.size) (λJ _=>l.length-(V3 J).toNat)
 case atStart=>exact⟨0,VB _,rfl,by simp only[List.replicate_zero,Yn,List.drop_zero];exact b1.o,bA.o,bB.o,bx.o,b7.o,b8.o⟩
 case round=>
  clear f d b1 bA bB bx b7 b8;obtain⟨b,dT,rfl,d,P,R,D,E,bm⟩:=hrel;have L:=af R;have f:=af P;have s:=af E;obtain⟨c9,da,db,_⟩:=kB E;clear R P E;by_cases bk:b<l.length
  ·obtain⟨g,dv⟩:=vh d (by omega);subst dv;have a5:(VP b a++l.drop b).length=l.length:=by simp;omega
   obtain⟨c6,c7,c8⟩:=gP (VP b a++l.drop b) b (by rw[a5];exact bk);have be:=d.cellAt (b*3) (by omega);have bi:=d.cellAt (b*3+1) (by omega);have bj:=d.cellAt (b*3+2) (by omega);rw[c6] at be;rw[c7] at bi;rw[c8] at bj;obtain⟨u0,eh⟩:∃W,wr.cell? ⟨g,b*3,K⟩=I W:=⟨_,be⟩;obtain⟨u1,el⟩:∃W,wr.cell? ⟨g,b*3+1,K⟩=I W:=⟨_,bi⟩;obtain⟨u2,em⟩:∃W,wr.cell? ⟨g,b*3+2,K⟩=I W:=⟨_,bj⟩;clear be bi bj;have en:=d.frozenAt (b*3);have eo:=d.frozenAt (b*3+1);have eq:=d.frozenAt (b*3+2);obtain⟨bv,am⟩:=f.o.store d (λe q g' y A C O c=>b4.o e q g' y A C O (by rw[<-c];rfl)) b a (by rw[a5];exact bk);rw[IL l _ b bk] at am;have Q:=L.o.step (by omega) (tc wr g b (.bool a.null) (.int .i64 a.n) (.string a.s)) (λg' ch=>.inr (.inr (.inl (by simp at ch;subst ch;rfl))));have du:g≠w.heap.size:=bz.o g Y;have bc:(((wr.setCell ⟨g,b*3,K⟩ (.bool a.null)).setCell ⟨g,b*3+1,K⟩ (.int .i64 a.n)).setCell ⟨g,b*3+2,K⟩ (.string a.s)).heap[w.heap.size]? =I (.cells #[.bool U5,.int .i64 (-1-(es.length:Int)),.string ⟨#[109,97,114,107]⟩] 54 (0,0)):=by
    rw[(tc wr g b (.bool a.null) (.int .i64 a.n) (.string a.s)).block w.heap.size (by omega) (λe=>du (by cases e;rfl))];exact s.o
   have a9:base<=g:=(d.lt g Y).1;have ba:XC base w (((wr.setCell ⟨g,b*3,K⟩ (.bool a.null)).setCell ⟨g,b*3+1,K⟩ (.int .i64 a.n)).setCell ⟨g,b*3+2,K⟩ (.string a.s)):=((D.setCell a9 _).setCell a9 _).setCell a9 _;rw[cp,cs,cu] at bv am Q bc ba;have dk:=af bv;have dl:=af am;have Z:=af Q;have dd:=af bc;have dc:=af ba;clear bv am d Q bc ba c6 c7 c8 a5;go_wp2
   go_roundw
   case rel=>exact⟨b+1,by omega,by go_num,dl.o,dk.o,Z.o,dc.o,dd.o,by simpa using bm⟩
   case measure=>simp[V3];omega
  ·have d0:b=l.length:=by omega
   subst d0;rw[List.drop_of_length_le (U7 _),WM] at d;obtain⟨aa,ab⟩:=f.o.cells;rw[df.o] at d
   go_wp2_with (at_builtin;refine wpList_append_own_at _ Y _ _ 36 Y base 78 c2 (.agg #[.slice K 0 0,.int .i64 0]) 2 32 av.underlying36 ck cR c0 c1 Y (by decide) _ _ _ Y (f.o.own.alloc _) ⟨wr.heap.size,0,K⟩ 1 1 [.slice n l.length o,.int .i64 (es.length:Int)] Y Y (Jq _ _ _ _) (EY _ _ _ _) (by unfold Vp;omega) (by omega) (by simp;omega) ?_;intro e3 m r G _ ca;obtain⟨dn,dq⟩:=f.o.ME _ G;obtain⟨T,S,rfl⟩:=iz r)
   obtain⟨c4,c5⟩:=f.o.push _ (vP.mk d (by omega)) d ad r G;have cb:XC base w (m.setCell ⟨B,1,K⟩ (.slice T (es.length+1) S)):=((D.alloc (by omega) _).grown G (by simp;omega) (λV H=>(f.o.own.lt V H).1)).setCell ad _;have cB:w.heap.size+1<=(m.setCell ⟨B,1,K⟩ (.slice T (es.length+1) S)).heap.size:=by have:=G.size;simp at this ⊢;omega
   have Z:X _:=L.o.push (o:=.cells #[.slice n l.length o,.int .i64 (es.length:Int)] 78) (by omega) (λ_ h=>.inl h) G (.slice T (es.length+1) S);have b5:X (∀g,(VR T (es.length+1) S).ownBlock=I g->(VR x es.length u).ownBlock=I g\/w.heap.size<=g):=λg c=>ca.elim (λh=>.inl (h.symm.trans c)) (λh=>.inr (by rw[h] at c;cases c;simp;omega));have b6:X ((m.setCell ⟨B,1,K⟩ (.slice T (es.length+1) S)).heap[w.heap.size]? =I (.cells #[.bool U5,.int .i64 (-1-(es.length:Int)),.string ⟨#[109,97,114,107]⟩] 54 (0,0))):=by
    show _=_;have bb:=f.o.blk;rw[Vj m ⟨B,1,K⟩ w.heap.size _ (λe=>gR s.o bb (by decide) e),G.block w.heap.size (by simp;omega) (λe=>by
     obtain⟨dp,bd⟩:=jT f.o.own e.symm;exact gR s.o bd (by decide) Y),VH wr _ w.heap.size (by omega)]
    exact s.o
   have b2:=af c4;have b3:=af c5;clear c4 c5 r G ca d f L D aa ab dn dq bm s c9 da db
   go_loopw [1,7] (λbu J wr=>∃(b p:Nat) (iv:U) (i:List (U×Int)),b<=3/\J= .int .i64 b/\p<=1000+b/\i.length=b+1/\(∀e∈i,e.2=(es.length:Int))/\ey wr base B iv (es++i)/\(∀g,iv.ownBlock=I g->(VR x es.length u).ownBlock=I g\/w.heap.size<=g)/\wr.ownsRow base 54 3 bu p (az (VP p (mkV (es.length:Int))))/\
    Cj bu p (es.length:Int) (es++i)/\(∀e∈i,∀g,e.1.ownBlock=I g->(VR n l.length o).ownBlock=I g\/w.heap.size<=g)/\(∀g,bu.ownBlock=I g->((VR n l.length o).ownBlock=I g\/w.heap.size<=g)/\g≠w.heap.size)/\pQ B (.slice x es.length u) (.slice n l.length o) w wr/\XC base w wr/\wr.heap[w.heap.size]? =I (.cells #[.bool U5,.int .i64 (-1-(es.length:Int)),.string ⟨#[109,97,114,107]⟩] 54 (0,0))/\w.heap.size+1<=wr.heap.size) (λ_ J _=>3-(V3 J).toNat)
   case atStart=>
    refine⟨0,l.length,_,[(.slice n l.length o,(es.length:Int))],by omega,rfl,by omega,rfl,by simp,b2.o,b5.o,b3.o,?_,?_,λg c=>⟨.inl c,bz.o g c⟩,Z.o,cb,b6.o,cB⟩
    ·intro e q g y A C O bo;rcases VM.1 q with k|k
     ·exact absurd bo (b4.o e k g y A C O)
     ·simp at k;subst k;simp only[V7] at C;exact⟨rfl,by omega⟩
    ·intro e q g c;simp at q;subst q;exact .inl c
   case round=>
    clear b2 b5 b3 cb cB Z b6;clear m;obtain⟨b,p,iv,i,dT,rfl,eA,cd,t,P,cl,d,dE,cc,bl,R,D,E,bm⟩:=hrel;have L:=af R;have s:=af E;obtain⟨c9,da,db,_⟩:=kB E;clear R E;have f:=af P;have ar:=af cd;have b0:=af t;clear P cd t;have eQ:(es++i).length<=100004:=by rw[U8,ar.o];omega
    have aw:=af cl;clear cl;generalize cf:es++i=a0 at*;have au:=af cf;clear cf;obtain⟨e2,e1,rfl⟩:=iz f.o.own;by_cases ef:b<3
    ·obtain⟨e6,e5,rfl⟩:=iz d
     go_wp2_with (first
      |(at_builtin;refine aZ _ Y (.tmp 42) (.tmp 44) 55 Y base 54 d7 _ 3 32 av.underlying55 H d4 d5 d6 Y (by decide) _ p _ Y (d.alloc _) ⟨wr.heap.size,0,K⟩ 1 1 [.bool U5,.int .i64 (-1-(es.length:Int)),.string ⟨#[109,97,114,107]⟩] Y (by decide) Y (jj _ _ _ _ _) (fU (mkV (es.length:Int))) (by unfold Vp;omega) (by omega) (by simp;omega) ?_;intro e7 m r M;rw[show[Value.bool U5,.int .i64 (-1-(es.length:Int)),.string ⟨#[109,97,114,107]⟩]=[.bool (mkV (es.length:Int)).null,.int .i64 (mkV (es.length:Int)).n,.string (mkV (es.length:Int)).s] from rfl,IK] at r M;obtain⟨a2,dO⟩:=f.o.grow _ dE d r M;have z:=af a2;obtain⟨aa,ab⟩:=a2.cells;obtain⟨al,ae,rfl⟩:=iz r;clear a2)
      |(at_builtin;refine wpList_append_own_at _ Y (.tmp 50) (.tmp 54) 36 Y base 78 c2 (.agg #[.slice K 0 0,.int .i64 0]) 2 32 av.underlying36 ck cR c0 c1 Y (by decide) _ _ _ Y (z.o.own.alloc _) ⟨m.heap.size,0,K⟩ 1 1 [.slice al (p+1) ae,.int .i64 (es.length:Int)] Y Y (Jq _ _ _ _) (EY _ _ _ _) (by unfold Vp;omega) (by omega) (by have:=Va z.o.blk;simp;omega) ?_;intro e4 ao cv N _ ds;obtain⟨ec,ee⟩:=z.o.ME _ N;obtain⟨bt,bs,rfl⟩:=iz cv))
     obtain⟨d8,d9⟩:=z.o.push _ (vP.mk r (by omega)) r ad cv N;have d1:XC base w m/\wr.heap.size<=m.heap.size:=by
      rcases M with⟨j,_⟩|⟨_,j⟩
      ·exact⟨(D.alloc (by omega) _).grown j (by simp;omega) (by simp),by have:=j.size;simp at this;omega⟩
      ·exact⟨(D.alloc (by omega) _).grown j (by simp;omega) (λV H=>(d.lt V H).1),by have:=j.size;simp at this;omega⟩
     have d2:XC base w ao:=(d1.1.alloc (by omega) _).grown N (by simp;omega) (λV H=>(z.o.own.lt V H).1);have e0:m.heap.size<=ao.heap.size:=by have:=N.size;simp at this;omega
     have co:∀g,(VR al (p+1) ae).ownBlock=I g->((VR n l.length o).ownBlock=I g\/w.heap.size<=g)/\g≠w.heap.size:=by
      intro g c;rcases M with⟨_,dr⟩|⟨j,_⟩
      ·have:=(dr.lt g c).1;simp at this;exact⟨.inr (by omega),by omega⟩
      ·exact bl g (Eq.trans (Eq.symm j) c)
     have br:m.heap[w.heap.size]? =I (.cells #[.bool U5,.int .i64 (-1-(es.length:Int)),.string ⟨#[109,97,114,107]⟩] 54 (0,0)):=by
      rcases M with⟨j,_⟩|⟨_,j⟩
      ·rw[j.block w.heap.size (by simp;omega) (by simp),VH wr _ w.heap.size (by omega)];exact s.o
      ·rw[j.block w.heap.size (by simp;omega) (λe=>(bl _ e.symm).2 Y),VH wr _ w.heap.size (by omega)];exact s.o
     have d3:(ao.setCell ⟨B,1,K⟩ (.slice bt (a0.length+1) bs)).heap[w.heap.size]? =I (.cells #[.bool U5,.int .i64 (-1-(es.length:Int)),.string ⟨#[109,97,114,107]⟩] 54 (0,0)):=by
      have bb:=z.o.blk;rw[Vj ao ⟨B,1,K⟩ w.heap.size _ (λe=>gR br bb (by decide) e),N.block w.heap.size (by simp;omega) (λe=>by
       obtain⟨dp,bd⟩:=jT z.o.own e.symm;exact gR br bd (by decide) Y),VH m _ w.heap.size (by omega)]
      exact br
     have Q:pQ B (.slice x es.length u) (.slice n l.length o) w m:=by
      have cn:=L.o.step (by omega) (XY wr (.cells #[.bool U5,.int .i64 (-1-(es.length:Int)),.string ⟨#[109,97,114,107]⟩] 54) K) (λg c=>by cases c);rcases M with⟨j,_⟩|⟨_,j⟩
      ·exact cn.step (by simp;omega) j (λg c=>by cases c)
      ·exact cn.step (by simp;omega) j (λg c=>.inr (.inr (bl g c).1))
     have dD:=Q.push (o:=.cells #[.slice al (p+1) ae,.int .i64 (es.length:Int)] 78) (by omega) aw.o N (.slice bt (a0.length+1) bs);have dC:∀g,(VR bt (a0.length+1) bs).ownBlock=I g->(VR x es.length u).ownBlock=I g\/w.heap.size<=g:=λg c=>ds.elim (λh=>aw.o g (h.symm.trans c)) (λh=>.inr (by rw[h] at c;cases c;simp;omega));refine⟨⟨b+1,p+1,_,i++[(.slice al (p+1) ae,(es.length:Int))],by omega,by go_num,by omega,by rw[U8,ar.o];rfl,G4 b0.o,by rw[<-Vu,au.o];exact d8,dC,d9,?_,?_,co,dD,d2.setCell ad _,d3,by simp;omega⟩,by simp[V3];omega⟩
     ·rw[<-Vu,au.o];intro e q g y A C O bo;rcases VM.1 q with k|k
      ·exact dO e k g y A C O bo
      ·simp at k;subst k;simp only[V7] at C;exact⟨rfl,by omega⟩
     ·intro e q g c;rcases VM.1 q with k|k
      ·exact cc e k g c
      ·simp at k;subst k;exact(co g c).1
    ·go_wp2
     go_end0
     exact⟨rfl,_,i,by rw[ar.o];omega,by rw[au.o];exact f.o,b0.o,cc,L.o,aw.o,by omega,D⟩
def FX{w:F}{base B:Nat}{iv:U}{es:List (U×Int)}(h:ey w base B iv es):
 w.cell? ⟨B,0,K⟩=I (.slice K 0 0)/\w.cell? ⟨B,1,K⟩=I iv/\w.cell? ⟨B,2,K⟩=I (.slice K 0 0)/\w.cell? ⟨B,3,K⟩=I (.slice K 0 0):=by
 have:=h.blk;exact⟨by simp[Ve,this],by simp[Ve,this],by simp[Ve,this],by simp[Ve,this]⟩
def Ny(w:F)(m:Int):(binOp .neq 54 (.agg #[.bool U5,.int .i64 (-1-m),.string ⟨#[109,97,114,107]⟩]) (.agg #[.bool U5,.int .i64 (-1-m),.string ⟨#[109,97,114,107]⟩])).run (ax U1) w= .ok (.bool U5) w:=by
 have:=wC w (mkV m) (mkV m);rw[mq.2 Y] at this;exact this
def IN(B base:Nat)(iv:U)(es:List (U×Int))(w:F)(be:es.length<=100000)(h:ey w base B iv es)(R:∀e∈es,0<=e.2/\e.2<=1000000):
 bK 14 #[.pointer (I ⟨B,0,K⟩)] w λe w'=>e= .returned (.bool Z)/\aQ w w':=by
 obtain⟨a8,T,rfl⟩:=iz h.own;obtain⟨G,H,J,L⟩:=FX h;have al:X (B<w.heap.size):=Va h.blk;have o:=af h;have aw:=af R;clear h R;go_enter av.func14,Tryz.ntmps14
 go_wp2_with fail
 refine wp_loop_rounds 1 ?_;rw[rounds_succ]
 go_wp2_with fail
 have a9:=af G;have D:=af H;have ab:=af J;have ad:=af L;clear G H J L
 go_loopw [5] (λk wr=>∃a:Nat,a<=es.length/\k= .int .i64 a/\aQ w wr) (λk _=>es.length-(V3 k).toNat)
 case atStart=>exact⟨0,VB _,rfl,Vi _ _⟩
 case round=>
  obtain⟨a,bk,rfl,g⟩:=hrel;have u:=al.o;have M:wr.cell? ⟨B,1,K⟩=I (.slice a8 es.length T):=(g.cell (p:=⟨B,1,K⟩) u).trans D.o;have a1:wr.cell? ⟨B,2,K⟩=I (.slice K 0 0):=(g.cell (p:=⟨B,2,K⟩) u).trans ab.o;have a2:wr.cell? ⟨B,3,K⟩=I (.slice K 0 0):=(g.cell (p:=⟨B,3,K⟩) u).trans ad.o;have q:=af g;have a6:=g.size;clear g;by_cases A:a<es.length
  ·obtain⟨f,a4⟩:=vh o.o.own (by omega);subst a4;have z:f<w.heap.size:=(o.o.own.lt f Y).2;have C:=GO es a A;have p:=o.o.own.cellAt (a*2) (by omega);rw[show a*2=2*a by omega,C.1] at p;have y:=o.o.own.cellAt (a*2+1) (by omega);rw[show a*2+1=2*a+1 by omega,C.2] at y;obtain⟨v,n,x,S,bi,Q⟩:=o.o.full es[a] (Vn A);obtain⟨bm,bo⟩:=aw.o es[a] (Vn A);rw[S] at p;have au:=af Q;clear Q S C;generalize es[a].2=m at*;have E:wr.cell? ⟨f,a*2,K⟩=I (.slice v n x):=(q.o.cell (p:=⟨f,a*2,K⟩) z).trans (by rw[show a*2=2*a by omega];exact p);have ae:wr.cell? ⟨f,a*2+1,K⟩=I (.int .i64 m):=(q.o.cell (p:=⟨f,a*2+1,K⟩) z).trans (by rw[show a*2+1=2*a+1 by omega];exact y);have ar:X (w.cell? ⟨f,a*2,K⟩=I (.slice v n x)):=by show _=_;rw[show a*2=2*a by omega];exact p
   have bj:=λw=>Ny w m;clear p y
   go_wp2_with fail
   clear E ae M a1 a2;have O:=Xf wr (.cells #[.bool U5,.int .i64 (-1-m),.string ⟨#[109,97,114,107]⟩] 54 (0,0));have r:X (aQ w (wr.alloc (.cells #[.bool U5,.int .i64 (-1-m),.string ⟨#[109,97,114,107]⟩] 54))):=q.o.alloc a6 _;have ao:=af O;clear O;generalize bd:wr.heap.size=a3 at*;generalize wr.alloc (.cells #[.bool U5,.int .i64 (-1-m),.string ⟨#[109,97,114,107]⟩] 54)=d at*
   go_loopw [7] (λk j=>∃b:Nat,b<=n/\k= .int .i64 b/\∃l,j=d.drewN l) (λk _=>n-(V3 k).toNat)
   case atStart=>exact⟨0,VB _,rfl,0,rfl⟩
   case round=>
    obtain⟨b,bl,rfl,l,i⟩:=hrel
    rename F=>j
    have M:j.cell? ⟨B,1,K⟩=I (.slice (I ⟨f,0,K⟩) es.length T):=by rw[i];exact(r.o.cell (p:=⟨B,1,K⟩) u).trans D.o
    have E:j.cell? ⟨f,a*2,K⟩=I (.slice v n x):=by rw[i];exact(r.o.cell (p:=⟨f,a*2,K⟩) z).trans ar.o
    have N:j.heap[a3]? =I (.cells #[.bool U5,.int .i64 (-1-m),.string ⟨#[109,97,114,107]⟩] 54 (0,0)):=by rw[i];exact ao.o
    obtain⟨br,bs,bt,_⟩:=kB N;have a0:=af i;clear N;by_cases a7:b<n
    ·obtain⟨c,s,a5,g,P⟩:=au.o (by omega);subst a5;obtain⟨V,W,aa⟩:=P b a7;have t:d.heap[c]? =I (.cells s 54 (0,0)):=by rw[r.o.block c (Va g)];exact g
     have ba:j.cell? ⟨c,b*3,K⟩=I (.bool U5):=by
      rw[i,show(d.drewN l).cell? ⟨c,b*3,K⟩=d.cell? ⟨c,b*3,K⟩ from rfl,cell_of_row d c (b*3) s 54 (0,0) t];exact V
     have bb:j.cell? ⟨c,b*3+1,K⟩=I (.int .i64 (-1-m)):=by
      rw[i,show(d.drewN l).cell? ⟨c,b*3+1,K⟩=d.cell? ⟨c,b*3+1,K⟩ from rfl,cell_of_row d c (b*3+1) s 54 (0,0) t];exact W
     have bc:j.cell? ⟨c,b*3+2,K⟩=I (.string ⟨#[109,97,114,107]⟩):=by
      rw[i,show(d.drewN l).cell? ⟨c,b*3+2,K⟩=d.cell? ⟨c,b*3+2,K⟩ from rfl,cell_of_row d c (b*3+2) s 54 (0,0) t];exact aa
     clear i g P t V W aa
     go_wp2_with fail
     go_quiet (fail)
     go_wp2
     go_roundw
     case rel=>exact⟨b+1,by omega,by go_num,l+nq,by rw[a0.o];exact Yi _ _ _⟩
     case measure=>simp[V3];omega
    ·have am:X (aQ w j):=by rw[i];exact below_drewN r.o l
     clear i;go_wp2
     go_roundw
     case rel=>exact⟨a+1,by omega,by go_num,am.o⟩
     case measure=>simp[V3];omega
  ·go_wp2_with fail
   refine wp_loop_rounds 1 ?_;rw[rounds_succ]
   go_wp2_with fail
   refine wp_loop_rounds 1 ?_;rw[rounds_succ];go_wp2;go_ret;exact⟨rfl,q.o⟩
structure gu(W:F)(gb b5 b6 b7 B:Nat)(most:Int)(rv nv iv:U)(L:List (List aC×U))(ns:List Int)(es:List (U×Int)):Prop where
 c5:W.heap[b5]? =I (.cells #[.int .i64 most] 3 (0,0))
 c6:W.heap[b6]? =I (.cells #[.int .i64 0] 3 (0,0))
 c7:W.heap[b7]? =I (.cells #[(aP B)] 34 (0,0))
 box:W.heap[gb]? =I (.cells #[.bool U5,rv,nv,.slice K 0 0] 44 (0,0))
 rows:W.ownsRow 0 55 1 rv L.length (L.map WD)
 each:∀p∈L,W.ownsRow 0 54 3 p.2 p.1.length (az p.1)
 tS:W.ownsRow 0 3 1 nv ns.length (bq ns)
 book:ey W 0 B iv es
 nf:∀g,nv.ownBlock=I g->g≠b5/\g≠b6
 uy:∀p∈L,∀e∈es,∀g n cap,e.1= .slice (I ⟨g,0,K⟩) n cap->0<n->p.2.ownBlock≠I g
 apart:∀(i j:Nat) u t g,(L.map WD)[i]? =I u->(L.map WD)[j]? =I t->u.ownBlock=I g->t.ownBlock=I g->i=j
 Rp:∀e∈es,0<=e.2/\e.2<=1000000
def q7 (gb b5 b6 b7 B:Nat)(rv nv iv:U)(L:List (List aC×U))(es:List (U×Int))(b:Nat):Prop:=
 b=gb\/b=b5\/b=b6\/b=b7\/b=B\/rv.ownBlock=I b\/nv.ownBlock=I b\/iv.ownBlock=I b\/(∃e∈L,e.2.ownBlock=I b)\/∃d∈es,∃a c,d.1= .slice (I ⟨b,0,K⟩) a c/\0<a
def eE{W W1:F}{e:Vc}{i n:Nat}{v:U}{j:List U}(h:W.ownsRow 0 e i v n j)(k:∀b c,W.heap[b]? =I (.cells c e (0,0))->v.ownBlock=I b->W1.heap[b]? =W.heap[b]?):W1.ownsRow 0 e i v n j:=by
 obtain⟨g,h|⟨d,l,a,rfl,m,f,o⟩⟩:=h
 ·exact⟨g,.inl h⟩
 ·exact⟨g,.inr ⟨d,l,a,rfl,m,(k d a f Y).trans f,o⟩⟩
def qZ{W W1:F}{B:Nat}{iv:U}{es:List (U×Int)}(h:ey W 0 B iv es)(p:W1.heap[B]? =W.heap[B]?)(q:∀b c,W.heap[b]? =I (.cells c 78 (0,0))->iv.ownBlock=I b->W1.heap[b]? =W.heap[b]?)(r:∀e∈es,∀b n cap c,e.1= .slice (I ⟨b,0,K⟩) n cap->0<n->W.heap[b]? =I (.cells c 54 (0,0))->W1.heap[b]? =W.heap[b]?):ey W1 0 B iv es:=by
 refine⟨p.trans h.blk,eE h.own q,λe j=>?_⟩;obtain⟨k,n,cap,g,o,m⟩:=h.full e j;refine⟨k,n,cap,g,o,λf=>?_⟩;obtain⟨d,a,rfl,i,l⟩:=m f;exact⟨d,a,rfl,(r e j d n cap a g f i).trans i,l⟩
section
variable {W W1:F}{gb b5 b6 b7 B:Nat}{most:Int}{rv nv iv:U}{L:List (List aC×U)}{ns:List Int}{es:List (U×Int)}
def gu.same(h:gu W gb b5 b6 b7 B most rv nv iv L ns es)(k:∀b,q7 gb b5 b6 b7 B rv nv iv L es b->W1.heap[b]? =W.heap[b]?):gu W1 gb b5 b6 b7 B most rv nv iv L ns es:=
 ⟨(k b5 (.inr (.inl Y))).trans h.c5,(k b6 (.inr (.inr (.inl Y)))).trans h.c6,(k b7 (.inr (.inr (.inr (.inl Y))))).trans h.c7,(k gb (.inl Y)).trans h.box,
  eE h.rows λb _ _ a=>k b (.inr (.inr (.inr (.inr (.inr (.inl a)))))),
  λd c=>eE (h.each d c) λb _ _ a=>k b (.inr (.inr (.inr (.inr (.inr (.inr (.inr (.inr (.inl ⟨d,c,a⟩))))))))),
  eE h.tS λb _ _ a=>k b (.inr (.inr (.inr (.inr (.inr (.inr (.inl a))))))),
  qZ h.book (k B (.inr (.inr (.inr (.inr (.inl Y)))))) (λb _ _ a=>k b (.inr (.inr (.inr (.inr (.inr (.inr (.inr (.inl a))))))))) (λf j b l e _ i g _=>k b (.inr (.inr (.inr (.inr (.inr (.inr (.inr (.inr (.inr ⟨f,j,l,e,i,g⟩)))))))))),
  h.nf,h.uy,h.apart,h.Rp⟩
def gu.lt(h:gu W gb b5 b6 b7 B most rv nv iv L ns es){b:Nat}(a:q7 gb b5 b6 b7 B rv nv iv L es b):b<W.heap.size:=by
 rcases a with rfl|rfl|rfl|rfl|rfl|a|a|a|⟨l,k,a⟩|⟨e,i,r,n,g,f⟩
 ·exact Va h.box
 ·exact Va h.c5
 ·exact Va h.c6
 ·exact Va h.c7
 ·exact Va h.book.blk
 ·exact(h.rows.lt b a).2
 ·exact(h.tS.lt b a).2
 ·exact(h.book.own.lt b a).2
 ·exact((h.each l k).lt b a).2
 ·obtain⟨m,s,o,c,_,j⟩:=h.book.full e i;rw[g] at c;simp only[V7] at c;obtain⟨rfl,rfl,rfl⟩:=c;obtain⟨q,p,d,a,_⟩:=j f;simp only[VY,Xk,and_true] at d;subst d;exact Va a
def gu.cells(h:gu W gb b5 b6 b7 B most rv nv iv L ns es):(W.cell? ⟨gb,0,K⟩=I (.bool U5)/\W.cell? ⟨gb,1,K⟩=I rv/\W.cell? ⟨gb,2,K⟩=I nv/\W.cell? ⟨gb,3,K⟩=I (.slice K 0 0))/\(W.cell? ⟨b5,0,K⟩=I (.int .i64 most)/\W.cell? ⟨b6,0,K⟩=I (.int .i64 0)/\W.cell? ⟨b7,0,K⟩=I (aP B))/\∀i,W.frozen? ⟨gb,i,K⟩=U5:=by
 have a:=h.box;have b:=h.c5;have c:=h.c6;have d:=h.c7;exact⟨⟨by simp[Ve,a],by simp[Ve,a],by simp[Ve,a],by simp[Ve,a]⟩,⟨by simp[Ve,b],by simp[Ve,c],by simp[Ve,d]⟩,λi=>by simp[VW,a]⟩
def gu.TE(h:gu W gb b5 b6 b7 B most rv nv iv L ns es){k u:U}{x:List aC}(E:aY W W1 rv k)(X:W.ownsRow 0 54 3 u x.length (az x))(y:∀g,u.ownBlock=I g->¬q7 gb b5 b6 b7 B rv nv iv L es g)(G:W1.ownsRow 0 55 1 k (L.length+1) (L.map WD++[u])):
 gu (W1.setCell ⟨gb,1,K⟩ k) gb b5 b6 b7 B most k nv iv (L++[(x,u)]) ns es/\(∀b:Nat,b<W.heap.size->b≠gb->rv.ownBlock≠I b->(W1.setCell ⟨gb,1,K⟩ k).heap[b]? =W.heap[b]?)/\W1.cell? ⟨gb,1,K⟩=I rv/\∀i,W1.frozen? ⟨gb,i,K⟩=U5:=by
 have p:=(E.gZ.block _ (Va h.box) (bh h.rows h.box (by decide))).trans h.box;have Q:=Vl W1 gb 1 _ _ k p;have J:∀b:Nat,b<W.heap.size->b≠gb->rv.ownBlock≠I b->(W1.setCell ⟨gb,1,K⟩ k).heap[b]? =W.heap[b]? :=λb c S T=>by
  rw[Vj _ _ _ _ (by simpa using S)];exact E.gZ.block b c (λl=>T l.symm)
 have m:∀(b:Nat) d n,W.heap[b]? =I (.cells d n (0,0))->n≠55->n≠44->(W1.setCell ⟨gb,1,K⟩ k).heap[b]? =W.heap[b]? :=λb d n c v V=>J b (Va c) (λl=>gR c h.box V l) (λl=>bh h.rows c v l.symm);refine⟨⟨(m _ _ _ h.c5 (by decide) (by decide)).trans h.c5,(m _ _ _ h.c6 (by decide) (by decide)).trans h.c6,(m _ _ _ h.c7 (by decide) (by decide)).trans h.c7,Q,?_,λe a=>?_,eE h.tS λb d c _=>m b d _ c (by decide) (by decide),qZ h.book (m _ _ _ h.book.blk (by decide) (by decide)) (λb d c _=>m b d _ c (by decide) (by decide)) (λl _ b M D d _ _ c=>m b d _ c (by decide) (by decide)),h.nf,λe a=>?_,λi z q n g R v r w=>?_,h.Rp⟩,J,by simp[Ve,p],λi=>by simp[VW,p]⟩
 ·rw[U8,V1];exact G.kept (aL W1 gb 1 k) (.inr (bh G p (by decide)).symm)
 ·have s:W.ownsRow 0 54 3 e.2 e.1.length (az e.1):=by
   rcases VM.1 a with a|a
   ·exact h.each e a
   ·simp at a;subst a;exact X
  exact eE s λb d c _=>m b d _ c (by decide) (by decide)
 ·rcases VM.1 a with a|a
  ·exact h.uy e a
  ·simp at a;subst a;exact λl s g M D P O Y=>y g Y (.inr (.inr (.inr (.inr (.inr (.inr (.inr (.inr (.inr ⟨l,s,M,D,P,O⟩)))))))))
 ·have N:∀(j:Nat) o,((L++[(x,u)]).map WD)[j]? =I o->((L.map WD)[j]? =I o/\j<L.length)\/(j=L.length/\o=u):=λj o f=>by
   rw[V1,List.getElem?_append] at f
   split at f
   ·rename_i t;exact .inl ⟨f,by simpa using t⟩
   ·rename_i t;have F:j-(L.map WD).length=0:=by
     have:=(Vs.1 f).1;simp at this ⊢;omega
    rw[F] at f;simp at f F t;exact .inr ⟨by omega,f.symm⟩
  have H:∀(j:Nat) o,(L.map WD)[j]? =I o->∀g,o.ownBlock=I g->∃e∈L,e.2.ownBlock=I g:=λj o f g Z=>by
   obtain⟨e,a,rfl⟩:=Wu.1 (Wv f);exact⟨e,a,Z⟩
  rcases N i q R with⟨A,aa⟩|⟨A,rfl⟩<;>rcases N z n v with⟨C,ab⟩|⟨C,rfl⟩
  ·exact h.apart i z q n g A C r w
  ·exact absurd (.inr (.inr (.inr (.inr (.inr (.inr (.inr (.inr (.inl (H i q A g r)))))))))) (y g w)
  ·exact absurd (.inr (.inr (.inr (.inr (.inr (.inr (.inr (.inr (.inl (H z n C g w)))))))))) (y g r)
  ·omega
def gu.TD(h:gu W gb b5 b6 b7 B most rv nv iv L ns es){e:U}{x:Int}(l:aY W W1 nv e)(n:W1.ownsRow 0 3 1 e (ns++[x]).length (bq (ns++[x]))):
 gu (W1.setCell ⟨gb,2,K⟩ e) gb b5 b6 b7 B most rv e iv L (ns++[x]) es/\(∀b:Nat,b<W.heap.size->b≠gb->nv.ownBlock≠I b->(W1.setCell ⟨gb,2,K⟩ e).heap[b]? =W.heap[b]?)/\W1.cell? ⟨gb,2,K⟩=I nv/\∀i,W1.frozen? ⟨gb,i,K⟩=U5:=by
 have g:=(l.gZ.block _ (Va h.box) (bh h.tS h.box (by decide))).trans h.box;have o:=Vl W1 gb 2 _ _ e g;have j:∀b:Nat,b<W.heap.size->b≠gb->nv.ownBlock≠I b->(W1.setCell ⟨gb,2,K⟩ e).heap[b]? =W.heap[b]? :=λb c q s=>by
  rw[Vj _ _ _ _ (by simpa using q)];exact l.gZ.block b c (λa=>s a.symm)
 have f:∀(b:Nat) d k,W.heap[b]? =I (.cells d k (0,0))->k≠3->k≠44->(W1.setCell ⟨gb,2,K⟩ e).heap[b]? =W.heap[b]? :=λb d k c t u=>j b (Va c) (λa=>gR c h.box u a) (λa=>bh h.tS c t a.symm);have v:=Va h.c5;have w:=Va h.c6;refine⟨⟨(j _ v (λa=>gR h.c5 h.box (by decide) a) (λa=>(h.nf _ a).1 Y)).trans h.c5,(j _ w (λa=>gR h.c6 h.box (by decide) a) (λa=>(h.nf _ a).2 Y)).trans h.c6,(f _ _ _ h.c7 (by decide) (by decide)).trans h.c7,o,eE h.rows λb d c _=>f b d _ c (by decide) (by decide),λy r=>eE (h.each y r) λb d c _=>f b d _ c (by decide) (by decide),n.kept (aL W1 gb 2 e) (.inr (bh n g (by decide)).symm),qZ h.book (f _ _ _ h.book.blk (by decide) (by decide)) (λb d c _=>f b d _ c (by decide) (by decide)) (λa _ b A z d _ _ c=>f b d _ c (by decide) (by decide)),λm p=>?_,h.uy,h.apart,h.Rp⟩,j,by simp[Ve,g],λi=>by simp[VW,g]⟩;rcases l.at_ m p with a|a
 ·exact h.nf m a
 ·exact⟨by omega,by omega⟩
def gu.TC(h:gu W gb b5 b6 b7 B most rv nv iv L ns es){v s:U}{x:List aC}{l:List (U×Int)}(D:W.ownsRow 0 54 3 v x.length (az x))(r:∀p∈L,∀g,v.ownBlock=I g->p.2.ownBlock≠I g)(q:pQ B iv v W W1)(j:ey W1 0 B s (es++l))(z:∀e∈l,∀g,e.1.ownBlock=I g->v.ownBlock=I g\/W.heap.size<=g)(A:∀e∈l,0<=e.2/\e.2<=1000000):
 gu W1 gb b5 b6 b7 B most rv nv s L ns (es++l):=by
 have i:∀(a:Nat) d k,W.heap[a]? =I (.cells d k (0,0))->k≠54->k≠40->k≠78->W1.heap[a]? =W.heap[a]? :=λa d k c m w y=>q a (Va c) (λe=>gR c h.book.blk w e) (λe=>bh h.book.own c y e.symm) (λe=>bh D c m e.symm);refine⟨(i _ _ _ h.c5 (by decide) (by decide) (by decide)).trans h.c5,(i _ _ _ h.c6 (by decide) (by decide) (by decide)).trans h.c6,(i _ _ _ h.c7 (by decide) (by decide) (by decide)).trans h.c7,(i _ _ _ h.box (by decide) (by decide) (by decide)).trans h.box,eE h.rows λa d j _=>i a d _ j (by decide) (by decide) (by decide),λp f=>eE (h.each p f) λa d c C=>?_,eE h.tS λa d j _=>i a d _ j (by decide) (by decide) (by decide),j,h.nf,λp f e b g E t m u n=>?_,h.apart,λe b=>?_⟩
 ·exact q a (Va c) (λe=>gR c h.book.blk (by decide) e) (λe=>bh h.book.own c (by decide) e.symm) (λe=>r p f a e C)
 ·rcases VM.1 b with b|b
  ·exact h.uy p f e b g E t m u n
  ·rcases z e b g (by rw[m];rfl) with o|o
   ·exact r p f g o n
   ·have:=((h.each p f).lt g n).2;omega
 ·rcases VM.1 b with b|b
  ·exact h.Rp e b
  ·exact A e b
end
end Ec
end Go.Proofs.YtjidbonhhpkljabGreat
namespace Go.Proofs.YtjidbonhhpkljabGreat.Cc
open Go Go.Conc
section
variable {P:Vb}{Q:Exit->Xa->F->Prop}{a:Xa}{w:F}{id:Nat}{ops:Array Ww}
def Uc (P:Vb)(m:Machine)(b:Vg)(k:List XR)(cs:List Vg):Exit->Xa->F->Prop
 | .normal,a,w=>Steps P m (lone (b.atR a k) cs w)
 | .exit id,a,w=>∃c,YE id c=YE id k/\Steps P m (lone (b.atR a (.code (.exit id)::c)) cs w)
 |_,_,_=>False
def Wr (P:Vb)(c:XQ)(Q:Exit->Xa->F->Prop)(a:Xa)(w:F):Prop:=∀(d:Vg) (g:List XR) (e:List Vg),∃f b h,Q f b h/\Uc P (lone (d.atR a (.code c::g)) e w) d g e f b h
def DE(h:Q .normal a w):Wr P .skip Q a w:=λ_ _ _=>⟨.normal,a,w,h,.one stepR_skip⟩
def QZ(h:Q (.exit id) a w):Wr P (.exit id) Q a w:=λc b d=>⟨.exit id,a,w,h,b,rfl,.refl _ _⟩
def xM{c:V4}{x y:XQ}(t:Bool)(hc:a.eval c= .bool t)(h:Wr P (if t then x else y) Q a w):Wr P (.cond c x y) Q a w:=λf l g=>by
 obtain⟨d,e,n,k,b⟩:=h f l g;refine⟨d,e,n,k,?_⟩;cases d with
 |normal=>exact .head (stepR_cond hc) b
 |exit id=>
  obtain⟨m,i,j⟩:=b;exact⟨m,i,.head (stepR_cond hc) j⟩
 |_=>exact b.elim
def O2{x y:XQ}(h:Wr P x (Exit.then (Wr P y Q) Q) a w):Wr P (.seq x y) Q a w:=λg l i=>by
 obtain⟨o,m,q,k,b⟩:=h g (.code y::l) i;cases o with
 |normal=>
  obtain⟨j,n,r,p,e⟩:=k g l i;refine⟨j,n,r,p,?_⟩;cases j with
  |normal=>exact .head stepR_seq (Zu b e)
  |exit id=>
   obtain⟨f,c,d⟩:=e;exact⟨f,c,.head stepR_seq (Zu b d)⟩
  |_=>exact e.elim
 |exit id=>
  obtain⟨f,c,d⟩:=b;exact⟨.exit id,m,q,k,f,c.trans Y,.head stepR_seq d⟩
 |_=>exact b.elim
def Sa (id:Nat)(Q:Exit->Xa->F->Prop):Exit->Xa->F->Prop
 | .exit b,a,w=>if b=id then Q .normal a w else Q (.exit b) a w
 |e,a,w=>Q e a w
def O0{c:XQ}(h:Wr P c (Sa id Q) a w):Wr P (.block id c) Q a w:=λn f o=>by
 obtain⟨d,g,k,e,i⟩:=h n (.inBlock id::f) o;cases d with
 |normal=>exact⟨.normal,g,k,e,.head stepR_block (Zu i (.one stepR_inBlock))⟩
 |exit b=>
  obtain⟨p,l,m⟩:=i;by_cases j:b=id
  ·subst j;have d:YE b (.inBlock b::f)=I f:=by simp[YE]
   simp only[Sa,if_true] at e;exact⟨.normal,g,k,e,.head stepR_block (Zu m (.one (stepR_exit (l.trans d))))⟩
  ·have d:YE b (.inBlock id::f)=YE b f:=by
    have:¬id=b:=λh=>j h.symm;simp[YE,this]
   simp only[Sa,if_neg j] at e;exact⟨.exit b,g,k,e,p,l.trans d,.head stepR_block m⟩
 |_=>exact i.elim
def O1{N:Xa->F->Prop}(h:wpOps P ops (Exit.then N λ_ _ _=>False) (VS ops.size) a w)(f:∀a w,N a w->Q .normal a w)(g:(ops.toList.all λo=> !rm o.op)=Z):Wr P (.region id ops U5) Q a w:=λd j e=>by
 obtain⟨c,k,i,b⟩:=NE (P0:=P) (b:=d) (k:=j) (cs:=e) [] g (λ_ _ _ h=>h) (fun⟨_,_,h⟩=>h) _ a w h;rw[WM] at b;exact⟨.normal,c,k,f _ _ i,.head stepR_region (b.trans (.one stepR_region_end))⟩
def wQ{y:XQ}(h:wpList P ops (Exit.then (Wr P y Q) λ_ _ _=>False) ops.toList a w)(b:(ops.toList.all λo=> !rm o.op)=Z:=by kernel_rfl):Wr P (.seq (.region id ops U5) y) Q a w:=O2 (O1 (by
 rw[List.range_eq_range',<-WW,wpOps_eq_wpList ops.toList 0 (by simp)];exact h) (λ_ _ h=>h) b)
def UD(h:wpList P ops (Exit.then (Q .normal) λ_ _ _=>False) ops.toList a w)(b:(ops.toList.all λo=> !rm o.op)=Z:=by kernel_rfl):Wr P (.region id ops U5) Q a w:=O1 (by
 rw[List.range_eq_range',<-WW,wpOps_eq_wpList ops.toList 0 (by simp)];exact h) (λ_ _ h=>h) b
def To (P:Vb)(l:Nat)(R:U->F->Prop):Exit->Xa->F->Prop
 | .normal,_,w=>∃v b,(YB l K).run P w= .ok v b/\R v b
 | .exit id,_,w=>∃v b,(YB l (I (.exit id))).run P w= .ok v b/\R v b
 |_,_,_=>False
def Hx{l:Nat}{f:Xb}{tmps:Array U}{assign body:XQ}{R:U->F->Prop}(h:Wr P assign (Exit.then (λd q=>∃k,(Instr.beginRound l).run P q= .ok () k/\Wr P body (To P l R) d k) λ_ _ _=>False) ⟨tmps,[]⟩ w)(c:Vg)(cs:List Vg):
 ∃v w',R v w'/\Steps P (lone (Xt l f tmps assign body .normal) (c::cs) w) (lone (c.finish v) cs w'):=by
 let b:Vg:={(default:Vg) with fn:=f,kind:=.normal,roundOf:=I l};have x:Xt l f tmps assign body .normal=b.atR ⟨tmps,[]⟩ [.code assign,.beginRound,.code body]:=by
  simp[Xt,Frame.atR,b]
 rw[x];obtain⟨r,d,q,n,g⟩:=h b [.beginRound,.code body] (c::cs);cases r with
 |normal=>
  obtain⟨k,z,y⟩:=n;obtain⟨s,A,C,o,i⟩:=y b [] (c::cs);have p:=stepR_beginRound (P:=P) (b:=b) (a:=d) (k:=[.code body]) (cs:=c::cs) Y z;cases s with
  |normal=>
   obtain⟨v,m,j,e⟩:=o;exact⟨v,m,e,Zu g (.head p (Zu i (.one (stepR_round_end Y Y j))))⟩
  |exit id=>
   obtain⟨v,m,j,e⟩:=o;obtain⟨B,t,u⟩:=i;exact⟨v,m,e,Zu g (.head p (Zu u (.one (stepR_round_exit Y Y (t.trans Y) j))))⟩
  |_=>exact i.elim
 |exit id=>exact n.elim
 |_=>exact g.elim
end
end Go.Proofs.YtjidbonhhpkljabGreat.Cc
namespace Go.Proofs.YtjidbonhhpkljabGreat.Un
open Go.RowKit
end Go.Proofs.YtjidbonhhpkljabGreat.Un
namespace Go.Proofs.YtjidbonhhpkljabGreat
namespace Ec
open Go.RowKit Pk Pm
def LU(l:List aC){j:Option VI}{b off cap:Nat}{w0:F}{g:Nat}(e:DY w0 j b off l)
 (k:w0.heap[g]? =I (.cells (az (VP l.length zeroV)).toArray 54 (0,0))):
 ∃i,(Yx #[55,55] 3 #[.slice (I ⟨g,0,K⟩) l.length l.length,.slice j l.length cap]).run (ax U1) w0= .ok (.int .i64 (l.length:Int)) i/\
  i.heap[g]? =I (.cells (az l).toArray 54 (0,0))/\(∀b:Nat,b≠g->i.heap[b]? =w0.heap[b]?)/\i.heap.size=w0.heap.size:=by
 obtain⟨o,m,C,A,D⟩:=Wo av.mW;by_cases s:0<l.length
 ·obtain rfl:=e.addr s;have z:∀c v,(az l)[c]? =I v->w0.cell? ((⟨b,off,K⟩:VI).add c)=I v:=by
   intro c v h;have B:c<l.length*3:=by have:=(Vs.1 h).1;rwa [fH] at this
   obtain⟨a,d,x⟩:∃a,a<l.length/\(c=a*3\/c=a*3+1\/c=a*3+2):=⟨c/3,by omega,by omega⟩;obtain⟨p,q,r⟩:=gP l a d;rw[WZ];rcases x with rfl|rfl|rfl
   ·rw[<-h,p];exact e.c0 a d
   ·rw[<-h,q,<-Wc];exact e.c1 a d
   ·rw[<-h,r,<-Wc];exact e.c2 a d
  have n:Nat.min l.length l.length=l.length:=Nat.min_self _;have f:=AW (P:=(ax U1)) w0 55 55 3 54 g 0 l.length l.length ⟨b,off,K⟩ l.length cap 3 _ 54 (az l) o av.underlying55 m A k (by rw[fH,n]) z (by simp[fH]) (Af l);rw[n] at f;have y:(az (VP l.length zeroV)).take 0++az l++(az (VP l.length zeroV)).drop (0+(az l).length)=az l:=by
   rw[List.take_zero,Yn,VV,List.drop_of_length_le (by simp[fH]),WM]
  have w:=setRow_heap w0 g _ (az l).toArray 54 _ k;simp only[List.toList_toArray] at f;rw[y] at f;exact⟨_,f,w,λb u=>by simp[World.setRow,Array.getElem?_modify,Ne.symm u],by simp[World.setRow]⟩
 ·have t:l=[]:=Wt (by omega);subst t;exact⟨w0,sZ (P:=(ax U1)) w0 55 55 3 54 _ j _ _ _ cap o av.underlying55 m (by simp),by simpa using k,λ_ _=>rfl,rfl⟩
def jx (fn:XJ):XQ:=match fn.body with
 |some (.seq _ (.seq _ (.seq _ (.seq _ (.seq (.seq _ (.block _ (.rangeFunc _ _ _ a))) _)))))=>a
 |_=>.skip
def G1 (t:Nat->U):Xa:=⟨#[t 0,t 1,t 2,t 3,t 4,t 5,t 6,t 7,t 8,t 9,t 10,t 11,t 12,t 13,t 14,t 15,t 16,t 17,t 18,t 19,t 20,t 21,t 22,t 23,t 24,t 25,t 26,t 27,t 28,t 29,t 30,t 31,t 32,t 33,t 34,t 35,t 36,t 37,t 38,t 39,t 40,t 41,t 42,t 43,t 44,t 45,t 46,t 47,t 48,t 49,t 50,t 51,t 52,t 53,t 54,t 55,t 56,t 57,t 58,t 59,t 60,t 61,t 62,t 63,t 64,t 65,t 66,t 67,t 68,t 69,t 70,t 71,t 72,t 73,t 74],[]⟩
def xT (b:F)(f c d e B:Nat)(most:Int)(l i iv:U)(L:List (List aC×U))(o:List Int)(es:List (U×Int))(nm:Nat)(k:List aC)(v:U)(W':F):Prop:=
 ∃m j h n g,gu W' f c d e B most m j h (L++[(k,n)]) (o++[(nm:Int)]) (es++g)/\g.length=4/\(∀a:Nat,a<b.heap.size->¬q7 f c d e B l i iv L es a->v.ownBlock≠I a->W'.heap[a]? =b.heap[a]?)/\b.heap.size<=W'.heap.size/\∀a,q7 f c d e B m j h (L++[(k,n)]) (es++g) a->q7 f c d e B l i iv L es a\/v.ownBlock=I a\/b.heap.size<=a
def Se{a:Xa}(h:a.tmps.size=75)(c:a.defers=[]):a=G1 (λi=>a.tmps.getD i V9):=by
 show a=⟨((VS 75).map λi=>a.tmps.getD i V9).toArray,[]⟩;obtain⟨f,e⟩:=a;simp only at h c;subst c;congr 1;apply Yo;intro d;simp only[List.getElem?_toArray,YI,List.getElem?_range];rcases WG d 75 with b|b
 ·simp[b,h]
 ·simp[h,Nat.not_lt.2 b,b]
def Ao{P:Vb}{c:XQ}{Q:Exit->Xa->F->Prop}{a:Xa}{b:F}(h1:a.tmps.size=75)(d:a.defers=[])(h:Cc.Wr P c Q (G1 λi=>a.tmps.getD i V9) b):Cc.Wr P c Q a b:=by
 rw[Se h1 d];exact h
def av.Sd:((ax U1).info? 55).map (λi=>(i.zero,i.size,i.bytes))=I (I (.slice K 0 0),1,24):=by kernel_rfl
def av.Sc:((ax U1).info? 3).map (λi=>(i.zero,i.size,i.bytes))=I (I (.int .i64 0),1,8):=by kernel_rfl
def C7 (fn:XJ):XQ:=match jx fn with
 | .block _ (.seq _ a)=>a
 |_=>.skip
def Jv(d:F)(t:Nat->U){h l o m B:Nat}{most:Int}{au ar iv:U}{L:List (List aC×U)}{f:List Int}{es:List (U×Int)}{nm:Nat}{b:List aC}{v:U}{Q:Exit->Xa->F->Prop}
 (ae:gu d h l o m B most au ar iv L f es) (dd:f.length=L.length) (hL:L.length<2000) (ec:es.length<=50000) (ef:nm<=1000000) (dn:b.length<=1000)
 (c4:t 5= .pointer (I ⟨l,0,K⟩)) (c5:t 7= .pointer (I ⟨m,0,K⟩)) (c6:t 9= .pointer (I ⟨h,0,K⟩)) (c2:t 11= .int .i64 (nm:Int)) (c3:t 12=v)
 (bo:d.ownsRow 0 54 3 v b.length (az b)) (ao:∀g,v.ownBlock=I g->¬q7 h l o m B au ar iv L es g)
 (cd:∀a' W',xT d h l o m B most au ar iv L f es nm b v W'->((L.length+1:Nat):Int)≠most->Q .normal a' W') (cf:∀a' W',xT d h l o m B most au ar iv L f es nm b v W'->((L.length+1:Nat):Int)=most->Q (.exit 0) a' W'):
 Cc.Wr (ax U1) (C7 WX) Q (G1 t) d:=by
 obtain⟨d2,dc,dC,dD,dE⟩:=Wo av.mW;obtain⟨d1,db,dO,dT,d0⟩:=Wo av.Sd;obtain⟨d3,k,dt,du,dv⟩:=Wo av.Sc;unfold G1;rw[c4,c5,c6,c2,c3];clear c4 c5 c6 c2 c3;obtain⟨O,aK,rfl⟩:=cF ae.rows;obtain⟨N,M,rfl⟩:=cF ae.tS;obtain⟨P,E,rfl⟩:=cF bo;have ee:f.length<2000:=by omega
 clear dd;have R:=af ae;have W:=af bo;clear ae bo;unfold C7 jx WX;dsimp only;refine Cc.wQ ?_
 go_wp2_with (at_make;refine wpList_make_full _ Y _ _ 55 Y d.heap.size 54 d2 _ 3 av.underlying55 dc dC dD .i64 .i64 _ _ b.length Y Y (by first|omega|(push_cast;omega)) (by first|omega|(push_cast;omega)) (by rw[dE];omega) (by unfold Vp;omega) (U7 _) ?_;intro c9 bk bd;rw[KI] at bk;have bx:=af (Ad bk);clear bk)
 have be:∀a:Nat,a<d.heap.size->c9.heap[a]? =d.heap[a]? :=λa c=>bd.block a c (by simp);have dq:=bd.size;obtain⟨d9,en,eo,eb,j,cx⟩:=tE.cS (eE W.o λa da c _=>be a (Va c));simp only[V7,true_and] at j;obtain⟨rfl,rfl⟩:=j;obtain⟨r,dp,ck,cp,dr⟩:=LU b (cap:=E) cx bx.o;have bi:∀a:Nat,a<d.heap.size->r.heap[a]? =d.heap[a]? :=λa c=>(cp a (by omega)).trans (be a c);have S:X (gu r h l o m B most (.slice O L.length aK) (.slice N f.length M) iv L f es):=R.o.same (λa c=>bi a (R.o.lt c));have eh:d.heap.size<=r.heap.size:=by omega
 have b2:X (r.ownsRow 0 54 3 (.slice (I ⟨d.heap.size,0,K⟩) b.length b.length) b.length (az b)):=Ak ck (by rw[fH]) (VB _) (by unfold Vp;omega);have bz:=af bi;have b3:X (∀g,(VR (I ⟨d.heap.size,0,K⟩) b.length b.length).ownBlock=I g->¬q7 h l o m B (.slice O L.length aK) (.slice N f.length M) iv L es g):=λg q c=>by
  cases q;exact Nat.lt_irrefl _ (R.o.lt c)
 refine Cc.wQ ?_
 go_wp2_with fail
 clear dp be bi dq cx ck cp dr bx bd;obtain⟨⟨s,C,u,w⟩,⟨D,x,y⟩,z⟩:=S.o.cells;refine Cc.wQ ?_
 go_wp2_with (at_builtin;refine wpList_append_lies _ Y _ _ 27 Y 0 55 d1 _ 1 24 av.underlying27 db dO dT d0 Y (by decide) _ L.length _ Y (S.o.rows.alloc _) ⟨r.heap.size,0,K⟩ 1 1 [.slice (I ⟨d.heap.size,0,K⟩) b.length b.length] Y Y (World.news_of_block (bC r _)) (by intro d4 J;simp at J;subst J;rfl) (by decide) (by unfold Vp;omega) (by omega) (by simp) _ Y ?_;intro aa G a5 cu cl ch df;have bb:=aY.lU (n:=L.length+1) (cap:=G) cl ch;obtain⟨b6,c0,d5,c7⟩:=S.o.TE bb (x:=b) b2.o b3.o cu;have d7:=c7 1;have T:=af b6;have aw:=af bb;have bB:=af c0;clear b6 c7 c0 cu cl ch df bb)
 have bA:X (∀a:Nat,a<d.heap.size->¬q7 h l o m B (.slice O L.length aK) (.slice N f.length M) iv L es a->(a5.setCell ⟨h,1,K⟩ (.slice (I ⟨aa,0,K⟩) (L.length+1) G)).heap[a]? =d.heap[a]?):=λa c k=>(bB.o a (by omega) (λe=>k (.inl e)) (λe=>k (.inr (.inr (.inr (.inr (.inr (.inl e)))))))).trans (bz.o a c);have el:r.heap.size<=(a5.setCell ⟨h,1,K⟩ (.slice (I ⟨aa,0,K⟩) (L.length+1) G)).heap.size:=by
  have:=aw.o.gZ.size;simpa using this
 have bu:=af aw.o.at_;clear aw bB d5 d7 s C u w D x y z b2 b3 S bz;generalize a5.setCell ⟨h,1,K⟩ (.slice (I ⟨aa,0,K⟩) (L.length+1) G)=a6 at*;obtain⟨⟨s,C,u,w⟩,⟨D,x,y⟩,z⟩:=T.o.cells;refine Cc.wQ ?_
 go_wp2_with (at_builtin;refine wpList_append_lies _ Y _ _ 22 Y 0 3 d3 _ 1 8 av.underlying22 k dt du dv Y (by decide) _ f.length _ Y (T.o.tS.alloc _) ⟨a6.heap.size,0,K⟩ 1 1 [.int .i64 (nm:Int)] Y Y (World.news_of_block (bC a6 _)) (by intro d4 J;simp at J;subst J;rfl) (by decide) (by unfold Vp;omega) (by omega) (by simp) _ Y ?_;intro ab H a7 cv cn ci dk;have bc:=aY.lU (n:=f.length+1) (cap:=H) cn ci;obtain⟨b7,c1,d6,c8⟩:=T.o.TD bc (x:=(nm:Int)) (by rw[U8,<-jE];exact cv);have d8:=c8 2;have V:=af b7;have a0:=af bc;have b0:=af c1;clear b7 c8 c1 cv cn ci dk bc)
 have a1:X (∀a:Nat,a<d.heap.size->¬q7 h l o m B (.slice O L.length aK) (.slice N f.length M) iv L es a->(a7.setCell ⟨h,2,K⟩ (.slice (I ⟨ab,0,K⟩) (f.length+1) H)).heap[a]? =d.heap[a]?):=λa c k=>(b0.o a (by omega) (λe=>k (.inl e)) (λe=>k (.inr (.inr (.inr (.inr (.inr (.inr (.inl e))))))))).trans (bA.o a c k);have em:a6.heap.size<=(a7.setCell ⟨h,2,K⟩ (.slice (I ⟨ab,0,K⟩) (f.length+1) H)).heap.size:=by
  have:=a0.o.gZ.size;simpa using this
 have bv:=af a0.o.at_;clear a0 b0 d6 d8 s C u w D x y z T bA;generalize a7.setCell ⟨h,2,K⟩ (.slice (I ⟨ab,0,K⟩) (f.length+1) H)=b8 at*;have br:b8.ownsRow 0 54 3 (.slice P b.length E) b.length (az b):=eE W.o λa da c bs=>a1.o a (Va c) (ao a bs);have cB:∀p∈L,∀g,(VR P b.length E).ownBlock=I g->p.2.ownBlock≠I g:=λp i g q am=>ao g q (.inr (.inr (.inr (.inr (.inr (.inr (.inr (.inr (.inl ⟨p,i,am⟩)))))))));have b5:X (∀p∈L++[(b,VR (I ⟨d.heap.size,0,K⟩) b.length b.length)],∀g,(VR P b.length E).ownBlock=I g->p.2.ownBlock≠I g):=λp i g q am=>by
  rcases VM.1 i with i|i
  ·exact cB p i g q am
  ·simp at i;subst i;cases am;exact Nat.lt_irrefl _ (W.o.lt _ q).2
 have b1:=AS B 0 (.slice P b.length E) iv b es b8 dn (by omega) V.o.book br (VB _) (λe j g bt a8 ad a9 q=>ao g q (.inr (.inr (.inr (.inr (.inr (.inr (.inr (.inr (.inr ⟨e,j,bt,a8,ad,a9⟩))))))))));have b4:=af br;obtain⟨⟨s,C,u,w⟩,⟨D,x,y⟩,z⟩:=V.o.cells;clear s C u w D x z br cB;refine Cc.wQ ?_
 go_wp2_with (go_at_call 18;refine b1.mono ?_;rintro e A ⟨rfl,cR,ca,cb,cc,cs,ba,bj,co,ds,-⟩)
 have a4:X (gu A h l o m B most (.slice (I ⟨aa,0,K⟩) (L.length+1) G) (.slice (I ⟨ab,0,K⟩) (f.length+1) H) cR (L++[(b,VR (I ⟨d.heap.size,0,K⟩) b.length b.length)]) (f++[(nm:Int)]) (es++ca)):=V.o.TC b4.o b5.o bj cc ba (λe j=>by rw[cs e j];omega);have a2:X (xT d h l o m B most (.slice O L.length aK) (.slice N f.length M) iv L f es nm b (.slice P b.length E) A):=by
  refine⟨_,_,cR,_,ca,a4.o,cb,λa c k bs=>(bj a (by omega) (λe=>k (.inr (.inr (.inr (.inr (.inl e)))))) (λe=>k (.inr (.inr (.inr (.inr (.inr (.inr (.inr (.inl e))))))))) bs).trans (a1.o a c k),by omega,λa c=>?_⟩;rcases c with rfl|rfl|rfl|rfl|rfl|c|c|c|⟨p,i,c⟩|⟨e,j,bt,a8,ad,a9⟩
  ·exact .inl (.inl Y)
  ·exact .inl (.inr (.inl Y))
  ·exact .inl (.inr (.inr (.inl Y)))
  ·exact .inl (.inr (.inr (.inr (.inl Y))))
  ·exact .inl (.inr (.inr (.inr (.inr (.inl Y)))))
  ·exact(bu.o a c).elim (λn=>.inl (.inr (.inr (.inr (.inr (.inr (.inl n))))))) (λn=>.inr (.inr (by omega)))
  ·exact(bv.o a c).elim (λn=>.inl (.inr (.inr (.inr (.inr (.inr (.inr (.inl n)))))))) (λn=>.inr (.inr (by omega)))
  ·exact(co a c).elim (λn=>.inl (.inr (.inr (.inr (.inr (.inr (.inr (.inr (.inl n))))))))) (λn=>.inr (.inr (by omega)))
  ·rcases VM.1 i with i|i
   ·exact .inl (.inr (.inr (.inr (.inr (.inr (.inr (.inr (.inr (.inl ⟨p,i,c⟩)))))))))
   ·simp at i;subst i;cases c;exact .inr (.inr (U7 _))
  ·rcases VM.1 j with j|j
   ·exact .inl (.inr (.inr (.inr (.inr (.inr (.inr (.inr (.inr (.inr ⟨e,j,bt,a8,ad,a9⟩)))))))))
   ·exact(ba e j a (by rw[ad];rfl)).elim (λn=>.inr (.inl n)) (λn=>.inr (.inr (by omega)))
 clear bj cc ba cs co ds cb bu bv a1 b5 b4 V y W R ao b1;obtain⟨⟨s,C,u,w⟩,⟨D,x,y⟩,z⟩:=a4.o.cells;clear s u w x y z a4;refine Cc.wQ ?_;have bl:=λa'=>cd a' A a2.o;have bm:=λa'=>cf a' A a2.o;clear cd cf a2;by_cases al:((L.length+1:Nat):Int)=most
 ·have a3:X (∀a',Q (.exit 0) a' A):=λa'=>bm a' al;clear bl bm;subst al
  go_wp2_with fail
  refine Cc.xM Z (by simp[Act.eval]) ?_;exact Cc.QZ (a3.o _)
 ·have a3:X (∀a',Q .normal a' A):=λa'=>bl a' al;clear bl bm;have dl:¬((L.length:Int)+1=most):=by simpa using al
  go_wp2_with fail
  refine Cc.xM U5 (by simp[Act.eval,dl]) ?_;exact Cc.DE (a3.o _)
def Ju(b:F)(t:Nat->U){h c d f B:Nat}{most:Int}{p o iv:U}{L:List (List aC×U)}{n:List Int}{es:List (U×Int)}{nm:Nat}{j:List aC}{v:U}
 (i:gu b h c d f B most p o iv L n es) (A:n.length=L.length) (hL:L.length<2000) (w:es.length<=50000) (x:nm<=1000000) (y:j.length<=1000)
 (H:t 5=(aP c)) (J:t 6=(aP d)) (K:t 7=(aP f)) (M:t 9=(aP h)) (E:t 11= .int .i64 (nm:Int)) (G:t 12=v)
 (C:b.ownsRow 0 54 3 v j.length (az j)) (D:∀g,v.ownBlock=I g->¬q7 h c d f B p o iv L es g):
 Cc.Wr (ax U1) (jx WX) (λe _ W'=>(e= .normal/\((L.length+1:Nat):Int)≠most\/e= .exit 0/\((L.length+1:Nat):Int)=most)/\xT b h c d f B most p o iv L n es nm j v W') (G1 t) b:=by
 unfold G1;rw[H,J,K,M,E,G];obtain⟨Z,aK,rfl⟩:=cF i.rows;obtain⟨X,W,rfl⟩:=cF i.tS;obtain⟨⟨N,O,P,Q⟩,⟨R,S,T⟩,V⟩:=i.cells;unfold jx WX;dsimp only;refine Cc.O0 ?_;refine Cc.O2 ?_;refine Cc.wQ ?_;have s:=af i;have u:=af C;have r:=af D;have q:=af A;by_cases z:L.length=0
 ·go_wp2_with fail
  refine Cc.xM U5 (by simp[Act.eval]) ?_;refine Cc.DE ?_;show Cc.Wr _ (C7 WX) _ _ _;refine Ao Y Y ?_;exact Jv b _ s.o q.o hL w x y Y Y Y Y Y u.o r.o (λk W' a m=>⟨.inl ⟨rfl,m⟩,a⟩) (λk W' a l=>⟨.inr ⟨rfl,l⟩,a⟩)
 ·go_wp2_with fail
  refine Cc.xM U5 (by simp[Act.eval,z]) ?_;refine Cc.DE ?_;show Cc.Wr _ (C7 WX) _ _ _;refine Ao Y Y ?_;exact Jv b _ s.o q.o hL w x y Y Y Y Y Y u.o r.o (λk W' a m=>⟨.inl ⟨rfl,m⟩,a⟩) (λk W' a l=>⟨.inr ⟨rfl,l⟩,a⟩)
def fS (fn:XJ):XQ:=match fn.body with
 |some (.seq _ (.seq _ (.seq _ (.seq _ (.seq (.seq _ (.block _ (.rangeFunc _ _ a _))) _)))))=>a
 |_=>.skip
def BL(b:F)(t:Nat->U){Q:Exit->Xa->F->Prop}(h:∀a:Xa,a.tmps.size=75->a.defers=[]->a.tmps.getD 5 V9=t 5->a.tmps.getD 6 V9=t 6->a.tmps.getD 7 V9=t 7->a.tmps.getD 9 V9=t 9->a.tmps.getD 11 V9=t 22->a.tmps.getD 12 V9=t 23->Q .normal a b):Cc.Wr (ax U1) (fS WX) Q (G1 t) b:=by
 unfold G1 fS WX;dsimp only;refine Cc.wQ ?_
 go_wp2_with fail
 refine Cc.UD ?_
 go_wp2_with fail
 exact h _ Y Y Y Y Y Y Y Y
end Ec
namespace Cc
open Go
open Ec (aC bT Bd)
def nF (most:Int)(pre:List cg):Bool:= !decide ((pre.length:Int)=most)
def PO:nF (-1)=λ_=>Z:=by
 funext pre;have:¬(pre.length:Int)= -1:=by omega
 simp[nF,this]
def Nf{k:Nat}{pre:List cg}(h:pre.length<k):nF (k:Int) pre=Z:=by
 have:¬(pre.length:Int)=(k:Int):=by omega
 simp[nF,this]
theorem M4(k:Nat):∀(a pre:List cg),pre.length<k->feed (nF (k:Int)) pre a=((pre++a).take k,decide ((pre++a).length<k))
 | [],pre,b=>by
  rw[WM,VJ (by omega),decide_eq_true b];rfl
 |x::a,pre,b=>by
  rw[oG];by_cases e:pre.length+1=k
  ·have c:nF (k:Int) (pre++[x])=U5:=by
    have:((pre++[x]).length:Int)=(k:Int):=by rw[U8,<-e];rfl
    simp only[nF,this,decide_true,Bool.not_true]
   rw[c,if_neg (by decide)];have d:(pre++x::a).take k=pre++[x]:=by
    rw[show pre++x::a=(pre++[x])++a by simp,List.take_append_of_le_length (by simp;omega),VJ (by simp;omega)]
   rw[d,decide_eq_false (by simp;omega)]
  ·rw[Nf (by rw[U8];simp;omega),if_pos Y,M4 k a (pre++[x]) (by rw[U8];simp;omega)];simp only[Vu,List.singleton_append]
section
variable {sk:Bool}{bs:List Bd}{ah:List Int}{rs:List bT}{ws:List Bool}{V:Nat->Nat->List aC}
theorem vw:∀(r i:Nat) (pre:List cg) (n:Nat),pre <+:(bV sk bs ah rs ws V (λ_=>Z) i r pre n).1/\n<=(bV sk bs ah rs ws V (λ_=>Z) i r pre n).2.1
 |0,i,pre,n=>⟨List.prefix_rfl,U7 _⟩
 |r+1,i,pre,n=>by
  simp only[bV,oF]
  split
  ·exact vw r (i+1) pre n
  ·split
   ·simp only[if_true];obtain⟨a,b⟩:=vw r (i+1) (pre++fL bs ah rs V i) (n+1);exact⟨(List.prefix_append _ _).trans a,by omega⟩
   ·exact⟨List.prefix_rfl,Nat.le_succ _⟩
theorem H7(k:Nat):∀(r i:Nat) (pre:List cg) (n:Nat),pre.length<k->
 (bV sk bs ah rs ws V (nF (k:Int)) i r pre n).1 <+:(bV sk bs ah rs ws V (λ_=>Z) i r pre n).1/\(bV sk bs ah rs ws V (nF (k:Int)) i r pre n).1.length<=k/\(bV sk bs ah rs ws V (nF (k:Int)) i r pre n).2.1<=(bV sk bs ah rs ws V (λ_=>Z) i r pre n).2.1/\
 ((bV sk bs ah rs ws V (nF (k:Int)) i r pre n).1.length=k->(bV sk bs ah rs ws V (nF (k:Int)) i r pre n).2.2=0)/\((bV sk bs ah rs ws V (nF (k:Int)) i r pre n).1.length<k->bV sk bs ah rs ws V (nF (k:Int)) i r pre n=bV sk bs ah rs ws V (λ_=>Z) i r pre n)
 |0,i,pre,n,a=>⟨List.prefix_rfl,Nat.le_of_lt a,U7 _,λ_=>rfl,λ_=>rfl⟩
 |r+1,i,pre,n,a=>by
  simp only[bV,oF,M4 k _ _ a]
  split
  ·exact H7 k r (i+1) pre n a
  ·split
   ·simp only[if_true];by_cases b:(pre++fL bs ah rs V i).length<k
    ·rw[decide_eq_true b,if_pos Y,VJ (Nat.le_of_lt b)];exact H7 k r (i+1) _ (n+1) b
    ·rw[decide_eq_false b,if_neg (by decide)];obtain⟨d,e⟩:=vw (sk:=sk) (bs:=bs) (ah:=ah) (rs:=rs) (ws:=ws) (V:=V) r (i+1) (pre++fL bs ah rs V i) (n+1);refine⟨(List.take_prefix _ _).trans d,?_,e,λ_=>rfl,λc=>?_⟩
     ·rw[WB];omega
     ·rw[WB] at c;omega
   ·exact⟨List.prefix_rfl,Nat.le_of_lt a,U7 _,λc=>absurd c (Nat.ne_of_lt a),λ_=>rfl⟩
end
theorem uc(lU:Nat->Bool)(e:Nat->List aC)(first:Nat):∀(n p:Nat),(dS lU e first p n).Pairwise (λa b=>a.1<b.1)/\∀x∈dS lU e first p n,first+p<=x.1/\x.1<first+p+n
 |0,p=>⟨ZS,λx g=>by cases g⟩
 |n+1,p=>by
  obtain⟨f,d⟩:=uc lU e first n (p+1)
  simp only[dS]
  split
  ·refine⟨List.pairwise_cons.2 ⟨λx c=>?_,f⟩,λx c=>?_⟩
   ·have:=d x c;show first+p<x.1
    omega
   ·rcases WI.1 c with rfl|c
    ·exact⟨U7 _,by show first+p<_;omega⟩
    ·have:=d x c;omega
  ·exact⟨f,λx c=>by have:=d x c;omega⟩
theorem zC{sk:Bool}{bs:List Bd}{ah:List Int}{rs:List bT}{ws:List Bool}{V:Nat->Nat->List aC}:∀(r i:Nat) (pre:List cg) (n:Nat),i+r=bs.length->pre.Pairwise (λa b=>a.1<b.1)->(∀x∈pre,x.1<eM bs i)->(bV sk bs ah rs ws V (λ_=>Z) i r pre n).1.Pairwise (λa b=>a.1<b.1)
 |0,i,pre,n,_,c,_=>c
 |r+1,i,pre,n,o,c,g=>by
  have k:i<bs.length:=by omega
  have h:bs[i]? =I bs[i]:=Vf k;have m:=me h;simp only[bV,oF]
  split
  ·exact zC r (i+1) pre n (by omega) c (λx f=>by have:=g x f;omega)
  ·split
   ·simp only[if_true];have p:rowsOf bs i=bs[i].rows:=oP h;have e:(fL bs ah rs V i).Pairwise (λa b=>a.1<b.1)/\∀x∈fL bs ah rs V i,eM bs i+0<=x.1/\x.1<eM bs i+0+rowsOf bs i:=uc _ _ _ _ _;refine zC r (i+1) _ (n+1) (by omega) (List.pairwise_append.2 ⟨c,e.1,λx d l j=>?_⟩) (λx f=>?_)
    ·have:=g x d;have:=e.2 l j;omega
    ·rcases VM.1 f with d|d
     ·have:=g x d;omega
     ·have:=e.2 x d;omega
   ·exact c
end Cc
namespace Cc
open Go Go.Conc
open Go.RowKit (Below)
open Ec (fS BL aC az gu q7 xT jx G1 Ju ey Ao mZ)
def Wr.mono{P:Vb}{c:XQ}{Q b:Exit->Xa->F->Prop}{a:Xa}{w:F}(h:Wr P c Q a w)(k:∀e a w,Q e a w->b e a w):Wr P c b a w:=λf m g=>by
 obtain⟨e,d,n,i,j⟩:=h f m g;exact⟨e,d,n,k _ _ _ i,j⟩
def gu.at_{W:F}{gb b5 b6 b7 B:Nat}{most:Int}{g f iv:U}{L:List (List aC×U)}{p:List Int}{es:List (U×Int)}(h:gu W gb b5 b6 b7 B most g f iv L p es){b:Nat}(a:q7 gb b5 b6 b7 B g f iv L es b):∃c t,W.heap[b]? =I (.cells c t (0,0)):=by
 rcases a with rfl|rfl|rfl|rfl|rfl|a|a|a|⟨q,o,a⟩|⟨i,m,z,v,k,j⟩
 ·exact⟨_,_,h.box⟩
 ·exact⟨_,_,h.c5⟩
 ·exact⟨_,_,h.c6⟩
 ·exact⟨_,_,h.c7⟩
 ·exact⟨_,_,h.book.blk⟩
 ·exact⟨_,_,(mZ h.rows a).choose_spec⟩
 ·exact⟨_,_,(mZ h.tS a).choose_spec⟩
 ·exact⟨_,_,(mZ h.book.own a).choose_spec⟩
 ·exact⟨_,_,(mZ (h.each q o) a).choose_spec⟩
 ·obtain⟨s,A,w,d,_,n⟩:=h.book.full i m;rw[k] at d;simp only[V7] at d;obtain⟨rfl,rfl,rfl⟩:=d;obtain⟨y,x,e,a,_⟩:=n j;simp only[VY,Xk,and_true] at e;subst e;exact⟨_,_,a⟩
def recAt(r:Loop)(most:Int)(n:Nat):Loop:=if (n:Int)=most then {r with state:=.done,pending:=I (.exit 0)} else r
structure DV(r:Loop)(b5 b6 b7 gb:Nat):Prop where
 st:r.state= .ready
 pn:r.pending=K
 ps:r.params=#[22,23]
 Td:r.assign=fS WX
 bd:r.body=jx WX
 sz:r.tmps.size=75
 k5:r.tmps.getD 5 V9=(aP b5)
 k6:r.tmps.getD 6 V9=(aP b6)
 k7:r.tmps.getD 7 V9=(aP b7)
 k9:r.tmps.getD 9 V9=(aP gb)
structure DM(l D gb b5 b6 b7 B:Nat)(most:Int)(r:Loop)(jv:List (U×Int))(pre:List cg)(M:Nat->Prop)(W:F):Prop where
 hl:W.heap[l]? =I (.loop (recAt r most pre.length))
 hD:W.heap[D]? =I (.deferred (I []))
 ex:∃rv nv iv L es',gu W gb b5 b6 b7 B most rv nv iv L (pre.map λx=>(x.1:Int)) (jv++es')/\L.map Vy=pre.map WD/\es'.length=4*pre.length/\∀b,M b↔b=l\/b=D\/q7 gb b5 b6 b7 B rv nv iv L (jv++es') b
section
variable {l D gb b5 b6 b7 B:Nat}{most:Int}{r:Loop}{jv:List (U×Int)}{pre:List cg}{M:Nat->Prop}{W W' ws u:F}
def DM.keeps(h:DM l D gb b5 b6 b7 B most r jv pre M W)(c:∀b,M b->W'.heap[b]? =W.heap[b]?):DM l D gb b5 b6 b7 B most r jv pre M W':=by
 obtain⟨f,g,p,o,n,d,e,i,j,k,a⟩:=h;exact⟨(c l ((a l).2 (.inl Y))).trans f,(c D ((a D).2 (.inr (.inl Y)))).trans g,p,o,n,d,e,i.same λb m=>c b ((a b).2 (.inr (.inr m))),j,k,a⟩
def DM.lt(h:DM l D gb b5 b6 b7 B most r jv pre M W)(b:Nat)(a:M b):b<W.heap.size:=by
 obtain⟨c,d,o,n,m,g,i,e,j,k,f⟩:=h;rcases(f b).1 a with rfl|rfl|a
 ·exact(U4.1 c).1
 ·exact(U4.1 d).1
 ·exact e.lt a
def xJ:aX (ax U1) Z (fS WX)=Z/\aX (ax U1) Z (jx WX)=Z:=⟨by kernel_rfl,by kernel_rfl⟩
def Hw(a:DV r b5 b6 b7 gb)(n:Nat):bf (ax U1) (.loop (recAt r most n)):=by
 unfold recAt
 split
 ·exact⟨by show aX _ _ r.assign=_;rw[a.Td];exact xJ.1,by show aX _ _ r.body=_;rw[a.bd];exact xJ.2,λc b=>by cases b;rfl⟩
 ·exact⟨by rw[a.Td];exact xJ.1,by rw[a.bd];exact xJ.2,λc b=>by rw[a.pn] at b;cases b⟩
def DM.G5(h:DM l D gb b5 b6 b7 B most r jv pre M W)(p:DV r b5 b6 b7 gb)(a:Mk (ax U1) ws W):DM l D gb b5 b6 b7 B most r jv pre M ws:=by
 obtain⟨g,i,t,s,q,d,f,b,j,k,m⟩:=h;refine⟨a.at_ l _ g (Hw p _),a.at_ D _ i (λw o=>by cases o),t,s,q,d,f,b.same λe n=>?_,j,k,m⟩;obtain⟨v,x,c⟩:=gu.at_ b n;exact(a.at_ e _ c trivial).trans c.symm
def DM.IG(h:DM l D gb b5 b6 b7 B most r jv pre M W)(a:Un W u):DM l D gb b5 b6 b7 B most r jv pre M u:=by
 obtain⟨f,g,p,o,n,d,e,b,i,j,k⟩:=h;refine⟨a.o f (by simp[pz]),a.o g (by simp[pz]),p,o,n,d,e,b.same λq m=>?_,i,j,k⟩;obtain⟨s,t,c⟩:=gu.at_ b m;exact(a.row.1 c).trans c.symm
def DM.sh(h:DM l D gb b5 b6 b7 B most r jv pre M W)(e:W'.heap=W.heap):DM l D gb b5 b6 b7 B most r jv pre M W':=h.keeps λa _=>by rw[e]
def Pg (l D gb b5 b6 b7 B:Nat)(most:Int)(r:Loop)(jv:List (U×Int))(pre:List cg)(M:Nat->Prop)(W:F)(nm:Nat)(c:List aC)(v:U)(W':F):Prop:=
 ∃b,DM l D gb b5 b6 b7 B most r jv (pre++[(nm,c)]) b W'/\(∀a,a<W.heap.size->¬M a->I a≠v.ownBlock->W'.heap[a]? =W.heap[a]?)/\∀a,b a->M a\/I a=v.ownBlock\/W.heap.size<=a
def Qy{nm:Nat}{f:List aC}{v:U}(i:DV r b5 b6 b7 gb)(a8:DM l D gb b5 b6 b7 B most r jv pre M W)(a7:nF most pre=Z)(cn:pre.length<2000)(bl:nm<=1000000)(bt:f.length<=1000)(cl:jv.length<=20000)(a1:W.ownsRow 0 54 3 v f.length (az f))(bm:∀g,v.ownBlock=I g->¬M g)(c:Vg)(cs:List Vg)(j:Tp):
 ∃W',Pg l D gb b5 b6 b7 B most r jv pre M W nm f v W'/\Steps (ax U1) (lone (Xt l r.fn ((r.params.zip #[.int .i64 (nm:Int),v]).foldl (λtmps (t,a)=>tmps.setIfInBounds t a) r.tmps) r.assign r.body .normal) (c::cs) (Cc.sh j 0 W)) (lone (c.finish (.bool (nF most (pre++[(nm,f)])))) cs W'):=by
 obtain⟨q,s,T,Q,N,k,p,al,am,a6,w⟩:=a8;have bk:¬(pre.length:Int)=most:=by simpa [nF] using a7
 have bs:recAt r most pre.length=r:=by unfold recAt;rw[if_neg bk]
 rw[bs] at q;have y:k.length=pre.length:=by
  have:=congrArg Ym am;simpa using this
 have be:l<W.heap.size:=(U4.1 q).1;have ck:D<W.heap.size:=(U4.1 s).1;have G:∀b,q7 gb b5 b6 b7 B T Q N k (jv++p) b->b≠l/\b≠D:=λb d=>by
  obtain⟨c,t,h⟩:=gu.at_ al d;exact⟨λe=>(by rw[e,q] at h;cases h),λe=>(by rw[e,s] at h;cases h)⟩
 have aa:∀g,v.ownBlock=I g->g≠l/\g≠D:=λg L=>by
  obtain⟨ci,h⟩:=mZ a1 L;exact⟨λe=>(by rw[e,q] at h;cases h),λe=>(by rw[e,s] at h;cases h)⟩
 have ar:D≠l:=λe=>by rw[e,q] at s;cases s
 have a5:(r.params.zip #[.int .i64 (nm:Int),v]).foldl (λtmps (t,a)=>tmps.setIfInBounds t a) r.tmps=(r.tmps.setIfInBounds 22 (.int .i64 (nm:Int))).setIfInBounds 23 v:=by
  rw[i.ps];simp
 have a4:((r.tmps.setIfInBounds 22 (.int .i64 (nm:Int))).setIfInBounds 23 v).size=75:=by simp[i.sz]
 have A:∀x:Nat,x≠22->x≠23->((r.tmps.setIfInBounds 22 (.int .i64 (nm:Int))).setIfInBounds 23 v).getD x V9=r.tmps.getD x V9:=λx bc bd=>by
  rw[Vt,VE,if_neg (Ne.symm bd),VE,if_neg (Ne.symm bc),<-Vt]
 have bA:((r.tmps.setIfInBounds 22 (.int .i64 (nm:Int))).setIfInBounds 23 v).getD 22 V9= .int .i64 (nm:Int):=by
  rw[Vt,VE,if_neg (by decide),VE,if_pos Y,if_pos (by simp[i.sz])];rfl
 have bB:((r.tmps.setIfInBounds 22 (.int .i64 (nm:Int))).setIfInBounds 23 v).getD 23 V9=v:=by
  rw[Vt,VE,if_pos Y,if_pos (by simp[i.sz])];rfl
 rw[a5];generalize (r.tmps.setIfInBounds 22 (.int .i64 (nm:Int))).setIfInBounds 23 v=b0 at*;obtain⟨cp,W',⟨rfl,a9⟩,bu⟩:=Hx (P:=ax U1) (l:=l) (f:=r.fn) (tmps:=b0) (assign:=r.assign) (body:=r.body) (w:=Cc.sh j 0 W) (R:=λu W'=>u= .bool (nF most (pre++[(nm,f)]))/\Pg l D gb b5 b6 b7 B most r jv pre M W nm f v W') (by
  rw[i.Td,i.bd];refine Ao a4 Y ?_;refine BL _ _ λch b3 cf ca cb cc cd b4 b8=>⟨_,run_beginRound (P:=ax U1) (w:=Cc.sh j 0 W) (l:=l) (r:=r) q i.st,?_⟩;refine Ao b3 cf ?_;have E:∀b:Nat,b≠l->((Cc.sh j 0 W).putObj l (.loop {r with state:=.busy})).heap[b]? =W.heap[b]? :=λb d=>Ya (w:=Cc.sh j 0 W) d;have b1:((Cc.sh j 0 W).putObj l (.loop {r with state:=.busy})).heap[l]? =I (.loop {r with state:=.busy}):=World.putObj_heap_same (w:=Cc.sh j 0 W) be;have cu:((Cc.sh j 0 W).putObj l (.loop {r with state:=.busy})).heap.size=W.heap.size:=World.putObj_size (w:=Cc.sh j 0 W);generalize (Cc.sh j 0 W).putObj l (.loop {r with state:=.busy})=F at*;have ba:gu F gb b5 b6 b7 B most T Q N k (pre.map λb2=>(b2.1:Int)) (jv++p):=al.same λb d=>E b (G b d).1;have bv:F.ownsRow 0 54 3 v f.length (az f):=Ec.eE a1 λb _ _ d=>E b (aa b d).1;refine Wr.mono (Ju F _ (nm:=nm) ba (by simp[y]) (by omega) (by simp;omega) bl bt (ca.trans ((A 5 (by decide) (by decide)).trans i.k5)) (cb.trans ((A 6 (by decide) (by decide)).trans i.k6)) (cc.trans ((A 7 (by decide) (by decide)).trans i.k7)) (cd.trans ((A 9 (by decide) (by decide)).trans i.k9)) (b4.trans bA) (b8.trans bB) bv (λg L d=>bm g L ((w g).2 (.inr (.inr d))))) λe a o bo=>?_;obtain⟨n,V,R,O,X,J,a2,bx,P,co,bz⟩:=bo;have z:o.heap[l]? =I (.loop {r with state:=.busy}):=(P l (by omega) (λd=>(G l d).1 Y) (λe=>(aa l e).1 Y)).trans b1;have ao:o.heap[D]? =I (.deferred (I [])):=(P D (by omega) (λd=>(G D d).2 Y) (λe=>(aa D e).2 Y)).trans ((E D ar).trans s);have ae:∀C:Loop,C=recAt r most (pre.length+1)->Pg l D gb b5 b6 b7 B most r jv pre M W nm f v (o.putObj l (.loop C)):=λC br=>by
   have bi:l<o.heap.size:=(U4.1 z).1;have S:∀b:Nat,b≠l->(o.putObj l (.loop C)).heap[b]? =o.heap[b]? :=λb d=>Ya d;have a3:∀b,q7 gb b5 b6 b7 B V R O (k++[(f,X)]) (jv++p++J) b->b≠l/\b≠D:=λb d=>by
    obtain⟨c,t,h⟩:=gu.at_ a2 d;exact⟨λe=>(by rw[e,z] at h;cases h),λe=>(by rw[e,ao] at h;cases h)⟩
   refine⟨λb=>b=l\/b=D\/q7 gb b5 b6 b7 B V R O (k++[(f,X)]) (jv++(p++J)) b,⟨?_,?_,V,R,O,k++[(f,X)],p++J,?_,?_,?_,λb=>Iff.rfl⟩,λb d bj bb=>?_,λb d=>?_⟩
   ·rw[show(pre++[(nm,f)]).length=pre.length+1 by simp,<-br];exact World.putObj_heap_same bi
   ·exact(S D ar).trans ao
   ·rw[<-Vu,V1];exact a2.same λb d=>S b (a3 b d).1
   ·rw[V1,V1,am];rfl
   ·rw[U8,U8,a6,bx];simp;omega
   ·have aw:¬(b=l\/b=D\/q7 gb b5 b6 b7 B T Q N k (jv++p) b):=λm=>bj ((w b).2 m);have au:b≠l:=λe=>aw (.inl e);exact(S b au).trans ((P b (by omega) (λm=>aw (.inr (.inr m))) (λe=>bb e.symm)).trans (E b au))
   ·rcases d with rfl|rfl|d
    ·exact .inl ((w _).2 (.inl Y))
    ·exact .inl ((w _).2 (.inr (.inl Y)))
    ·rw[<-Vu] at d;rcases bz b d with m|m|m
     ·exact .inl ((w b).2 (.inr (.inr m)))
     ·exact .inr (.inl m.symm)
     ·exact .inr (.inr (by omega))
  have a0:((pre++[(nm,f)]).length:Int)=((k.length+1:Nat):Int):=by simp[y]
  rcases n with⟨rfl,n⟩|⟨rfl,n⟩
  ·refine⟨_,_,run_endRound (P:=ax U1) K z,by rw[show nF most (pre++[(nm,f)])=Z by simp only[nF,a0,n,decide_false,Bool.not_false]];rfl,ae _ ?_⟩;have H:recAt r most (pre.length+1)=r:=by
    unfold recAt;rw[if_neg (by rw[<-y];exact n)]
   rw[H];obtain⟨cv,cx,cB,cR,c0,c1,c2,c3⟩:=r;have ab:=i.st;have ad:=i.pn;simp only at ab ad;subst ab ad;rfl
  ·refine⟨_,_,run_endRound (P:=ax U1) (I (.exit 0)) z,by rw[show nF most (pre++[(nm,f)])=U5 by simp only[nF,a0,n,decide_true,Bool.not_true]];rfl,ae _ ?_⟩;have H:recAt r most (pre.length+1)= {r with state:=.done,pending:=I (.exit 0)}:=by
    unfold recAt;rw[if_pos (by rw[<-y];exact n)]
   rw[H];rfl) c cs
 exact⟨W',a9,bu⟩
def Qx{Post:U->F->Prop}(e:DV r b5 b6 b7 gb)(K:jv.length<=20000):Cons (ax U1) U1 Post l (DM l D gb b5 b6 b7 B most r jv) (nF most):=by
 refine⟨λpre M W W' h i _=>h.keeps i,λpre M W h b c=>h.lt b c,λpre M W m y v p o N P V aa Q=>?_⟩;have O:¬(pre.length:Int)=most:=by simpa [nF] using o
 have S:recAt r most pre.length=r:=by unfold recAt;rw[if_neg O]
 have q:=p.hl;have t:=Hw (most:=most) e pre.length;rw[S] at q t;refine⟨r,q,t,by rw[e.ps];rfl,λg ae ao T ar H Z=>?_⟩;obtain⟨ws,a⟩:=Bw (ax U1) W;have G:=p.G5 e a;have ab:=xG a aa;refine qH (aB:=[g]) bI (Stop:=λn aB f=>aB=[]/\n=g.finish (.bool (nF most (pre++[(m,y)])))/\Pg l D gb b5 b6 b7 B most r jv pre M ws m y v f) (λn aB f j=>?_) Z a.hp a.un (λz=>?_) (λam a1 f u2 j R d X=>?_)
 ·obtain⟨_,rfl,_⟩:=j;rintro⟨_,s,x⟩;rcases T.2 with⟨aw,au,a0,ad,k⟩|⟨l,ad,k⟩
  ·simp[WJ,k] at x
  ·simp[WJ,k] at x
 ·obtain⟨W',C,d⟩:=Qy (nm:=m) e G o N P V K ab Q g [bn] z;exact⟨_,[],W',d,rfl,rfl,C⟩
 ·obtain⟨z,al,rfl,rfl,A,E,L,J⟩:=j;have w:ws.heap.size=W.heap.size:=a.un.size.symm;refine H _ u2 ⟨rfl,A,(E.sh (W':=f) Y).IG d.un,λb c i I=>d.same a.un (L b (by rw[w];exact c) i I),λb c=>?_⟩ trivial X R;rw[<-w];exact J b c
end
end Cc
namespace Ec
open Go.RowKit Pk Pm
def N0 (fn:XJ):XQ:=match fn.body with
 |some (.seq a _)=>a
 |_=>.skip
def N1 (fn:XJ):XQ:=match fn.body with
 |some (.seq _ (.seq a _))=>a
 |_=>.skip
def AP{a:Xa}{n:Nat}(h:a.tmps.size=n):Cc.Knows a n []:=⟨h,λs v h=>by simp at h⟩
def oY(a:F)(o:Yk):(a.alloc o).heap[a.heap.size]? =I o:=by
 show(a.heap.push o)[a.heap.size]? =I o;simp
def nW(a:F)(o:Yk){b:Nat}{x:Yk}(h:a.heap[b]? =I x):(a.alloc o).heap[b]? =I x:=by
 show(a.heap.push o)[b]? =I x;rw[VF,if_neg (by have:=(U4.1 h).1;omega)];exact h
structure RE(W W':F)(cu B:Nat)(most:Int):Prop where
 c4:W'.heap[W.heap.size]? =I (.cells #[(aP cu)] 31 (0,0))
 c5:W'.heap[W.heap.size+1]? =I (.cells #[.int .i64 most] 3 (0,0))
 c6:W'.heap[W.heap.size+2]? =I (.cells #[.int .i64 0] 3 (0,0))
 c7:W'.heap[W.heap.size+3]? =I (.cells #[(aP B)] 34 (0,0))
 c8:W'.heap[W.heap.size+4]? =I (.cells #[.bool U5,.slice K 0 0,.slice K 0 0,.slice K 0 0] 44 (0,0))
structure Pf(W W':F):Prop where
 c9:W'.heap[W.heap.size]? =I (.cells #[.bool U5,.slice K 0 0,.slice K 0 0,.slice K 0 0] 44 (0,0))
def N2(a:F)(t:Nat->U){cu B:Nat}{most:Int}(d:t 0=(aP cu))(h1:t 1= .int .i64 most)(f:t 2= .int .i64 0)(g:t 3=(aP B)):
 (N0 WX).wp (ax U1) (λe a' W'=>e= .normal/\aQ a W'/\(Cc.Knows a' 75 [(8,(aP (a.heap.size+4))),(7,(aP (a.heap.size+3))),(6,(aP (a.heap.size+2))),(5,(aP (a.heap.size+1))),(4,(aP a.heap.size))]/\a'.defers=[])/\RE a W' cu B most) (G1 t) a:=by
 unfold G1;rw[d,h1,f,g];unfold N0 WX;dsimp only;go_wp2;have b:∀(a:F) c,(a.alloc c).heap.size=a.heap.size+1:=λa c=>by simp
 refine⟨(((((Vi _ _).alloc (U7 _) _).alloc (by simp) _).alloc (by simp;omega) _).alloc (by simp;omega) _).alloc (by simp;omega) _,((((AP Y).cons Y).cons Y).cons Y).cons Y |>.cons Y,?_⟩;refine⟨nW _ _ (nW _ _ (nW _ _ (nW _ _ (oY _ _)))),?_,?_,?_,?_⟩
 ·have:=oY (a.alloc (.cells #[(aP cu)] 31)) (.cells #[.int .i64 most] 3);rw[b] at this;exact nW _ _ (nW _ _ (nW _ _ this))
 ·have:=oY ((a.alloc (.cells #[(aP cu)] 31)).alloc (.cells #[.int .i64 most] 3)) (.cells #[.int .i64 0] 3);rw[b,b] at this;exact nW _ _ (nW _ _ this)
 ·have:=oY (((a.alloc (.cells #[(aP cu)] 31)).alloc (.cells #[.int .i64 most] 3)).alloc (.cells #[.int .i64 0] 3)) (.cells #[(aP B)] 34);rw[b,b,b] at this;exact nW _ _ this
 ·have:=oY ((((a.alloc (.cells #[(aP cu)] 31)).alloc (.cells #[.int .i64 most] 3)).alloc (.cells #[.int .i64 0] 3)).alloc (.cells #[(aP B)] 34)) (.cells #[.bool U5,aM,aM,aM] 44);rw[b,b,b,b] at this;exact this
def N3(a:F)(t:Nat->U):
 (N1 WX).wp (ax U1) (λe a' W'=>e= .normal/\aQ a W'/\(Cc.Knows a' 75 [(9,(aP a.heap.size)),(8,t 8),(7,t 7),(6,t 6),(5,t 5),(4,t 4)]/\a'.defers=[])/\Pf a W') (G1 t) a:=by
 unfold G1;unfold N1 WX;dsimp only;go_wp2;exact⟨(Vi _ _).alloc (U7 _) _,(((((AP Y).cons Y).cons Y).cons Y).cons Y).cons Y |>.cons Y,⟨oY _ _⟩⟩
def gB:Nat->XQ->XQ
 |0,a=>a
 |n+1,.seq _ a=>gB n a
 |_,a=>a
def xz (n:Nat)(fn:XJ):XQ:=match fn.body with
 |some a=>gB n a
 |none=>.skip
def lz (v:Nat->U):Xa:=⟨#[v 0,v 1,v 2,v 3,v 4,v 5,v 6,v 7,v 8,v 9,v 10,v 11,v 12,v 13,v 14,v 15,v 16,v 17,v 18,v 19,v 20,v 21,v 22,v 23,v 24,v 25,v 26,v 27,v 28,v 29,v 30,v 31,v 32,v 33,v 34,v 35,v 36,v 37,v 38,v 39,v 40,v 41,v 42,v 43,v 44,v 45,v 46,v 47,v 48,v 49,v 50,v 51,v 52,v 53,v 54,v 55,v 56,v 57,v 58,v 59,v 60,v 61,v 62,v 63,v 64,v 65,v 66,v 67,v 68,v 69,v 70,v 71,v 72,v 73,v 74,v 75,v 76,v 77,v 78,v 79,v 80,v 81,v 82,v 83,v 84,v 85,v 86,v 87,v 88,v 89,v 90,v 91,v 92,v 93,v 94,v 95,v 96,v 97,v 98,v 99,v 100,v 101,v 102,v 103,v 104,v 105,v 106,v 107,v 108,v 109,v 110,v 111,v 112,v 113,v 114,v 115,v 116,v 117,v 118,v 119,v 120,v 121,v 122,v 123,v 124,v 125,v 126,v 127,v 128,v 129,v 130,v 131,v 132,v 133,v 134,v 135,v 136,v 137,v 138,v 139,v 140,v 141,v 142,v 143,v 144,v 145,v 146,v 147,v 148,v 149,v 150,v 151,v 152,v 153,v 154,v 155,v 156,v 157,v 158,v 159,v 160,v 161,v 162,v 163,v 164,v 165,v 166,v 167,v 168,v 169,v 170,v 171,v 172,v 173,v 174,v 175,v 176,v 177,v 178,v 179,v 180,v 181,v 182,v 183,v 184,v 185,v 186,v 187,v 188,v 189,v 190,v 191,v 192,v 193,v 194,v 195],[]⟩
structure Gi(W:F)(cu B fb ab:Nat)(n m e1 eA:Nat)(rv1 nv1 rvA nvA wv iv:U)(X1 XA zr:List (List aC))(NA:List Int)(es:List (U×Int)):Prop where
 c6:W.cell? ⟨cu,6,K⟩=I (.int .i64 (m:Int))
 c7:W.cell? ⟨cu,7,K⟩=I (.int .i64 (eA:Int))
 f1:W.heap[fb]? =I (.cells #[.bool U5,rv1,nv1,.slice K 0 0] 44 (0,0))
 fA:W.heap[ab]? =I (.cells #[.bool U5,rvA,nvA,.slice K 0 0] 44 (0,0))
 r1:DL W rv1 X1
 rA:DL W rvA XA
 rz:DL W wv zr
 nA:W.ownsRow 0 3 1 nvA NA.length (bq NA)
 oA:∃vs,W.ownsRow 0 55 1 rvA XA.length vs
 bk:ey W 0 B iv es
structure DR(k n m e1 eA:Nat)(X1 XA zr:List (List aC))(NA:List Int)(es:List (U×Int)):Prop where
 nm:n<=m
 lk:X1.length<=k
 lA:X1.length<=XA.length
 full:X1.length=k->e1=0
 part:X1.length<k->X1.length=XA.length/\e1=eA/\n=m
 pre:X1=XA.take X1.length
 UP:∀i (h:i+1<NA.length),NA[i]<NA[i+1]
 all:eA=0->XA=zr
 Rp:∀e∈es,0<=e.2/\e.2<=1000000
 TJ:k<=20/\XA.length<=2000/\zr.length<=Vp/\es.length<=100000/\NA.length<=2000/\m<=100000/\eA<=1000
 lr:(∀r∈X1,r.length<=Vp)/\(∀r∈XA,r.length<=Vp)/\∀r∈zr,r.length<=Vp
def pY (n:Nat)(fn:XJ):XQ:=match xz n fn with
 | .seq c _=>c
 |c=>c
abbrev PI(a b n fb B cu c:Nat)(d:U)(k:Nat):List (Nat×U):=[(20,(aP a)),(19,.int .i64 (b:Int)),(18,.int .i64 (n:Int)),(17,(aP fb)),(16,(aP B)),(14,(aP cu)),(13,.int .i64 (c:Int)),(12,d),(4,.int .i64 (k:Int))]
def RX(a:F)(v:Nat->U){cu B fb d k n m b c:Nat}{C z D A f iv:U}{h i zr:List (List aC)}{g:List Int}{es:List (U×Int)}(x:v 4= .int .i64 (k:Int))(o:v 12=f)(p:v 13= .int .i64 (c:Int))(q:v 14=(aP cu))(r:v 16=(aP B))(s:v 17=(aP fb))(t:v 18= .int .i64 (n:Int))(u:v 19= .int .i64 (b:Int))(w:v 20=(aP d))
 (y:Gi a cu B fb d n m b c C z D A f iv h i zr g es) (E:DR k n m b c h i zr g es):
 (pY 14 Wp).wp (ax U1) (λe a' W'=>e= .normal/\aQ a W'/\Cc.Knows a' 196 ((21,.int .i64 (m:Int))::PI d b n fb B cu c f k)/\a'.defers=[]) (lz v) a:=by
 unfold lz;rw[x,o,p,q,r,s,t,u,w];have l:=y.c6;have j:=λa=>tI cu (.int .i64 (m:Int)) a;unfold pY xz Wp;dsimp only[gB]
 go_wp2_with (go_at_call 11;refine(j _ l).mono ?_;rintro e G ⟨rfl,rfl⟩)
 exact⟨Vi _ _,((((((((((AP Y).cons Y).cons Y).cons Y).cons Y).cons Y).cons Y).cons Y).cons Y).cons Y).cons Y⟩
def RY(a:F)(v:Nat->U){cu B fb c k n m h d:Nat}{H E J G j iv:U}{b g zr:List (List aC)}{l:List Int}{es:List (U×Int)}(D:v 4= .int .i64 (k:Int))(s:v 12=j)(t:v 13= .int .i64 (d:Int))(u:v 14= .pointer (I ⟨cu,0,K⟩))(w:v 16= .pointer (I ⟨B,0,K⟩))(x:v 17= .pointer (I ⟨fb,0,K⟩))(y:v 18= .int .i64 (n:Int))(z:v 19= .int .i64 (h:Int))(A:v 20= .pointer (I ⟨c,0,K⟩))(C:v 21= .int .i64 (m:Int))
 (f:Gi a cu B fb c n m h d H E J G j iv b g zr l es) (i:DR k n m h d b g zr l es):
 (pY 15 Wp).wp (ax U1) (λe a' W'=>e= .normal/\aQ a W'/\Cc.Knows a' 196 ((21,.int .i64 (m:Int))::PI c h n fb B cu d j k)/\a'.defers=[]) (lz v) a:=by
 unfold lz;rw[D,s,t,u,w,x,y,z,A,C];obtain⟨M,a3,a4,L,rfl,am,ao⟩:=f.r1;obtain⟨O,a5,a6,N,rfl,ar,au⟩:=f.rA;have r:=f.c7;have p:=f.f1;have o:=f.fA;have R:a.cell? ⟨fb,0,K⟩=I (.bool U5):=by simp[Ve,p]
 have S:a.cell? ⟨fb,1,K⟩=I (.slice M b.length L):=by simp[Ve,p]
 have P:a.cell? ⟨c,0,K⟩=I (.bool U5):=by simp[Ve,o]
 have Q:a.cell? ⟨c,1,K⟩=I (.slice O g.length N):=by simp[Ve,o]
 obtain⟨aa,T,W,Z,V,ae,X⟩:=i.TJ;have al:=i.nm;have ad:=i.lk;have ab:=i.lA;have q:=λa=>ju cu (.int .i64 (d:Int)) a;have aw:¬((m:Int)<(n:Int)):=by omega
 have a0:¬((k:Int)<(b.length:Int)):=by omega
 have a1:¬((g.length:Int)<(b.length:Int)):=by omega
 unfold pY xz Wp;dsimp only[gB]
 go_wp2_with (go_at_call 12;refine(q _ r).mono ?_;rintro e a2 ⟨rfl,rfl⟩)
 exact⟨Vi _ _,((((((((((AP Y).cons Y).cons Y).cons Y).cons Y).cons Y).cons Y).cons Y).cons Y).cons Y).cons Y⟩
def RZ(a:F)(v:Nat->U){cu B fb c k n m g h:Nat}{L H M J j iv:U}{b i zr:List (List aC)}{l:List Int}{es:List (U×Int)}(A:v 4= .int .i64 (k:Int))(q:v 12=j)(r:v 13= .int .i64 (h:Int))(s:v 14= .pointer (I ⟨cu,0,K⟩))(t:v 16= .pointer (I ⟨B,0,K⟩))(u:v 17= .pointer (I ⟨fb,0,K⟩))(w:v 18= .int .i64 (n:Int))(x:v 19= .int .i64 (g:Int))(y:v 20= .pointer (I ⟨c,0,K⟩))(z:v 21= .int .i64 (m:Int))
 (f:Gi a cu B fb c n m g h L H M J j iv b i zr l es) (d:DR k n m g h b i zr l es):
 (pY 16 Wp).wp (ax U1) (λe a' W'=>e= .normal/\aQ a W'/\Cc.Knows a' 196 ((21,.int .i64 (m:Int))::PI c g n fb B cu h j k)/\a'.defers=[]) (lz v) a:=by
 unfold lz;rw[A,q,r,s,t,u,w,x,y,z];obtain⟨O,a2,a3,N,rfl,au,aw⟩:=f.r1;obtain⟨Q,a4,a5,P,rfl,a0,a1⟩:=f.rA;have T:=f.c7;have p:=f.f1;have o:=f.fA;have V:a.cell? ⟨fb,0,K⟩=I (.bool U5):=by simp[Ve,p]
 have W:a.cell? ⟨fb,1,K⟩=I (.slice O b.length N):=by simp[Ve,p]
 have R:a.cell? ⟨c,0,K⟩=I (.bool U5):=by simp[Ve,o]
 have S:a.cell? ⟨c,1,K⟩=I (.slice Q i.length P):=by simp[Ve,o]
 obtain⟨ae,X,aa,ad,Z,ao,ab⟩:=d.TJ;have ar:=d.nm;have am:=d.lk;have al:=d.lA;have D:=d.full;unfold pY xz Wp;dsimp only[gB];by_cases E:b.length=k
 ·have C:=D E;subst C;have G:(b.length:Int)=(k:Int):=by omega
  go_wp2;exact⟨Vi _ _,((((((((((AP Y).cons Y).cons Y).cons Y).cons Y).cons Y).cons Y).cons Y).cons Y).cons Y).cons Y⟩
 ·have G:¬(b.length:Int)=(k:Int):=by omega
  go_wp2;exact⟨Vi _ _,((((((((((AP Y).cons Y).cons Y).cons Y).cons Y).cons Y).cons Y).cons Y).cons Y).cons Y).cons Y⟩
def R1(a:F)(v:Nat->U){cu B fb c k n m h i:Nat}{J G L H j iv:U}{b g zr:List (List aC)}{l:List Int}{es:List (U×Int)}(A:v 4= .int .i64 (k:Int))(q:v 12=j)(r:v 13= .int .i64 (i:Int))(s:v 14= .pointer (I ⟨cu,0,K⟩))(t:v 16= .pointer (I ⟨B,0,K⟩))(u:v 17= .pointer (I ⟨fb,0,K⟩))(w:v 18= .int .i64 (n:Int))(x:v 19= .int .i64 (h:Int))(y:v 20= .pointer (I ⟨c,0,K⟩))(z:v 21= .int .i64 (m:Int))
 (f:Gi a cu B fb c n m h i J G L H j iv b g zr l es) (d:DR k n m h i b g zr l es):
 (pY 17 Wp).wp (ax U1) (λe a' W'=>e= .normal/\aQ a W'/\Cc.Knows a' 196 ((21,.int .i64 (m:Int))::PI c h n fb B cu i j k)/\a'.defers=[]) (lz v) a:=by
 unfold lz;rw[A,q,r,s,t,u,w,x,y,z];obtain⟨N,a3,a4,M,rfl,ar,au⟩:=f.r1;obtain⟨P,a5,a6,O,rfl,aw,a0⟩:=f.rA;have S:=f.c7;have p:=f.f1;have o:=f.fA;have T:a.cell? ⟨fb,0,K⟩=I (.bool U5):=by simp[Ve,p]
 have V:a.cell? ⟨fb,1,K⟩=I (.slice N b.length M):=by simp[Ve,p]
 have Q:a.cell? ⟨c,0,K⟩=I (.bool U5):=by simp[Ve,o]
 have R:a.cell? ⟨c,1,K⟩=I (.slice P g.length O):=by simp[Ve,o]
 obtain⟨ad,W,Z,ab,X,am,aa⟩:=d.TJ;have ao:=d.nm;have al:=d.lk;have ae:=d.lA;have D:=d.part;unfold pY xz Wp;dsimp only[gB];by_cases C:b.length<k
 ·obtain⟨a2,rfl,rfl⟩:=D C;have E:(b.length:Int)<(k:Int):=by omega
  have a1:(b.length:Int)=(g.length:Int):=by omega
  go_wp2;exact⟨Vi _ _,((((((((((AP Y).cons Y).cons Y).cons Y).cons Y).cons Y).cons Y).cons Y).cons Y).cons Y).cons Y⟩
 ·have E:¬(b.length:Int)<(k:Int):=by omega
  go_wp2;exact⟨Vi _ _,((((((((((AP Y).cons Y).cons Y).cons Y).cons Y).cons Y).cons Y).cons Y).cons Y).cons Y).cons Y⟩
def xS.take{w:F}{f:Option VI}{b off:Nat}{l:List (List aC)}(h:xS w f b off l)(n:Nat):xS w f b off (l.take n):=by
 have e:∀a,a<(l.take n).length->a<l.length:=λa d=>by simp at d;omega
 exact⟨λc=>h.addr (e 0 c),λc=>h.lt (e 0 c),λa d=>by rw[WE];exact h.c a (e a d)⟩
abbrev Tw(a B b:Nat)(c:U):List (Nat×U):=[(22,.bool Z),(20,(aP a)),(16,(aP B)),(13,.int .i64 (b:Int)),(12,c)]
def R2(b:F)(v:Nat->U){cu B fb h k n m w i:Nat}{al ab am ad p iv:U}{a d zr:List (List aC)}{u:List Int}{es:List (U×Int)}(x:v 12=p)(y:v 13= .int .i64 (i:Int))(z:v 16= .pointer (I ⟨B,0,K⟩))(A:v 17= .pointer (I ⟨fb,0,K⟩))(C:v 20= .pointer (I ⟨h,0,K⟩))
 (f:Gi b cu B fb h n m w i al ab am ad p iv a d zr u es) (c:DR k n m w i a d zr u es):
 (pY 18 Wp).wp (ax U1) (λe a' W'=>e= .normal/\aQ b W'/\Cc.Knows a' 196 (Tw h B i p)/\a'.defers=[]) (lz v) b:=by
 unfold lz;rw[x,y,z,A,C];clear x y z A C;obtain⟨r,ar,au,q,rfl,W,L⟩:=f.r1;obtain⟨t,aw,a0,s,rfl,aa,M⟩:=f.rA;obtain⟨bb,o⟩:=f.oA;have J:=f.f1;have D:=f.fA;have O:b.cell? ⟨fb,1,K⟩=I (.slice r a.length q):=by simp[Ve,J]
 have N:b.cell? ⟨h,1,K⟩=I (.slice t d.length s):=by simp[Ve,D]
 obtain⟨a8,Q,a5,a7,a4,a9,a6⟩:=c.TJ;have T:=c.lk;have S:=c.lA;have j:(d.take a.length).length=a.length:=by rw[WB];omega
 have l:X (∀g,bK 13 #[.slice r a.length q,.slice t a.length s] (b.drewN g) λe ao=>e= .returned (.bool Z)/\∃n,ao=(b.drewN g).drewN n):=λg=>by
  have H:aQ b (b.drewN g):=below_drewN (Vi _ _) g;have:=ue a (d.take a.length) r t ar au q aw a0 s (b.drewN g) (by unfold Vp;omega) (by rw[j];unfold Vp;omega) c.lr.1 (λae V=>c.lr.2.1 ae (List.mem_of_mem_take V)) (L.below H) ((M.below H).take _);rw[j] at this;exact uU this c.pre
 clear f c J D L M;unfold pY xz Wp;dsimp only[gB];rcases o.2 with⟨e,P⟩|⟨a3,a1,a2,e,R⟩
 ·simp only[V7] at e;obtain⟨rfl,E,rfl⟩:=e;have G:a.length=0:=by omega
  rw[G] at O l;rw[E] at N;clear o j P E G S T W aa Q
  go_wp2_with fail
  go_quiet ((go_at_call 13;exact Calls.quiet_of (l.o _)))
  go_wp2;exact⟨below_drewN (Vi _ _) _,(((((AP Y).cons Y).cons Y).cons Y).cons Y).cons Y⟩
 ·simp only[V7,true_and] at e;obtain⟨rfl,rfl⟩:=e;have ba:(a.length:Int)<=(d.length:Int):=by omega
  clear R o j
  go_wp2_with fail
  go_quiet ((go_at_call 13;exact Calls.quiet_of (l.o _)))
  go_wp2;exact⟨below_drewN (Vi _ _) _,(((((AP Y).cons Y).cons Y).cons Y).cons Y).cons Y⟩
def PJ(b:F)(v:Nat->U){cu B fb i k n m L q:Nat}{bb a8 bc a9 am iv:U}{P f zr:List (List aC)}{c:List Int}{es:List (U×Int)}(R:v 12=am)(S:v 13= .int .i64 (q:Int))(T:v 16= .pointer (I ⟨B,0,K⟩))(V:v 20= .pointer (I ⟨i,0,K⟩))(W:v 22= .bool Z)
 (h:Gi b cu B fb i n m L q bb a8 bc a9 am iv P f zr c es) (g:DR k n m L q P f zr c es):
 (xz 19 Wp).wp (ax U1) (λe a' W'=>e= .ret/\aQ b W'/\Cc.Knows a' 196 [(10,.bool Z)]/\a'.defers=[]) (lz v) b:=by
 unfold lz;rw[R,S,T,V,W];clear R S T V W;obtain⟨x,bi,bj,w,rfl,bB,ab⟩:=h.rA;obtain⟨ar,bk,bl,ao,rfl,b1,ad⟩:=h.rz;obtain⟨al,ae,rfl⟩:=cF h.nA;have M:=h.fA;have D:b.cell? ⟨i,1,K⟩=I (.slice x f.length w):=by simp[Ve,M]
 have E:b.cell? ⟨i,2,K⟩=I (.slice al c.length ae):=by simp[Ve,M]
 obtain⟨bx,br,a3,a4,bs,bA,bt⟩:=g.TJ;have z:=af g.UP;have o:=af h.nA;have t:X (∀d,bK 13 #[.slice x f.length w,.slice ar zr.length ao] (b.drewN d) λe l=>∃G,e= .returned (.bool G)/\(G=Z↔f=zr)/\∃n,l=(b.drewN d).drewN n):=λd=>by
  have aa:aQ b (b.drewN d):=below_drewN (Vi _ _) d;exact ue f zr x ar bi bj w bk bl ao (b.drewN d) (by unfold Vp;omega) a3 g.lr.2.1 g.lr.2.2 (ab.below aa) (ad.below aa)
 have C:X (∀d,bK 14 #[.pointer (I ⟨B,0,K⟩)] (b.drewN d) λe l=>e= .returned (.bool Z)/\XC (b.drewN d).heap.size (b.drewN d) l):=λd=>IN B 0 iv es (b.drewN d) a4 (qZ h.bk Y (λ_ _ _ _=>rfl) (λ_ _ _ _ _ _ _ _ _=>rfl)) g.Rp;have y:=af g.all;clear h g M ab ad;unfold xz Wp;dsimp only[gB]
 go_wp2_with fail
 have au:=af D;have aw:=af E;clear D E
 go_loopw [23] (λO wr=>∃a:Nat,1<=a/\(a<=c.length\/a=1)/\O= .int .i64 a/\∃n,wr=b.drewN n) (λO _=>c.length-(V3 O).toNat)
 case atStart=>exact⟨1,U7 _,.inr Y,rfl,0,rfl⟩
 case round=>
  obtain⟨a,bv,bu,rfl,d,j⟩:=hrel;have a0:=af j;have E:wr.cell? ⟨i,2,K⟩=I (.slice al c.length ae):=by rw[j];exact aw.o
  by_cases a6:a<c.length
  ·obtain⟨Q,a5⟩:=vh o.o (by omega);subst a5;have H:=o.o.cellAt a (by omega);have J:=o.o.cellAt (a-1) (by omega);rw[sR c a a6] at H;rw[sR c (a-1) (by omega)] at J;have bm:wr.cell? ⟨Q,a,K⟩=I (.int .i64 c[a]):=by rw[j];exact H
   have bo:wr.cell? ⟨Q,a-1,K⟩=I (.int .i64 c[a-1]):=by rw[j];exact J
   have bz:¬c[a]<=c[a-1]:=by
    have:=z.o (a-1) (by omega);have e:a-1+1=a:=by omega
    simp only[e] at this;omega
   have L:((a:Int)-1).toNat=a-1:=by omega
   have a7:(a:Int)<(c.length:Int):=by omega
   have b2:0<=(a:Int)-1:=by omega
   clear H J j;generalize c[a]=b3 at*;generalize c[a-1]=b4 at*
   go_wp2_with fail
   go_quiet (fail)
   go_wp2
   go_roundw
   case rel=>exact⟨a+1,by omega,.inl (by omega),by go_num,d+nq,by rw[a0.o];exact Yi _ _ _⟩
   case measure=>simp[V3];omega
  ·have a7:¬(a:Int)<(c.length:Int):=by omega
   subst j;have D:(b.drewN d).cell? ⟨i,1,K⟩=I (.slice x f.length w):=au.o;have s:X (∀u,bK 14 #[.pointer (I ⟨B,0,K⟩)] (b.drewN u) λe l=>e= .returned (.bool Z)/\aQ b l):=λu=>(C.o u).mono λe l ⟨a1,a2⟩=>⟨a1,(below_drewN (Vi _ _) u).trans a2⟩;by_cases N:q=0
   ·have p:=af (uU (t.o d) (y.o N));subst N;clear t y C z o
    go_wp2_with (first|(go_at_call 13;refine p.o.mono ?_;clear p;rintro e bd ⟨rfl,ba,rfl⟩)|(go_at_call 14;refine(s.o _).mono ?_;clear s;rintro e be ⟨rfl,r⟩;have A:=af r;clear r))
    exact⟨A.o,(AP Y).cons Y⟩
   ·have b0:((q:Int) !=0)=Z:=by simp;omega
    clear y C z o N;have p:=t.o d;clear t
    go_wp2_with (first|(go_at_call 13;refine p.mono ?_;clear p;rintro e bd ⟨G,rfl,-,ba,rfl⟩)|(go_at_call 14;refine(s.o _).mono ?_;clear s;rintro e be ⟨rfl,r⟩;have A:=af r;clear r))
    exact⟨A.o,(AP Y).cons Y⟩
def NL(c n:Int)(w:F)(i:1<=n)(j:n<=1000)(g: -9223372036854775808<=c)(h1:c<=9223372036854775807):bK 9 #[.int .i64 c,.int .i64 n] w λe w'=>w'=w/\∃r,e= .returned (.int .i64 r)/\0<=r/\r<n:=by
 have k:¬n=0:=by omega
 by_cases h:c<0
 ·have d:Wj (c+1)=c+1:=by unfold Wj;omega
  have f:Wj (-(c+1))= -(c+1):=by unfold Wj;omega
  have a:=tmod_neg (c+1) n (by omega) (by omega);have b:Wj (-((c+1).tmod n))= -((c+1).tmod n):=by unfold Wj;omega
  go_enter av.func9,Tryz.ntmps9;go_wp2;go_ret;exact⟨rfl,_,rfl,a⟩
 ·have a:=FU c n (by omega) (by omega);have b:Wj (c.tmod n)=c.tmod n:=by unfold Wj;omega
  go_enter av.func9,Tryz.ntmps9;go_wp2;go_ret;exact⟨rfl,_,rfl,Int.emod_nonneg _ (by omega),Int.emod_lt_of_pos _ (by omega)⟩
def RS(a:F)(v:Nat->U){f:Nat}(b:v 11= .bool Z)(c:v 13= .int .i64 (f:Int))(d:v 14= .pointer K)(g:v 15= .int .i64 (f:Int))(h:f≠0):
 (xz 6 Wp).wp (ax U1) (λe a' W'=>e= .ret/\aQ a W'/\Cc.Knows a' 196 [(10,.bool Z)]/\a'.defers=[]) (lz v) a:=by
 unfold lz;rw[b,c,d,g];have i:((f:Int) !=0)=Z:=by simp;omega
 unfold xz Wp;dsimp only[gB];go_wp2;exact⟨Vi _ _,(AP Y).cons Y⟩
def Ty(a:F)(v:Nat->U){cu b:Nat}{c:U}{kk:Int}(j:v 4= .int .i64 kk)(d:v 11= .bool Z)(f:v 12=c)(g:v 13= .int .i64 (b:Int))(h:v 14=(aP cu))(i:v 15= .int .i64 0):
 (pY 6 Wp).wp (ax U1) (λe a' W'=>e= .normal/\aQ a W'/\Cc.Knows a' 196 [(14,(aP cu)),(13,.int .i64 (b:Int)),(12,c),(4,.int .i64 kk)]/\a'.defers=[]) (lz v) a:=by
 unfold lz;rw[j,d,f,g,h,i];unfold pY xz Wp;dsimp only[gB];go_wp2;exact⟨Vi _ _,((((AP Y).cons Y).cons Y).cons Y).cons Y⟩
def Tz(a:F)(v:Nat->U){cu b:Nat}{c:U}{kk:Int}(h:v 4= .int .i64 kk)(d:v 12=c)(f:v 13= .int .i64 (b:Int))(g:v 14=(aP cu)):
 (pY 7 Wp).wp (ax U1) (λe a' W'=>e= .normal/\aQ a W'/\Cc.Knows a' 196 [(14,(aP cu)),(13,.int .i64 (b:Int)),(12,c),(4,.int .i64 kk)]/\a'.defers=[]) (lz v) a:=by
 unfold lz;rw[h,d,f,g];unfold pY xz Wp;dsimp only[gB];go_wp2;exact⟨Vi _ _,((((AP Y).cons Y).cons Y).cons Y).cons Y⟩
structure Q9(W W':F):Prop where
 blk:W'.heap[W.heap.size]? =I (.cells #[.slice K 0 0,.slice K 0 0,.slice K 0 0,.slice K 0 0] 40 (0,0))
def TA(a:F)(v:Nat->U){cu b:Nat}{c:U}{kk:Int}(h:v 4= .int .i64 kk)(d:v 12=c)(f:v 13= .int .i64 (b:Int))(g:v 14=(aP cu)):
 (pY 8 Wp).wp (ax U1) (λe a' W'=>e= .normal/\aQ a W'/\(Cc.Knows a' 196 ((16,(aP a.heap.size))::[(14,(aP cu)),(13,.int .i64 (b:Int)),(12,c),(4,.int .i64 kk)])/\a'.defers=[])/\Q9 a W') (lz v) a:=by
 unfold lz;rw[h,d,f,g];unfold pY xz Wp;dsimp only[gB];go_wp2;exact⟨(Vi _ _).alloc (U7 _) _,(((((AP Y).cons Y).cons Y).cons Y).cons Y).cons Y,⟨oY _ _⟩⟩
def TB(b:F)(v:Nat->U){cu c B:Nat}{d:U}{kk:Int}(m: -9223372036854775808<=kk)(n:kk<=9223372036854775807)(l:v 4= .int .i64 kk)(g:v 12=d)(h:v 13= .int .i64 (c:Int))(i:v 14=(aP cu))(j:v 16=(aP B)):
 (pY 9 Wp).wp (ax U1) (λe a' W'=>e= .normal/\aQ b W'/\∃k:Nat,1<=k/\k<=20/\Cc.Knows a' 196 [(16,(aP B)),(14,(aP cu)),(13,.int .i64 (c:Int)),(12,d),(4,.int .i64 (k:Int))]/\a'.defers=[]) (lz v) b:=by
 unfold lz;rw[l,g,h,i,j];have f:=λb=>NL kk 20 b (by decide) (by decide) m n;unfold pY xz Wp;dsimp only[gB]
 go_wp2_with (go_at_call 9;refine(f _).mono ?_;rintro e s ⟨rfl,r,rfl,o,p⟩)
 obtain⟨a,rfl⟩:=XO o;have q:a<20:=by omega
 refine⟨Vi _ _,a+1,by omega,by omega,Cc.Knows.cons (Cc.Knows.cons (Cc.Knows.cons (Cc.Knows.cons (Cc.Knows.cons (AP Y) ?_) Y) Y) Y) Y⟩;show Xm .i64 (1+(a:Int))= .int .i64 ((a+1:Nat):Int);rw[show 1+(a:Int)=((a+1:Nat):Int) by omega]
def RU(a:F)(v:Nat->U){cu b B fb k n:Nat}{c:U}(m:v 4= .int .i64 (k:Int))(g:v 12=c)(h:v 13= .int .i64 (b:Int))(i:v 14=(aP cu))(j:v 16=(aP B))(l:v 17=(aP fb))(f:a.cell? ⟨cu,6,K⟩=I (.int .i64 (n:Int))):
 (pY 11 Wp).wp (ax U1) (λe a' W'=>e= .normal/\aQ a W'/\Cc.Knows a' 196 [(18,.int .i64 (n:Int)),(17,(aP fb)),(16,(aP B)),(14,(aP cu)),(13,.int .i64 (b:Int)),(12,c),(4,.int .i64 (k:Int))]/\a'.defers=[]) (lz v) a:=by
 unfold lz;rw[m,g,h,i,j,l];have d:=λa=>tI cu (.int .i64 (n:Int)) a;unfold pY xz Wp;dsimp only[gB]
 go_wp2_with (go_at_call 11;refine(d _ f).mono ?_;rintro e o ⟨rfl,rfl⟩)
 exact⟨Vi _ _,(((((((AP Y).cons Y).cons Y).cons Y).cons Y).cons Y).cons Y).cons Y⟩
def RV(a:F)(v:Nat->U){cu c B fb k n b:Nat}{d:U}(p:v 4= .int .i64 (k:Int))(h:v 12=d)(i:v 13= .int .i64 (c:Int))(j:v 14=(aP cu))(l:v 16=(aP B))(m:v 17=(aP fb))(o:v 18= .int .i64 (n:Int))(g:a.cell? ⟨cu,7,K⟩=I (.int .i64 (b:Int))):
 (pY 12 Wp).wp (ax U1) (λe a' W'=>e= .normal/\aQ a W'/\Cc.Knows a' 196 [(19,.int .i64 (b:Int)),(18,.int .i64 (n:Int)),(17,(aP fb)),(16,(aP B)),(14,(aP cu)),(13,.int .i64 (c:Int)),(12,d),(4,.int .i64 (k:Int))]/\a'.defers=[]) (lz v) a:=by
 unfold lz;rw[p,h,i,j,l,m,o];have f:=λa=>ju cu (.int .i64 (b:Int)) a;unfold pY xz Wp;dsimp only[gB]
 go_wp2_with (go_at_call 12;refine(f _ g).mono ?_;rintro e q ⟨rfl,rfl⟩)
 exact⟨Vi _ _,((((((((AP Y).cons Y).cons Y).cons Y).cons Y).cons Y).cons Y).cons Y).cons Y⟩
end Ec
namespace Cc
open Go Go.Conc
open Go.RowKit (Below)
open Ec (fS aC az gu q7 jx ey bT dK qv bQ Bd aI)
def CL{P0 P:Vb}{Post:U->F->Prop}{b:Vg}{a:Xa}{k:List XR}{cs:List Vg}{w:F}(h:Twins P0 P){l:Nat}{r:Loop}(m:w.heap[l]? =I (.loop r))(o:bf P0 (.loop r))(p:r.state≠.busy)(n:∀s,(r.pending.map Zv).toList++k≠[.code (.refuse s)])(g:DK P0 P Post (b.at a ((r.pending.map Zv).toList++k)) cs (w.putObj l (.loop {r with state:=.exhausted}))):DK P0 P Post (b.at a (.endRangeFunc l::k)) cs w:=by
 intro t x;let f:Vg:={b with roundOf:=K};refine mz (aB:=[]) (tops':=[]) (fr':=b.at a ((r.pending.map Zv).toList++k)) (w':=w.putObj l (.loop {r with state:=.exhausted})) h t Y (λe d=>⟨e.putObj l (.loop {r with state:=.exhausted}),d.un.set l (by simp[pz]),λv=>.one ?_⟩) (λi=>?_) λu y=>g u trivial
 ·have j:=run_endLoop (P:=P0) (w:=Cc.sh v 0 e) (l:=l) (r:=r) (d.at_ l _ m o) p;exact stepR_endRangeFunc (P:=P0) (b:=f) (a:=a) (k:=k) (cs:=[bn]) j
 ·obtain⟨_,s,q⟩:=i;exact n s q
def LY{P0 P:Vb}{Post:U->F->Prop}{b c:Vg}{a:Xa}{todo:List XR}{cs:List Vg}{w:F}{fn:XJ}{v:U}(h:Twins P0 P)(k:b.kind= .normal)(m:a.defers=[])(d:P0.funcs[b.fn]? =I fn)(D:(todo.all (vX P0))=Z)(r:eH P0 c [])(H:I0 c)
 (G:∀e:F,(∀(b:Nat) o,w.heap[b]? =I o->bf P0 o->e.heap[b]? =I o)->(V0 fn a.tmps).run P0 e= .ok v e) (y:Xe P0 P Post (dY w) (c.finish v) cs w):Xe P0 P Post (dY w) {b.at a todo with mode:=.returning} (c::cs) w:=by
 intro A u q E;refine mz (aB:=[c]) (tops':=[]) (fr':=c.finish v) (w':=u) h ⟨⟨λj C=>?_,λx g=>?_,.inl k⟩,λf d=>?_,r.bot⟩ Y (λK n=>⟨K,n.un.two,λO=>.one (step_leave_returned ⟨rfl,m,k,fn,d,G _ λb o p z=>?_⟩)⟩) (λg=>?_) λL _=>y A u q E
 ·have:=Vx.1 D j C;cases j<;>first|exact this|trivial|cases this
 ·have:x∈a.defers:=g;rw[m] at this;cases this
 ·simp at d;subst d;exact r.top
 ·exact n.at_ b o ((q.at_ b (U4.1 p).1).trans p) z
 ·obtain⟨_,s,t⟩:=g;rcases H.2 with⟨M,j,N,J,i⟩|⟨l,J,i⟩
  ·simp[WJ,i] at t
  ·simp[WJ,i] at t
def SH (fn:XJ):XQ:=match fn.body with
 |some (.seq _ (.seq _ (.seq _ (.seq _ (.seq (.seq _ (.block _ c)) _)))))=>c
 |_=>.skip
def C8 (fn:XJ):XQ:=match fn.body with
 |some (.seq _ (.seq _ (.seq _ (.seq _ (.seq _ c)))))=>c
 |_=>.skip
structure Mh(w w':F)(cu gb b5 b6 b7 B:Nat)(most:Int)(iv0:U)(jv:List (U×Int))(q:Array U)(res:List cg×Nat×Nat)(D:Nat):Prop where
 d:w'.heap[D]? =I (.deferred (I []))
 dl:w.heap.size<=D
 c:w'.heap[cu]? =I (.cells (fN q res.2.1 res.2.2) 72 (0,0))
 ex:∃rv nv iv L es',gu w' gb b5 b6 b7 B most rv nv iv L (res.1.map λx=>(x.1:Int)) (jv++es')/\L.map Vy=res.1.map WD/\es'.length=4*res.1.length/\∀b,q7 gb b5 b6 b7 B rv nv iv L (jv++es') b->q7 gb b5 b6 b7 B (.slice K 0 0) (.slice K 0 0) iv0 [] jv b\/w.heap.size<=b
 keep:∀x,x<w.heap.size->¬q7 gb b5 b6 b7 B (.slice K 0 0) (.slice K 0 0) iv0 [] jv x->x≠cu->w'.heap[x]? =w.heap[x]?
 size:w.heap.size<=w'.heap.size
 tape:w'.tape=w.tape
 os:w'.os=w.os
 output:w'.output=w.output
section
variable {Post:U->F->Prop}{cs:List Vg}{w:F}{a:Xa}{c:Vg}{l:List (bQ×Int)}{bs:List Bd}{ah:List Int}{rs:List bT}{kb ck eb ce db:Nat}{dO:Option VI}{cJ lS:Nat->Nat}{co:Option VI}{cb bH aG:Nat}{ro:Option VI}{rb bF aK:Nat}{V:Nat->Nat->List aC}{cm:Nat}{sk:Bool}{cu xb gb b5 b6 b7 b8 B:Nat}{most:Int}{iv:U}{jv:List (U×Int)}{n0 e0:Nat}
def N4(q:FQ l bs ah rs V)(hF:FM w l bs ah rs kb eb dO db cJ lS co cb bH ro rb bF)(T:∀x,sE kb eb db cJ cb rb bs.length ah.length rs.length x->x<cu)(M:gu w gb b5 b6 b7 B most (.slice K 0 0) (.slice K 0 0) iv [] [] jv)(a8:∀b,q7 gb b5 b6 b7 B (.slice K 0 0) (.slice K 0 0) iv [] jv b->cu<b)(ba:¬q7 gb b5 b6 b7 B (.slice K 0 0) (.slice K 0 0) iv [] jv xb)(bA:cu<xb)(a5:jv.length<=20000)(L:nF most []=Z)
 (hc:w.heap[cu]? =I (.cells (fN (dR kb l.length ck eb l.length ce dO bs.length cm co ah.length aG ro rs.length aK sk) n0 e0) 72 (0,0))) (f:w.heap[xb]? =I (.cells #[(aP cu)] 31 (0,0)))
 (g:Knows a 75 [(21,.func (.func 24) #[] #[(aP xb)]),(9,(aP gb)),(8,(aP b8)),(7,(aP b7)),(6,(aP b6)),(5,(aP b5))]) (P:a.defers=[])
 (t:∀a' w' D,Knows a' 75 [(9,(aP gb)),(8,(aP b8))]->a'.defers=[{target:=.collected D,args:= #[]}]->Mh w w' cu gb b5 b6 b7 B most iv jv (dR kb l.length ck eb l.length ce dO bs.length cm co ah.length aG ro rs.length aK sk) (bV sk bs ah rs (aI l.length (ah++rs.map bT.col)) V (nF most) 0 bs.length [] 0) D->Xe (ax U1) U1 Post (dY w') ((base 10).at a' [.code (C8 WX)]) (c::cs) w'):
 Xe (ax U1) U1 Post (dY w) ((base 10).at a [.code (SH WX),.inBlock 0,.code (C8 WX)]) (c::cs) w:=by
 have N:=eX (ax U1) U1 Post;intro bz e n bc;have bl:cu<w.heap.size:=(U4.1 hc).1;have bm:xb<w.heap.size:=(U4.1 f).1;have bi:=n.size;generalize S:qN (base 10).fn a.tmps #[22,23] (fS WX) (jx WX) e.heap.size=h;have y:DV h b5 b6 b7 gb:=by
  rw[<-S];exact⟨rfl,rfl,rfl,rfl,rfl,g.size,g.slot 5 _ Y,g.slot 6 _ Y,g.slot 7 _ Y,g.slot 9 _ Y⟩
 have u:¬((([]:List cg).length:Nat):Int)=most:=by simpa [nF] using L
 have be:recAt h most ([]:List cg).length=h:=by unfold recAt;rw[if_neg u]
 generalize o:(e.alloc (.deferred (I []))).alloc (.loop h)=i;have ao:∀x,x<e.heap.size->i.heap[x]? =e.heap[x]? :=λx f=>by
  rw[<-o];show((e.heap.push _).push _)[x]? =_;rw[VF,if_neg (by simp;omega),VF,if_neg (by omega)]
 have ar:i.heap[e.heap.size]? =I (.deferred (I [])):=by
  rw[<-o];show((e.heap.push _).push _)[e.heap.size]? =_;rw[VF,if_neg (by simp),VF,if_pos Y]
 have au:i.heap[e.heap.size+1]? =I (.loop h):=by
  rw[<-o];show((e.heap.push _).push _)[e.heap.size+1]? =_;rw[VF,if_pos (by simp)]
 have bx:i.heap.size=e.heap.size+2:=by
  rw[<-o];show((e.heap.push _).push _).size=_;simp
 have k:∀x,x<w.heap.size->i.heap[x]? =w.heap[x]? :=λx f=>(ao x (by omega)).trans (n.at_ x f);let G:Nat->Prop:=λx=>x=e.heap.size+1\/x=e.heap.size\/q7 gb b5 b6 b7 B aM aM iv [] jv x;have a0:DM (e.heap.size+1) e.heap.size gb b5 b6 b7 B most h jv [] G i:=by
  refine⟨by rw[be];exact au,ar,aM,aM,iv,[],[],?_,rfl,rfl,λx=>?_⟩
  ·rw[WM];exact M.same λb m=>k b (M.lt m)
  ·rw[WM]
 have A:∀x,G x->cu<x:=λx f=>by
  rcases f with d|d|d
  ·omega
  ·omega
  ·exact a8 x d
 have O:=Bm (Post:=Post) (cu:=cu) (xb:=xb) (n0:=n0) (e0:=e0) (Qx (Post:=Post) (D:=e.heap.size) (l:=e.heap.size+1) (B:=B) (most:=most) (jv:=jv) y a5) L q a0 (λbu a3 bB=>hF.kept (by omega) λx f=>by
  have am:=T x f;exact λbr bb a2=>a3 x (by omega) (λd=>by have:=A x d;omega) (by omega) br ((k x (by omega)).trans bb) a2) (λal d=>by
  have am:=T db (.inr (.inr (.inl ⟨al,rfl⟩)));have:=A db d;omega) (λd=>Nat.lt_irrefl _ (A cu d)) (λd=>by
  rcases d with d|d|d
  ·omega
  ·omega
  ·exact ba d) (by omega) ((k xb bm).trans f) ((k cu bl).trans hc)
 generalize bV sk bs ah rs (aI l.length (ah++rs.map bT.col)) V (nF most) 0 bs.length [] 0=r at O t;subst o;subst S;refine ES bI (g:=.tmp 21) (gf:=24) (cap:= #[(aP xb)]) (g.of Y) (λargs w=>av.call24 args w) (.inl (iW Y Y Y).symm) O (λv E aw z=>?_) (λbv w' d=>by cases d.1) (λw' d=>by cases d.1) (λs d=>?_) (bL Y P (by kernel_rfl)) bc
 ·obtain⟨-,⟨W,a1,a6⟩,a7,a4,b0⟩:=aw;obtain⟨H,aa,bt,bo,bj,U,X,J,ab,ad,ae⟩:=a1;have bk:∀x,W x->q7 gb b5 b6 b7 B aM aM iv [] jv x\/w.heap.size<=x:=λx f=>by
   rcases a6 x f with d|d
   ·rcases d with d|d|d
    ·exact .inr (by omega)
    ·exact .inr (by omega)
    ·exact .inl d
   ·exact .inr (by omega)
  have done:∀C:Loop,Mh w (E.putObj (e.heap.size+1) (.loop C)) cu gb b5 b6 b7 B most iv jv (dR kb l.length ck eb l.length ce dO bs.length cm co ah.length aG ro rs.length aK sk) r e.heap.size:=λC=>by
   have p:∀x,x≠e.heap.size+1->(E.putObj (e.heap.size+1) (.loop C)).heap[x]? =E.heap[x]? :=λx f=>Ya f;refine⟨(p _ (by omega)).trans aa,bi,(p _ (by omega)).trans a4,⟨bt,bo,bj,U,X,J.same λb m=>p b λj=>?_,ab,ad,λb m=>bk b ((ae b).2 (.inr (.inr m)))⟩,λx f a9 u=>?_,by rw[World.putObj_size];omega,z.tape.trans n.tape,z.os.trans n.os,z.output.trans n.output⟩
   ·obtain⟨c,b1,hc⟩:=gu.at_ J m;rw[j,H] at hc;cases hc
   ·refine(p x (by omega)).trans ((a7 x (by omega) (λd=>?_) u).trans (k x f));rcases d with d|d|d
    ·omega
    ·omega
    ·exact a9 d
  have F:Knows ({a with defers:={target:=.collected e.heap.size,args:= #[]}::a.defers}:Xa) 75 [(9,(aP gb)),(8,(aP b8))]:=((g.nil.cons (g.slot 8 _ Y)).cons (g.slot 9 _ Y)).same Y;have Q:({a with defers:={target:=.collected e.heap.size,args:= #[]}::a.defers}:Xa).defers=[{target:=.collected e.heap.size,args:= #[]}]:=by show _::a.defers=_;rw[P]
  refine CL bI H (Hw y _) ?_ ?_ ?_
  ·unfold recAt
   split
   ·intro d;cases d
   ·rw[y.st];intro d;cases d
  ·intro s d;have:=congrArg Ym d;simp at this
  ·intro _ bd;refine Xe.go (own:=dY _) ?_ (λb d=>d) bd;by_cases R:((r.1.length:Nat):Int)=most
   ·have j:recAt (qN (base 10).fn a.tmps #[22,23] (fS WX) (jx WX) e.heap.size) most r.1.length= {qN (base 10).fn a.tmps #[22,23] (fS WX) (jx WX) e.heap.size with state:=.done,pending:=I (.exit 0)}:=by unfold recAt;rw[if_pos R]
    rw[j];refine sP N (k':=[.code (C8 WX)]) Y ?_;exact t _ _ e.heap.size F Q (done _)
   ·have j:recAt (qN (base 10).fn a.tmps #[22,23] (fS WX) (jx WX) e.heap.size) most r.1.length=qN (base 10).fn a.tmps #[22,23] (fS WX) (jx WX) e.heap.size:=by unfold recAt;rw[if_neg R]
    rw[j];refine gM N ?_;exact t _ _ e.heap.size F Q (done _)
 ·rw[enter_at _ av.func24 Y] at d;cases d
end
end Cc
namespace Cc
open Go Go.Conc
open Go.RowKit (Below)
open Ec (fS aC az gu q7 jx ey bT dK qv bQ Bd aI fZ N0 N1 N2 N3 RE Pf G1)
def tO:(U1.info? 44).map (·.size)=I 4:=by kernel_rfl
def Ku:((ax U1).info? 44).map (·.size)=I 4:=by kernel_rfl
def F9:(WX.name == "runtime.NumGoroutine")=U5:=by kernel_rfl
section
variable {Post:U->F->Prop}{cs:List Vg}{w:F}{a:Xa}{c:Vg}
def Qz{l b8 D:Nat}{g f:U}(e:Knows a 75 [(9,(aP l)),(8,(aP b8))])(B:a.defers=[{target:=.collected D,args:= #[]}])(i:w.heap[D]? =I (.deferred (I [])))(q:w.heap[l]? =I (.cells #[.bool U5,g,f,.slice K 0 0] 44 (0,0)))(m:w.heap[b8]? =I (.cells #[.bool U5,.slice K 0 0,.slice K 0 0,.slice K 0 0] 44 (0,0)))(H:g.oneCell'=Z)(F:f.oneCell'=Z)(L:eH (ax U1) c [])(P:I0 c)
 (E:∀w',(∀x,x<w.heap.size->x≠D->x≠b8->w'.heap[x]? =w.heap[x]?)->w.heap.size<=w'.heap.size->w'.tape=w.tape->w'.os=w.os->w'.output=w.output->Xe (ax U1) U1 Post (dY w') (c.finish (.agg #[.bool U5,g,f,.slice K 0 0])) cs w'):
 Xe (ax U1) U1 Post (dY w) ((base 10).at a [.code (C8 WX)]) (c::cs) w:=by
 have h:=eX (ax U1) U1 Post;have T:l<w.heap.size:=(U4.1 q).1;have j:b8<w.heap.size:=(U4.1 m).1;have s:D<w.heap.size:=(U4.1 i).1;have o:D≠b8:=λk=>by rw[k,m] at i;cases i
 refine aJ h ?_;refine bg h [0,1] Y ?_;refine qd h e Y (.agg #[.bool U5,g,f,aM]) (eK (cs:=[.bool U5,g,f,aM]) Y (e.of Y) Tryz.underlying44 Y tO (.inr T) (nP q)) λe=>?_;refine nY h (λW A=>A.elim YJ (λv=>v)) (n:=b8) (by decide) Y Y j (.cells #[.bool U5,g,f,aM] 44) trivial (iy (n:=b8) (off:=0) (v:=.agg #[.bool U5,g,f,aM]) Y (e.of Y) (e.of Y) tO (λX r=>by
  simp[WV] at r;rcases r with rfl|rfl|rfl|rfl
  ·rfl
  ·exact H
  ·exact F
  ·rfl) (ZD j) m (U7 4)) λaa d=>?_
 refine aj h ?_;refine oB h ?_;refine DH λab b=>?_;have S:=U9 (U9 j d.size) b.size;refine pP (by simp only[put_defers];exact B) ((b.at_ D s).trans ((d.at_ D (.inr s) o).trans i)) (by kernel_rfl) Y λV t N C J p M G O=>?_;replace e:=e.same N;have y:t.heap[b8]? =I (.cells #[.bool U5,g,f,aM] 44 (0,0)):=(p b8 S (λk=>o k.symm)).trans ((b.at_ b8 j).trans d.set);refine LY bI Y C av.func10 (by kernel_rfl) L P (λu z=>results_cell_row (P:=ax U1) Tryz.results10 _ u b8 44 _ (0,0) _ (e.slot 8 _ Y) (z b8 _ y trivial) av.underlying44 Y Ku) ?_;exact E t (λx n R Q=>(p x (U9 (U9 n d.size) b.size) R).trans ((b.at_ x n).trans (d.at_ x (.inr n) Q))) (Vm d.size (Vm b.size J)) (M.trans (b.tape.trans d.tape)) (G.trans (b.os.trans d.os)) (O.trans (b.output.trans d.output))
def Mb (B:Nat)(iv:U)(es:List (U×Int))(b:Nat):Prop:=b=B\/iv.ownBlock=I b\/∃f∈es,∃d e,f.1= .slice (I ⟨b,0,K⟩) d e/\0<d
def xI{g d e f B:Nat}{iv:U}{es:List (U×Int)}{b:Nat}(h:q7 g d e f B (.slice K 0 0) (.slice K 0 0) iv [] es b):(b=g\/b=d\/b=e\/b=f)\/Mb B iv es b:=by
 rcases h with h|h|h|h|h|h|h|h|⟨j,i,_⟩|h
 ·exact .inl (.inl h)
 ·exact .inl (.inr (.inl h))
 ·exact .inl (.inr (.inr (.inl h)))
 ·exact .inl (.inr (.inr (.inr h)))
 ·exact .inr (.inl h)
 ·cases h
 ·cases h
 ·exact .inr (.inr (.inl h))
 ·simp at i
 ·exact .inr (.inr (.inr h))
def Uj (w0:F)(cu B:Nat)(most:Int)(iv:U)(jv:List (U×Int))(q:Array U)(d:List cg×Nat×Nat)(f:X6)(w':F):Prop:=
 ∃i h n e g m j k l,f= .returned (.agg #[.bool U5,i,h,aM])/\gu w' m j k l B most i h n e (d.1.map λo=>(o.1:Int)) (jv++g)/\e.map Vy=d.1.map WD/\g.length=4*d.1.length/\(∀b,q7 m j k l B i h n e (jv++g) b->Mb B iv jv b\/w0.heap.size<=b)/\(∀b,b<w0.heap.size->¬Mb B iv jv b->b≠cu->w'.heap[b]? =w0.heap[b]?)/\w'.heap[cu]? =I (.cells (fN q d.2.1 d.2.2) 72 (0,0))/\w0.heap.size<=w'.heap.size
def I7{P:Vb}{b:F}(d:Nat){t:Vc}{f:Xb}{r:Array U}{ps rs:Array Vc}{h:Bool}(g:P.underlying t=I (.func ps rs h)):(Op.equalIn (d+1) t (.func (.func f) #[] r) .nilFunc).run P b= .ok U5 b/\(Op.equalIn (d+1) t (.func (.func f) #[] r) .nilFunc).events P b #[]=#[]:=by
 have e:=X5 g b;constructor<;>simp[Op.equalIn,e]
def Qf{P:Vb}{a:Xa}{o:Ww}{x y:V4}{t k:Vc}{f:Xb}{r:Array U}{ps rs:Array Vc}{l:Bool}(h:o.op= .binOp .eql t x y k)(i:a.eval x= .func (.func f) #[] r)(j:a.eval y= .nilFunc)(d:P.underlying t=I (.func ps rs l)):∀b,(Vw a.eval o).run P b= .ok (.value (.bool U5)) b/\(Vw a.eval o).events P b #[]=#[]:=λb=>by
 have e:(Op.equal t (.func (.func f) #[] r) .nilFunc).run P b= .ok U5 b:=(I7 9999 d).1;have g:(Op.equal t (.func (.func f) #[] r) .nilFunc).events P b #[]=#[]:=(I7 9999 d).2;unfold Vw;constructor<;>simp[h,i,j,binOp,eqGuard,e,g]
end
section
variable {Post:U->F->Prop}{w0:F}{l:List (bQ×Int)}{bs:List Bd}{ah:List Int}{rs:List bT}{kb ck eb ce db:Nat}{dO:Option VI}{cJ lS:Nat->Nat}{co:Option VI}{cb bH aG:Nat}{ro:Option VI}{rb bF aK:Nat}{V:Nat->Nat->List aC}{cm:Nat}{sk:Bool}{cu B:Nat}{most:Int}{iv:U}{jv:List (U×Int)}{n0 e0:Nat}
def tZ(q:FQ l bs ah rs V)(hF:FM w0 l bs ah rs kb eb dO db cJ lS co cb bH ro rb bF)(a7:∀x,sE kb eb db cJ cb rb bs.length ah.length rs.length x->x<cu)(K:ey w0 0 B iv jv)(ca:∀e∈jv,0<=e.2/\e.2<=1000000)(b8:∀b,Mb B iv jv b->cu<b)(b5:jv.length<=20000)(bz:nF most []=Z)
 (hc:w0.heap[cu]? =I (.cells (fN (dR kb l.length ck eb l.length ce dO bs.length cm co ah.length aG ro rs.length aK sk) n0 e0) 72 (0,0))):
 kq (ax U1) U1 Post 10 #[(aP cu),.int .i64 most,.int .i64 0,(aP B)] w0 (Uj w0 cu B most iv jv (dR kb l.length ck eb l.length ce dO bs.length cm co ah.length aG ro rs.length aK sk) (bV sk bs ah rs (aI l.length (ah++rs.map bT.col)) V (nF most) 0 bs.length [] 0)):=by
 intro dp ds a6 cp E bA;have g:=eX (ax U1) U1 Post;have c6:cu<w0.heap.size:=(U4.1 hc).1;have P:∀b,Mb B iv jv b->b<w0.heap.size:=λb d=>by
  rcases d with rfl|d|⟨e,R,a8,ab,r,O⟩
  ·exact(U4.1 K.blk).1
  ·exact(K.own.lt b d).2
  ·obtain⟨dn,d9,dr,k,_,b6⟩:=K.full e R;rw[r] at k;simp only[V7] at k;obtain⟨rfl,rfl,rfl⟩:=k;obtain⟨al,dt,L,d,_⟩:=b6 O;simp only[VY,Xk,and_true] at L;subst L;exact(U4.1 d).1
 refine Xe.go (own:=dY w0) ?_ (λb a=>a) E;rw[enter_at _ Tryz.func10 Y];have ba:=Uu (aP cu) (.int .i64 most) (.int .i64 0) (aP B) 75 (by decide);refine aJ g ?_;refine fQ bI ba Y (N0 WX) _ (Gd λs a=>by cases a) (bL Y Y (by kernel_rfl)) (λv h i ao a4=>N2 h v (i 0 _ Y) (i 1 _ Y) (i 2 _ Y) (i 3 _ Y)) λdf be da T dT d2 dC ci C a1=>?_;obtain⟨⟨bb,au⟩,u,n,o,p,j⟩:=ci;replace u:=C.row.1 u;replace n:=C.row.1 n;replace o:=C.row.1 o;replace p:=C.row.1 p;replace j:=C.row.1 j;generalize be.heap.size=c at*;have d6:c+4<T.heap.size:=(U4.1 j).1;refine aJ g ?_;refine fQ bI bb au (N1 WX) (λh aa J=>(Knows aa 75 [(9,(aP h.heap.size)),(8,(aP (c+4))),(7,(aP (c+3))),(6,(aP (c+2))),(5,(aP (c+1))),(4,(aP c))]/\aa.defers=[])/\Pf h J) (Gd λs a=>by cases a) (bL Y au (by kernel_rfl)) (λv h i ao a4=>by
  have:=N3 h v;rw[i 8 _ Y,i 7 _ Y,i 6 _ Y,i 5 _ Y,i 4 _ Y] at this;exact this) λdk bi dc N d0 cv dD cl b0 a2=>?_
 obtain⟨⟨f,aw⟩,⟨w⟩⟩:=cl;replace w:=b0.row.1 w;generalize bi.heap.size=z at*;have G:∀{b:Nat} {t:Yk},T.heap[b]? =I t->N.heap[b]? =I t:=λ{b t} a=>(a2.at_ b (U4.1 a).1).trans a;replace u:=G u;replace n:=G n;replace o:=G o;replace p:=G p;replace j:=G j;have cn:=cL a1 a2;have c4:c<N.heap.size:=(U4.1 u).1;have d7:T.heap.size<=z:=cv;have d8:z<N.heap.size:=(U4.1 w).1;refine aJ g ?_;refine bg g [0,1,2] Y ?_;refine qd g f Y (aP cu) (bP Y (f.of Y) Tryz.isAgg31 (.inr c4) (gU u Y)) λf=>?_;refine nS (vs:= #[(aP cu)]) (R:=λh v J=>v= .func (.func 24) #[] #[(aP h.heap.size)]/\J=h.alloc (.cells #[(aP cu)] 31)) bI Y Y Y Y (mK (f.of Y)) Tryz.func16 B8 Y (iW Y Y Y).symm (bL Y (by simp only[put_defers];exact aw) (by kernel_rfl)) (λh ao a4=>(fZ cu h).mono λe J ⟨r,k⟩=>⟨by rw[k];exact(Below.refl _ _).alloc (U7 _) _,_,r,rfl,k⟩) λv bj dd A d1 d3 dE c0 b2 a3=>?_;obtain⟨rfl,b1⟩:=c0;generalize c2:bj.heap.size=X at*;have c1:A.heap[X]? =I (.cells #[(aP cu)] 31 (0,0)):=by
  refine b2.row.1 ?_;rw[b1,<-c2];exact Ec.bC _ _
 replace f:=f.put (d:=17) (by decide) (.func (.func 24) #[] #[(aP X)]);refine gw g f λf=>?_;refine aj g ?_;refine aJ g ?_;refine aJ g ?_;refine bg g [0,1] Y ?_;refine bX g f λf=>?_;refine dw g f Y (.bool U5) (Qf Y (f.of Y) Y Tryz.underlying62) λf=>?_;refine aj g ?_;refine cY g U5 (f.of Y) ?_;refine gS g ?_;refine aJ g ?_;refine aJ g ?_;refine bg g [0] Y ?_;refine bX g f λf=>?_;refine aj g ?_;refine fO g ?_;have H:∀{b:Nat} {t:Yk},N.heap[b]? =I t->A.heap[b]? =I t:=λ{b t} a=>(a3.at_ b (U4.1 a).1).trans a;replace n:=H n;replace o:=H o;replace p:=H p;replace j:=H j;replace w:=H w;have m:=cL cn a3;have cs:=m.size;have ee:=a1.size;have Q:∀b,Mb B iv jv b->A.heap[b]? =w0.heap[b]? :=λb d=>m.at_ b (P b d);have b3:ey A 0 B iv jv:=Ec.qZ K (Q B (.inl Y)) (λb _ _ d=>Q b (.inr (.inl d))) (λe R b a8 ab _ r O _=>Q b (.inr (.inr ⟨e,R,a8,ab,r,O⟩)));have bB:gu A z (c+1) (c+2) (c+3) B most aM aM iv [] [] jv:=⟨n,o,p,w,Xj _ _ _ _,λc8 E=>(by simp at E),Xj _ _ _ _,b3,λal L=>(by cases L),λc8 E=>(by simp at E),λd4 d5 el ef al a=>(by simp at a),ca⟩;have c5:c+4<A.heap.size:=(U4.1 j).1;have a0:∀b,q7 z (c+1) (c+2) (c+3) B aM aM iv [] jv b->Mb B iv jv b\/w0.heap.size<=b:=λb d=>by
  rcases xI d with a|a
  ·exact .inr (by omega)
  ·exact .inl a
 refine N4 (b8:=c+4) (B:=B) (n0:=n0) (e0:=e0) q (hF.kept cs λx M=>oJ (m.at_ x (by have:=a7 x M;show x<w0.heap.size;omega))) a7 bB (λb d=>(a0 b d).elim (b8 b) (λa=>by omega)) (λa=>?_) (by omega) b5 bz ((m.at_ cu c6).trans hc) c1 ((((((f.nil.cons (f.slot 5 _ Y)).cons (f.slot 6 _ Y)).cons (f.slot 7 _ Y)).cons (f.slot 8 _ Y)).cons (f.slot 9 _ Y)).cons (f.slot 21 _ Y)) (by simp only[put_defers];exact aw) λdl U D bc b4 bl=>?_
 ·rcases xI a with a|a
  ·omega
  ·have:=P X a;omega
 ·generalize bV sk bs ah rs (aI l.length (ah++rs.map bT.col)) V (nF most) 0 bs.length [] 0=ec at*;obtain⟨ad,du,bk,⟨c9,c7,c3,bd,bt,y,bu,bv,am⟩,ae,dv,br,bm,bo⟩:=bl;have a9:¬q7 z (c+1) (c+2) (c+3) B aM aM iv [] jv (c+4):=λd=>by
   rcases xI d with a|a
   ·omega
   ·have:=P _ a;omega
  have bx:U.heap[c+4]? =I (.cells #[.bool U5,aM,aM,aM] 44 (0,0)):=(ae (c+4) c5 a9 (by omega)).trans j;refine Qz bc b4 ad y.box bx (gO y.rows).2 (gO y.tS).2 a6 cp λem b7 cx cB cf cR=>?_;intro _ W F ch;have S:∀x,x<U.heap.size->x≠D->x≠c+4->W.heap[x]? =U.heap[x]? :=λx M r k=>(F.at_ x (U9 M cx)).trans (b7 x M r k);have a5:w0.heap.size<=W.heap.size:=by have:=F.size;omega
  refine bA _ W ⟨c9,c7,c3,bd,bt,z,c+1,c+2,c+3,rfl,y.same λb d=>S b (y.lt d) (λe=>?_) (λe=>?_),bu,bv,λb d=>(am b d).elim (a0 b) (λa=>.inr (by omega)),λb d cc cd=>?_,(S cu (by omega) (by omega) (by omega)).trans bk,a5⟩ ch ⟨F.tape.trans (cB.trans (br.trans m.tape)),F.os.trans (cf.trans (bm.trans m.os)),F.output.trans (cR.trans (bo.trans m.output)),a5⟩ (lm a6 _)
  ·obtain⟨dq,eh,ar⟩:=gu.at_ y d;rw[e,ad] at ar;cases ar
  ·rw[e] at d;rcases am _ d with a|a
   ·exact a9 a
   ·omega
  ·refine(S b (by omega) (by omega) (by omega)).trans ((ae b (by omega) (λa=>?_) cd).trans (m.at_ b d));rcases xI a with a|a
   ·omega
   ·exact cc a
end
end Cc
namespace Cc
open Go Go.Conc
open Go.RowKit (Below)
open Ec Pk
def Jx{c:F}{d:U}{L:List (List aC×U)}(h1:c.ownsRow 0 55 1 d L.length (L.map WD))(e:∀p∈L,c.ownsRow 0 54 3 p.2 p.1.length (az p.1))(f:∀(i j:Nat) u t g,(L.map WD)[i]? =I u->(L.map WD)[j]? =I t->u.ownBlock=I g->t.ownBlock=I g->i=j):lQ c 0 d (L.map Vy):=by
 refine⟨L.map WD,by rw[VQ];exact h1,λi h a=>?_,f⟩;rw[YI] at a;cases b:L[i]? with
 |none=>rw[b] at a;cases a
 |some p=>
  rw[b] at a;simp only[Xc,VY] at a;subst a;exact⟨p.2,by rw[YI,b];rfl,e p (Wv b)⟩
def Ru(w:F):(Xl 44).run U1 w= .ok (.agg #[.bool U5,.slice K 0 0,.slice K 0 0,.slice K 0 0]) w:=Tryz.zeroValue44 w
def lQ.ce{w l:F}{base:Nat}{v:U}{k:List (List aC)}(h:lQ w base v k)(n:∀(b:Nat) c t,w.heap[b]? =I (.cells c t (0,0))->(t=55\/t=54)->l.heap[b]? =I (.cells c t (0,0))):lQ l base v k:=by
 obtain⟨o,m,r,s⟩:=h;have A:o.length=k.length:=by have:=m.1;simpa using this
 refine⟨o,?_,λx z u=>?_,s⟩
 ·obtain⟨d,h|⟨a,e,f,rfl,g,i,j⟩⟩:=m
  ·exact⟨d,.inl h⟩
  ·exact⟨d,.inr ⟨a,e,f,rfl,g,n a _ _ i (.inl Y),j⟩⟩
 ·obtain⟨y,p,q⟩:=r x z u;refine⟨y,p,?_⟩;obtain⟨d,h|⟨a,e,f,rfl,g,i,j⟩⟩:=q
  ·exact⟨d,.inl h⟩
  ·exact⟨d,.inr ⟨a,e,f,rfl,g,n a _ _ i (.inr Y),j⟩⟩
section
variable {sk:Bool}{bs:List Bd}{ah:List Int}{rs:List bT}{ws:List Bool}{V:Nat->Nat->List aC}
theorem oQ(Go:List cg->Bool):∀(r i:Nat) (pre:List cg) (n:Nat),i+r=bs.length->pre.length<=eM bs i->n<=i->(bV sk bs ah rs ws V Go i r pre n).1.length<=eM bs bs.length/\(bV sk bs ah rs ws V Go i r pre n).2.1<=bs.length/\(bV sk bs ah rs ws V Go i r pre n).2.2<=3
 |0,i,pre,n,d,c,b=>by
  have:i=bs.length:=by omega
  subst this;exact⟨c,b,by simp[bV]⟩
 |r+1,i,pre,n,d,c,b=>by
  have e:i<bs.length:=by omega
  have a:bs[i]? =I bs[i]:=Vf e;have g:=me a;have h:(fL bs ah rs V i).length<=bs[i].rows:=by
   unfold fL;rw[oP a];exact lW _ _ _ _ _
  have f:=qA Go (fL bs ah rs V i) pre;have j:eM bs (i+1)<=eM bs bs.length:=by
   have:=mU bs (i+1);unfold eM at this ⊢;rw[List.take_length];exact this
  simp only[bV]
  split
  ·exact oQ Go r (i+1) pre n (by omega) (by omega) (by omega)
  ·split
   ·split
    ·exact oQ Go r (i+1) _ (n+1) (by omega) (by omega) (by omega)
    ·exact⟨by show(feed Go pre (fL bs ah rs V i)).1.length<=_;omega,by show n+1<=_;omega,by show 0<=3;omega⟩
   ·exact⟨by show pre.length<=_;omega,by show n+1<=_;omega,by show 3<=3;omega⟩
def Tx{k:Nat}{L1 LA:List (List aC×U)}{zr:List (List aC)}{es:List (U×Int)}(G:1<=k)(n:k<=20)(I:(bs.map (·.rows)).sum<=2000)(H:bs.length<=100000)(h1:L1.map Vy=(bV sk bs ah rs ws V (nF (k:Int)) 0 bs.length [] 0).1.map WD)(d:LA.map Vy=(bV sk bs ah rs ws V (λ_=>Z) 0 bs.length [] 0).1.map WD)(i:(bV sk bs ah rs ws V (λ_=>Z) 0 bs.length [] 0).2.2=0->(bV sk bs ah rs ws V (λ_=>Z) 0 bs.length [] 0).1.map WD=zr)(o:∀e∈es,0<=e.2/\e.2<=1000000)(m:es.length<=100000)(j:zr.length<=Vp)(q:∀r∈L1.map Vy,r.length<=Vp)(s:∀r∈LA.map Vy,r.length<=Vp)(t:∀r∈zr,r.length<=Vp):
 DR k (bV sk bs ah rs ws V (nF (k:Int)) 0 bs.length [] 0).2.1 (bV sk bs ah rs ws V (λ_=>Z) 0 bs.length [] 0).2.1 (bV sk bs ah rs ws V (nF (k:Int)) 0 bs.length [] 0).2.2 (bV sk bs ah rs ws V (λ_=>Z) 0 bs.length [] 0).2.2 (L1.map Vy) (LA.map Vy) zr ((bV sk bs ah rs ws V (λ_=>Z) 0 bs.length [] 0).1.map λx=>(x.1:Int)) es:=by
 obtain⟨h,w,y,z,A⟩:=H7 (sk:=sk) (bs:=bs) (ah:=ah) (rs:=rs) (ws:=ws) (V:=V) k bs.length 0 [] 0 (by simp;omega);have l:=zC (sk:=sk) (bs:=bs) (ah:=ah) (rs:=rs) (ws:=ws) (V:=V) bs.length 0 [] 0 (by omega) ZS (λx u=>by simp at u);obtain⟨C,D,E⟩:=oQ (sk:=sk) (bs:=bs) (ah:=ah) (rs:=rs) (ws:=ws) (V:=V) (λ_=>Z) bs.length 0 [] 0 (by omega) (VB _) (VB _);have F:=mU bs bs.length;generalize bV sk bs ah rs ws V (nF (k:Int)) 0 bs.length [] 0=x at*;generalize bV sk bs ah rs ws V (λ_=>Z) 0 bs.length [] 0=B at*;have a:(L1.map Vy).length=x.1.length:=by rw[h1,VQ]
 have c:(LA.map Vy).length=B.1.length:=by rw[d,VQ]
 have p:=h.length_le;refine⟨y,by rw[a];exact w,by rw[a,c];exact p,λb=>z (by rw[<-a];exact b),λb=>?_,?_,λg f=>?_,λb=>d.trans (i b),o,⟨n,by rw[c];omega,j,m,by rw[VQ];omega,by omega,by omega⟩,q,s,t⟩
 ·have:=A (by rw[<-a];exact b);rw[a,c,this];exact⟨rfl,rfl,rfl⟩
 ·rw[a,h1,d];obtain⟨J,v⟩:=h;rw[<-v,V1,List.take_append_of_le_length (by simp),VJ (by simp)]
 ·simp only[VQ] at f;simp only[YR];have:=List.pairwise_iff_getElem.1 l g (g+1) (by omega) f (by omega);omega
end
structure Rx(W:F)(cu B fb ab:Nat)(q:Array U)(m eA:Nat)(rv1 nv1 rvA nvA wv iv:U)(X1 XA zr:List (List aC))(NA:List Int)(es:List (U×Int))(bz:Nat):Prop where
 c:W.heap[cu]? =I (.cells (fN q m eA) 72 (0,0))
 q6:q.size=6
 f1:W.heap[fb]? =I (.cells #[.bool U5,rv1,nv1,.slice K 0 0] 44 (0,0))
 fA:W.heap[ab]? =I (.cells #[.bool U5,rvA,nvA,.slice K 0 0] 44 (0,0))
 r1:lQ W 0 rv1 X1
 rA:lQ W 0 rvA XA
 rz:lQ W bz wv zr
 nA:W.ownsRow 0 3 1 nvA NA.length (bq NA)
 bk:ey W 0 B iv es
def Rx.like{w e:F}{cu B fb i:Nat}{q:Array U}{m k:Nat}{p l r n s iv:U}{f g zr:List (List aC)}{d:List Int}{es:List (U×Int)}{j:Nat}(h:Rx w cu B fb i q m k p l r n s iv f g zr d es j)(a:∀(b:Nat) o,w.heap[b]? =I o->bf (ax U1) o->e.heap[b]? =I o):Rx e cu B fb i q m k p l r n s iv f g zr d es j:=
 ⟨a _ _ h.c trivial,h.q6,a _ _ h.f1 trivial,a _ _ h.fA trivial,lQ.like h.r1 a,lQ.like h.rA a,lQ.like h.rz a,eE h.nA (λb _ c _=>(a b _ c trivial).trans c.symm),qZ h.bk ((a _ _ h.bk.blk trivial).trans h.bk.blk.symm) (λb _ c _=>(a b _ c trivial).trans c.symm) (λu _ b v t _ _ _ c=>(a b _ c trivial).trans c.symm)⟩
def Rx.st{c:F}{cu B fb f:Nat}{q:Array U}{n m p a:Nat}{j g k i l iv:U}{d e zr:List (List aC)}{b:List Int}{es:List (U×Int)}{o:Nat}(h:Rx c cu B fb f q m a j g k i l iv d e zr b es o):Gi c cu B fb f n m p a j g k i l iv d e zr b es:=by
 have r:(fN q m a)[6]? =I (.int .i64 (m:Int)):=by simp[fN,Array.getElem?_append,h.q6]
 have s:(fN q m a)[7]? =I (.int .i64 (a:Int)):=by simp[fN,Array.getElem?_append,h.q6]
 obtain⟨u,t,-,-⟩:=h.rA;exact⟨gU h.c r,gU h.c s,h.f1,h.fA,h.r1.SI.1,h.rA.SI.1,h.rz.SI.1,h.nA,⟨u,t⟩,h.bk⟩
def Kj{Post:U->F->Prop}{a:Xa}{w:F}{cu B fb h k n m j g ab:Nat}{q:Array U}{a5 a3 a6 a4 i iv:U}{u x zr:List (List aC)}{t:List Int}{es:List (U×Int)}(R:Knows a 196 (PI h j n fb B cu g i k))(E:a.defers=[])(y:Rx w cu B fb h q m g a5 a3 a6 a4 i iv u x zr t es ab)(l:DR k n m j g u x zr t es)(al:∀Q,RelB (dY w) w Q->Post (.bool Z) Q):
 Xe (ax U1) U1 Post (dY w) ((base 3).at a [.code (xz 14 Wp)]) [] w:=by
 have p:=eX (ax U1) U1 Post;show Xe _ _ _ _ ((base 3).at _ [.code (.seq (pY 14 Wp) (xz 15 Wp))]) _ _;refine aJ p ?_;refine fQ bI R E (pY 14 Wp) (λc d o=>Knows d 196 ((21,.int .i64 (m:Int))::PI h j n fb B cu g i k)/\d.defers=[]) (Gd λs e=>by cases e) (bL Y E (by kernel_rfl)) (λv c b f r=>RX c v (b 4 _ Y) (b 12 _ Y) (b 13 _ Y) (b 14 _ Y) (b 16 _ Y) (b 17 _ Y) (b 18 _ Y) (b 19 _ Y) (b 20 _ Y) (y.like f).st l) λa8 _ _ bi _ _ _ am _ L=>?_;obtain⟨S,G⟩:=am;have z:=y.like (jZ L);show Xe _ _ _ _ ((base 3).at _ [.code (.seq (pY 15 Wp) (xz 16 Wp))]) _ _;refine aJ p ?_;refine fQ bI S G (pY 15 Wp) (λc d o=>Knows d 196 ((21,.int .i64 (m:Int))::PI h j n fb B cu g i k)/\d.defers=[]) (Gd λs e=>by cases e) (bL Y G (by kernel_rfl)) (λv c b f r=>RY c v (b 4 _ Y) (b 12 _ Y) (b 13 _ Y) (b 14 _ Y) (b 16 _ Y) (b 17 _ Y) (b 18 _ Y) (b 19 _ Y) (b 20 _ Y) (b 21 _ Y) (z.like f).st l) λa9 _ _ bj _ _ _ ao _ M=>?_;obtain⟨T,H⟩:=ao;have A:=z.like (jZ M);show Xe _ _ _ _ ((base 3).at _ [.code (.seq (pY 16 Wp) (xz 17 Wp))]) _ _;refine aJ p ?_;refine fQ bI T H (pY 16 Wp) (λc d o=>Knows d 196 ((21,.int .i64 (m:Int))::PI h j n fb B cu g i k)/\d.defers=[]) (Gd λs e=>by cases e) (bL Y H (by kernel_rfl)) (λv c b f r=>RZ c v (b 4 _ Y) (b 12 _ Y) (b 13 _ Y) (b 14 _ Y) (b 16 _ Y) (b 17 _ Y) (b 18 _ Y) (b 19 _ Y) (b 20 _ Y) (b 21 _ Y) (A.like f).st l) λba _ _ bk _ _ _ ar _ N=>?_;obtain⟨V,I⟩:=ar;have C:=A.like (jZ N);show Xe _ _ _ _ ((base 3).at _ [.code (.seq (pY 17 Wp) (xz 18 Wp))]) _ _;refine aJ p ?_;refine fQ bI V I (pY 17 Wp) (λc d o=>Knows d 196 ((21,.int .i64 (m:Int))::PI h j n fb B cu g i k)/\d.defers=[]) (Gd λs e=>by cases e) (bL Y I (by kernel_rfl)) (λv c b f r=>R1 c v (b 4 _ Y) (b 12 _ Y) (b 13 _ Y) (b 14 _ Y) (b 16 _ Y) (b 17 _ Y) (b 18 _ Y) (b 19 _ Y) (b 20 _ Y) (b 21 _ Y) (C.like f).st l) λbb _ _ bl _ _ _ au _ O=>?_;obtain⟨W,J⟩:=au;have D:=C.like (jZ O);show Xe _ _ _ _ ((base 3).at _ [.code (.seq (pY 18 Wp) (xz 19 Wp))]) _ _;refine aJ p ?_;refine fQ bI W J (pY 18 Wp) (λc d o=>Knows d 196 (Tw h B g i)/\d.defers=[]) (Gd λs e=>by cases e) (bL Y J (by kernel_rfl)) (λv c b f r=>R2 c v (b 12 _ Y) (b 13 _ Y) (b 16 _ Y) (b 17 _ Y) (b 20 _ Y) (D.like f).st l) λbc _ _ bm _ _ _ aw _ P=>?_;obtain⟨X,K⟩:=aw;have ad:=D.like (jZ P);refine JM bI X K (xz 19 Wp) (λc d o=>Knows d 196 [(10,.bool Z)]/\d.defers=[]) (λs e=>by simp at e) (bL Y K (by kernel_rfl)) (λv c b f r=>PJ c v (b 12 _ Y) (b 13 _ Y) (b 16 _ Y) (b 20 _ Y) (b 22 _ Y) (ad.like f).st l) λbd _ _ bo be _ _ _ a0 _ a1=>?_;obtain⟨aa,ae⟩:=a0;exact Rt (by kernel_rfl) Y ae Tryz.func3 (iM Tryz.results3 (aa.slot 10 _ Y)) λa7 a2=>al a7 (cL (cL (cL (cL (cL (cL (cL L M) N) O) P) a1) (RelB.refl _ _)) a2)
end Cc
end Go.Proofs.YtjidbonhhpkljabGreat
