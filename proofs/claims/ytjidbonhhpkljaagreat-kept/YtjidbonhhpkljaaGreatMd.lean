/- What the proof stands on, in short names. -/
import Derived.Test.YtjidbonhhpkljaaGreatMc
import Derived.RangeFuncRecord
import Derived.RangeFuncIn
import Derived.Deep.CutRange
set_option linter.all false
open Array renaming getD_eq_getD_getElem?->UD,getElem?_eq_getElem->UU,getElem?_eq_some_iff->Ua,length_toList->V9,replicate->U3
open Bool renaming and_eq_true->Uv,false->T5,false_eq_true->UA,or_eq_true->WS,true->Z
open False renaming elim->Yq
open Go renaming Act->V5,Addr->UJ,Calls->UB,Code->WU,Ending->Xa,Frame->Us,Func->WC,FuncId->V6,Item->WM,Oper->Vu,Operand->U6,Program->Ue,Sem->Wu,TypeId->Ug,TypeInfo->Xg,Value->U,World->F,bodyPost->VR,execOp->UH,heap_alloc_new->V3,heap_setCell_other->Ut,heap_setCell_same->Uq,info_parts->Ve,lt_of_block->Ud,maxLen->Up,results->UX,step_append_lies->WK,undef->Vk,yielded->Vj,zeroValue->Wn
open Go.Act renaming put->UW
open Go.Addr renaming add_lit->VL,add_mid->Xc
open Go.Addr.mk renaming injEq->Wh
open Go.ByteArray renaming toList_eq->XJ
open Go.Conc renaming G->Uf
open Go.Deferred renaming ofValue->XN
open Go.Extern renaming find->YB
open Go.Extern.BytealgCompare renaming compare->Xy
open Go.Extern.Bytes renaming bytesOf->YL,loadBytes->YJ
open Go.Extern.ReflectliteType renaming rows->Yn
open Go.Extern.RuntimeError renaming boundsError->YR,boundsErrorFmts->YO,boundsNegErrorFmts->YM,described->YD,pkgpathOf->YE,rows->Va,text->YI,typeAssertionError->Ys,unhashableTypeError->Yo
open Go.Extern.RuntimeError.boundsError renaming match_1->YK
open Go.Frame renaming enter->UY,finish_at->XG,round->WW
open Go.IntKind renaming i64->XM,u64->Wl,wrap_i64->WX
open Go.Lib renaming size_eq->X4
open Go.Proofs.Tryz renaming f116->VG,f117->XP,f19->Wc,f78->U2,f79->Wy,isAgg3->Yv,prog->T9,sizeOf3->X5,underlying115->WE,underlying139->V7,underlying160->WG,underlying43->Wz
open Go.Region renaming binds->Vn,ready->UZ,wanted->UF
open Go.Region.linearise renaming go->U9
open Go.RowKit renaming intOf->US,wrap64->Vb
open Go.RowKit.Below renaming heap_alloc->UN,refl->Uo
open Go.Sem renaming runT_eq->Yd
open Go.Value renaming bool->WN,cells->WH,int->VY,slice->Vg
open Go.Value.slice renaming injEq->VA
open Go.World renaming cell?->Ur,frozen?->UQ,news_of_block->VJ,ownsRow_nil->Vp
open Go.World.grownBy renaming block->Wv
open Go.stepG renaming apply->VN
open Int renaming eq_ofNat_of_zero_le->WB
open List renaming all_eq_true->Uy,append_assoc->UC,append_nil->Wr,drop_eq_getElem_cons->Wo,eq_nil_of_length_eq_zero->Vh,flatMap_append->Vi,flatMap_cons->WR,flatMap_singleton->Vc,getD_eq_getElem?_getD->Uh,getElem?_append_left->Vw,getElem?_append_right->Vo,getElem?_eq_getElem->Ul,getElem?_eq_some_iff->Uz,getElem?_take->V8,getElem_map->Xr,getElem_mem->Ui,getElem_of_mem->Vv,length->XD,length_append->T8,length_cons->VI,length_drop->WZ,length_eq_zero_iff->We,length_map->UG,length_nil->XH,length_take->Vs,map_append->U0,map_cons->Xw,map_singleton->Wp,mem_cons->VM,mem_map->U7,not_mem_nil->XQ,range->UK,setIfInBounds_toArray->Ub,set_cons_succ->Uj,set_cons_zero->Uk,take_append_drop->Ww,take_length->Vf,take_of_length_le->UO,take_succ_eq_append_getElem->Um
open List.cons renaming injEq->Xj
open Nat renaming le_refl->T6,le_trans->Ux,lt_of_lt_of_le->Uc,lt_or_ge->Vy,mul_le_mul->Ws,zero_add->UT,zero_le->UE
open Option renaming bind_eq_some_iff->UR,bind_some->XR,getD_some->V1,isNone_iff_eq_none->V0,map_eq_some_iff->Wq,none->K,some->I
open Option.some renaming injEq->U8
open Prod renaming fst->Uw,snd->VU
set_option maxRecDepth 100000
set_option maxHeartbeats 8000000
namespace Go.Proofs.YtjidbonhhpkljaaGreat
namespace Ec
open Go.RowKit Pk Pm
def Le (k:Int)(b:lA):Prop:=b=cD\/(b.there=Z/\VK k b.least/\VK k b.most/\¬ 0<fo b.least b.most)
def aF (b:lA):Array U:= #[.bool b.there,.bool b.least.null,.int .i64 b.least.n,.string b.least.s,.bool b.most.null,.int .i64 b.most.n,.string b.most.s]
theorem Kp.Rw{r g:Nat}{w:F}(c:w.heap.size<=g):∀(vs:List U) (o:Nat) (a:F),Kp r w a->Kp r w (a.setCells g o vs)
 | [],_,_,b=>b
 |v::e,o,a,b=>Kp.Rw c e (o+1) _ (b.grown (aQ a g o v) (λf d=>by cases d;exact c))
def EI{w:F}{g:Nat}{b:lA}{t:Ug}(h:w.heap[g]? =I (.cells (aF b) t (0,0))):(aM w g 0 (.bool b.there)/\aM w g 1 (.bool b.least.null)/\aM w g 2 (.int .i64 b.least.n)/\aM w g 3 (.string b.least.s)/\aM w g 4 (.bool b.most.null)/\aM w g 5 (.int .i64 b.most.n)/\aM w g 6 (.string b.most.s))/\∀j,w.frozen? ⟨g,j,K⟩=T5:=by
 unfold aF at h;refine⟨⟨?_,?_,?_,?_,?_,?_,?_⟩,λj=>by simp[UQ,h]⟩<;>simp[Ur,h]
def Hv (w:F)(r p:Nat)(s:ByteArray)(k:Int)(e:Xa)(w':F):Prop:=
 Kp r w w'/\((∃a:lA,e= .returned (FD a)/\Le k a/\ai (bytesOf s) p (cm k a)/\p+(cm k a).length<=s.size/\w'.heap[r]? =I (b9 s (p+(cm k a).length)))\/
  (∃b,e= .panicked (eC b)/\∀a:lA,Le k a->¬ai (bytesOf s) p (cm k a)))
def yX(k:Int)(N:k=1\/k=2\/k=3)(r p:Nat)(s:ByteArray)(w:F)(bc:s.size<=Up)(bd:p<=s.size)(h:w.heap[r]? =I (b9 s p)):
 UB aI 131 #[.pointer (I ⟨r,0,K⟩),.int .i64 k] w (Hv w r p s k):=by
 have db:r<w.heap.size:=Ud h;have bt:X ((w.alloc (.cells (aF cD) 141)).heap[r]? =I (b9 s p)):=by
  show _=_;rw[UN _ _ r db];exact h
 have av:X (Kp r w (w.alloc (.cells (aF cD) 141))):=(Kp.refl r w).alloc _;have dd:X (∀p,p<=s.size->∀bi,ai (bytesOf s) p bi->p+bi.length<=s.size):=λp bd bi b=>by have:=gI b (by rw[aj];exact bd);rwa [aj] at this
 clear h;go_enter an.func131,Tryz.ntmps131
 go_wp2_with fail
 refine(BH r p s _ bc bd bt.o).mono ?_;rintro i C ⟨J,⟨dr,rfl,f,ca,b2,b4⟩|⟨x,rfl,t⟩⟩;rotate_left
 ·have y:X (∀e:lA,Le k e->¬ai (bytesOf s) p (cm k e)):=λe f b=>by
   rcases f with rfl|⟨u,-⟩
   ·exact t 0 (.inl Y) b
   ·unfold cm at b;rw[if_pos u] at b;exact t 1 (.inr Y) (ax.1 b).1
  have A:X (Kp r w C):=av.o.trans J;clear t J;go_wp2;exact⟨rfl,A.o,.inr ⟨x,rfl,y.o⟩⟩
 ·have A:X (Kp r w C):=av.o.trans J;have V:X (C.heap[w.heap.size]? =I (.cells (aF cD) 141 (0,0))):=Kp.block J (V3 w _) (by omega);have aw:=af b2;have a0:=af ca;clear ca b2 J bt av;rcases f with rfl|rfl
  ·have cn:X (C.there w.heap.size 0 (aF cD).size):=Be V.o;have a3:X ((C.setCells w.heap.size 0 (aF cD).toList).rangeAt w.heap.size 0 (aF cD).toList):=World.rangeAt_setCells_same _ _ _ _ cn.o;obtain⟨⟨co,cp,cs,cu,cv,cx,cR⟩,j⟩:=EI V.o;have c0:=j 0;have c1:=j 1;have c2:=j 2;have c3:=j 3;have c4:=j 4;have c5:=j 5;have c6:=j 6;have ar:X (Hv w r p s k (.returned (.agg (aF cD).toList.toArray)) (C.setCells w.heap.size 0 (aF cD).toList)):=⟨Kp.Rw (T6 _) _ _ _ A.o,.inl ⟨cD,rfl,.inl Y,a0.o,b4,(mw (by omega) _ _ _).trans aw.o⟩⟩;go_wp2;exact A0 Tryz.results131 Y Y a3.o an.underlying141 Y (by kernel_rfl) ar.o
  ·have ad:=af a0.o;clear a0
   go_upto_region 3 with fail
   have br:X (∀d,d.heap[r]? =I (b9 s (p+1))->UB aI 153 #[.pointer (I ⟨r,0,K⟩),.int .i64 k] d λi o=>Kp r d o/\((∃v:aD,i= .returned (.agg (gY v))/\VK k v/\ai (bytesOf s) (p+1) (bf k v)/\p+1+(bf k v).length<=s.size/\o.heap[r]? =I (b9 s (p+1+(bf k v).length)))\/(∃x,i= .panicked (eC x)/\∀v:aD,VK k v->¬ai (bytesOf s) (p+1) (bf k v)))):=λd M=>j3 k N r (p+1) s d bc b4 M
   go_wp2_with fail
   refine(br.o _ aw.o).mono ?_;rintro i q ⟨L,⟨c,rfl,cd,cb,b5,a9⟩|⟨x,rfl,t⟩⟩;rotate_left
   ·have y:X (∀e:lA,Le k e->¬ai (bytesOf s) p (cm k e)):=λe f b=>by
     rcases f with rfl|⟨u,z,-⟩
     ·have:=iD ad.o (show ai (bytesOf s) p [0] from b) Y;simp at this
     ·unfold cm at b;rw[if_pos u] at b;exact t _ z (ax.1 (ax.1 b).2).1
    have D:X (Kp r w q):=A.o.trans L;clear t L;go_wp2;exact⟨rfl,D.o,.inr ⟨x,rfl,y.o⟩⟩
   ·have a2:=af cd;have a1:=af cb;obtain⟨g,be⟩:∃g,g=p+1+(bf k c).length:=⟨_,rfl⟩;have aa:=af be;rw[<-be] at b5 a9;have D:X (Kp r w q):=A.o.trans L;have ao:X (q.heap[w.heap.size]? =I (.cells (aF cD) 141 (0,0))):=Kp.block L V.o (by omega);have dp:w.heap.size<q.heap.size:=Ud ao.o;have bv:X ((q.alloc (.cells (gY c) 59)).heap[r]? =I (b9 s g)):=by
     show _=_;rw[UN _ _ r (by omega)];exact a9
    have bs:X (∀d,d.heap[r]? =I (b9 s g)->UB aI 153 #[.pointer (I ⟨r,0,K⟩),.int .i64 k] d λi o=>Kp r d o/\((∃v:aD,i= .returned (.agg (gY v))/\VK k v/\ai (bytesOf s) g (bf k v)/\g+(bf k v).length<=s.size/\o.heap[r]? =I (b9 s (g+(bf k v).length)))\/(∃x,i= .panicked (eC x)/\∀v:aD,VK k v->¬ai (bytesOf s) g (bf k v)))):=λd M=>j3 k N r g s d bc b5 M;clear cd cb be L a9 br aw V A
    go_upto_region 4 with fail
    go_wp2_with fail
    refine(bs.o _ bv.o).mono ?_;rintro i m ⟨B,⟨a,rfl,cf,cc,da,b3⟩|⟨x,rfl,t⟩⟩;rotate_left
    ·have y:X (∀e:lA,Le k e->¬ai (bytesOf s) p (cm k e)):=λe f b=>by
      rcases f with rfl|⟨u,z,H,-⟩
      ·have:=iD ad.o (show ai (bytesOf s) p [0] from b) Y;simp at this
      ·unfold cm at b;rw[if_pos u] at b;obtain⟨ba,f⟩:=ax.1 (ax.1 b).2;have:=l6 N z a2.o ba a1.o;rw[this] at f;refine t _ H ?_;rw[aa.o];exact f
     have W:X (Kp r w m):=(D.o.alloc _).trans B;clear t B;go_wp2;exact⟨rfl,W.o,.inr ⟨x,rfl,y.o⟩⟩
    ·have bB:=af cf;have bx:=af cc;have bu:=af b3;have W:X (Kp r w m):=(D.o.alloc _).trans B;have bj:X (m.heap[w.heap.size]? =I (.cells (aF cD) 141 (0,0))):=Kp.block B (alloc_old _ (by omega) ao.o) (by omega);have a5:X (m.heap[q.heap.size]? =I (.cells (gY c) 59 (0,0))):=Kp.block B (bk q _) (by omega);have cl:X (∀e:lA,Le k e->ai (bytesOf s) p (cm k e)->e=⟨Z,c,a⟩):=λe f b=>by
      rcases f with rfl|⟨u,z,H,-⟩
      ·have:=iD ad.o (show ai (bytesOf s) p [0] from b) Y;simp at this
      ·unfold cm at b;rw[if_pos u] at b;obtain⟨ba,f⟩:=ax.1 (ax.1 b).2;have a8:=l6 N z a2.o ba a1.o;rw[a8,show p+[1].length+(bf k c).length=g from aa.o.symm] at f;have b0:=l6 N H bB.o f bx.o;obtain⟨dl,df,dk⟩:=e;simp only at u a8 b0;subst u a8 b0;rfl
     have ck:X (ai (bytesOf s) p (cm k ⟨Z,c,a⟩)):=by
      show ai _ _ ([1]++(bf k c++bf k a));refine ax.2 ⟨ad.o,ax.2 ⟨a1.o,?_⟩⟩;rw[show p+[1].length+(bf k c).length=g from aa.o.symm];exact bx.o
     have dq:q.heap.size<m.heap.size:=Ud a5.o;have ap:X (∀d,UB aI 125 #[.agg (gY c),.agg (gY a)] d λi o=>i= .returned (.int .i64 (fo c a))/\aP d o):=λd=>jH c a d;clear cf cc b3 B bs bv D ao
     go_upto_region 5 with fail
     have bm:X (Kp r w (m.alloc (.cells (gY a) 59))):=W.o.alloc _;have ab:X ((m.alloc (.cells (gY a) 59)).heap[r]? =I (b9 s (g+(bf k a).length))):=alloc_old _ (by omega) bu.o;have U:X ((m.alloc (.cells (gY a) 59)).heap[w.heap.size]? =I (.cells (aF cD) 141 (0,0))):=alloc_old _ (by omega) bj.o;have E:X ((m.alloc (.cells (gY a) 59)).heap[q.heap.size]? =I (.cells (gY c) 59 (0,0))):=alloc_old _ (by omega) a5.o;have G:X ((m.alloc (.cells (gY a) 59)).heap[m.heap.size]? =I (.cells (gY a) 59 (0,0))):=bk m _;clear W bu bj a5;generalize m.alloc (.cells (gY a) 59)=ds at*;generalize q.heap.size=ae at*;generalize m.heap.size=al at*;obtain⟨O,P,Q⟩:=cA E.o;obtain⟨R,S,T⟩:=cA G.o;have ch:X (∀d,d.heap[r]? =I (b9 s (g+(bf k a).length))->UB aI 97 #[.pointer (I ⟨r,0,K⟩)] d λi o=>i= .panicked (eC (g+(bf k a).length))/\Kp r d o):=λd M=>(b7 r _ s d M).mono (λi o ⟨z,H⟩=>⟨z,by subst H;exact Kp.refl r _⟩);obtain⟨a7,bb⟩:∃a7,a7=fo c a:=⟨_,rfl⟩;rw[<-bb] at ap;have bl:=af bb;clear bb;by_cases b6:0<a7
     ·go_upto_region 6 with(go_at_call 125;refine(ap.o _).mono ?_;rintro i l ⟨rfl,n⟩;have a4:X (l.heap[ae]? =I (.cells (gY c) 59 (0,0))):=(n.block ae (Ud E.o)).trans E.o;have a6:X (l.heap[al]? =I (.cells (gY a) 59 (0,0))):=(n.block al (Ud G.o)).trans G.o;have am:X (l.heap[w.heap.size]? =I (.cells (aF cD) 141 (0,0))):=(n.block _ (Ud U.o)).trans U.o;have az:X (l.heap[r]? =I (b9 s (g+(bf k a).length))):=(n.block _ (Ud ab.o)).trans ab.o;have au:X (Kp r w l):=bm.o.trans (Kp.cq n);clear O P Q R S T n;obtain⟨O,P,Q⟩:=cA a4.o;obtain⟨R,S,T⟩:=cA a6.o)
      go_wp2_with fail
      refine(ch.o _ az.o).mono ?_;rintro i dc ⟨rfl,b1⟩;have y:X (∀e:lA,Le k e->¬ai (bytesOf s) p (cm k e)):=λe f b=>by
       have c9:=cl.o e f b;subst c9;rcases f with c7|⟨-,-,-,c8⟩
       ·simp[cD] at c7
       ·exact c8 (by rw[bl.o] at b6;exact b6)
      have ci:X (Kp r w dc):=au.o.trans b1;clear b1 O P Q R S T;go_wp2;exact⟨rfl,ci.o,.inr ⟨_,rfl,y.o⟩⟩
     ·go_upto_region 7 with(go_at_call 125;refine(ap.o _).mono ?_;rintro i l ⟨rfl,n⟩;have a4:X (l.heap[ae]? =I (.cells (gY c) 59 (0,0))):=(n.block ae (Ud E.o)).trans E.o;have a6:X (l.heap[al]? =I (.cells (gY a) 59 (0,0))):=(n.block al (Ud G.o)).trans G.o;have am:X (l.heap[w.heap.size]? =I (.cells (aF cD) 141 (0,0))):=(n.block _ (Ud U.o)).trans U.o;have az:X (l.heap[r]? =I (b9 s (g+(bf k a).length))):=(n.block _ (Ud ab.o)).trans ab.o;have au:X (Kp r w l):=bm.o.trans (Kp.cq n);clear O P Q R S T n;obtain⟨O,P,Q⟩:=cA a4.o;obtain⟨R,S,T⟩:=cA a6.o)
      obtain⟨⟨co,cp,cs,cu,cv,cx,cR⟩,j⟩:=EI am.o;have c0:=j 0;have c1:=j 1;have c2:=j 2;have c3:=j 3;have c4:=j 4;have c5:=j 5;have c6:=j 6;have bA:X (l.there w.heap.size 0 (aF ⟨Z,c,a⟩).size):=(show l.there w.heap.size 0 7 from Be am.o);have a3:X ((l.setCells w.heap.size 0 (aF ⟨Z,c,a⟩).toList).rangeAt w.heap.size 0 (aF ⟨Z,c,a⟩).toList):=World.rangeAt_setCells_same _ _ _ _ bA.o;have bo:X (p+(cm k ⟨Z,c,a⟩).length=g+(bf k a).length):=by
       show p+([1]++(bf k c++bf k a)).length=_;have:=aa.o;simp only[T8,List.length_singleton];omega
      have ar:X (Hv w r p s k (.returned (.agg (aF ⟨Z,c,a⟩).toList.toArray)) (l.setCells w.heap.size 0 (aF ⟨Z,c,a⟩).toList)):=⟨Kp.Rw (T6 _) _ _ _ au.o,.inl ⟨⟨Z,c,a⟩,rfl,.inr ⟨rfl,a2.o,bB.o,by rw[<-bl.o];omega⟩,ck.o,by rw[bo.o];exact da,(mw (by omega) _ _ _).trans (by rw[bo.o];exact az.o)⟩⟩;clear bA;go_wp2;exact A0 Tryz.results131 Y Y a3.o an.underlying141 Y (by kernel_rfl) ar.o
def EE(s:ByteArray)(w:F)(E:s.size<=65536):UB aI 98 #[.string s] w λe w'=>e= .returned (.string s)/\aP w w':=by
 by_cases j:s.size=0
 ·obtain rfl:s=⟨#[]⟩:=ByteArray.ext (Array.eq_empty_of_size_eq_zero j);go_enter an.func98,Tryz.ntmps98;go_wp2;go_ret;exact⟨rfl,Uo _ _⟩
 ·obtain⟨m,g,x,h,y⟩:=Ve an.rF;have u:(aI.info? 5).map (·.size)=I 1:=by rw[g];simp[h]
  have q:aI.cellsOf 5=1:=by simp[Program.cellsOf,g,h]
  obtain⟨a,d⟩:∃a,a=madeCells (VY .u8 0).cells (((s.size:Nat):Int).toNat*m.size):=⟨_,rfl⟩;have A:a.size=s.size:=by rw[d,size_madeCells,h];simp
  have D:∀c:F,(Instr.makeSlice 133 (.int .i64 (s.size:Int)) (.int .i64 (s.size:Int))).run aI c= .ok (.slice (I ⟨c.heap.size,0,K⟩) s.size s.size) (c.alloc (.cells a 5)):=λc=>by
   have i:=run_make (P:=aI) c 133 5 m (.int .u8 0) an.underlying133 g x .i64 .i64 (s.size:Int) (s.size:Int) (by omega) (by omega) (by rw[y];omega) (by omega);rw[<-d] at i;simpa using i
  clear d;have r:=Lib.run_copy_row_string (P:=aI) (w.alloc (.cells a 5)) 133 9 3 5 w.heap.size 0 s.size s.size s a 5 an.underlying133 u (V3 w _) (T6 _) (by omega);obtain⟨b,f⟩:∃b,b=(a.toList.take 0++Lib.byteCells s.data.toList++a.toList.drop (0+s.size)).toArray:=⟨_,rfl⟩;rw[<-f] at r;have k:b.toList=Lib.byteCells s.data.toList:=by
   rw[f,List.toList_toArray,List.take_zero,List.nil_append,List.drop_of_length_le (by rw[V9];omega),Wr]
  have B:b.size=s.size:=by rw[<-V9,k,Lib.byteCells_length,<-X4]
  have l:((w.alloc (.cells a 5)).setRow w.heap.size b).heap[w.heap.size]? =I (.cells b 5 (0,0)):=setRow_heap _ _ a _ 5 (0,0) (V3 w _);have t:s.data.toList≠[]:=λe=>j (by rw[X4,e];rfl);have n:=Lib.run_unsafeString_row (P:=aI) ((w.alloc (.cells a 5)).setRow w.heap.size b) 206 3 9 5 an.underlying206 q w.heap.size b.size (by unfold World.shape?;rw[l]) s.data.toList t (by rw[<-X4];omega) (by rw[<-X4];omega)
   (λz H v=>Lib.cells_of_row l b.size z _ (by rw[UO (by rw[V9];exact T6 _),k];simp[Lib.byteCells,v]))
  rw[<-X4] at n;clear f;go_enter an.func98,Tryz.ntmps98;go_wp2;go_ret;have o:aP w (w.alloc (.cells a 5)):=(Uo _ w).alloc (T6 _) _;have p:Below w.heap.size (w.alloc (.cells a 5)) ((w.alloc (.cells a 5)).setRow w.heap.size b):=⟨rfl,rfl,rfl,by simp,λG C=>setRow_other _ _ _ _ (by omega)⟩;exact⟨rfl,Lib.below_freeze (o.trans p) (p:=⟨w.heap.size,0,K⟩) (T6 _) _⟩
def xU(s:ByteArray)(w:F)(b:s.size<=65536):UB aI 66 #[.string s] w λe w'=>e= .returned (.string s)/\aP w w':=by
 go_enter an.func66,Tryz.ntmps66
 go_wp2_with fail
 refine(EE s _ b).mono ?_;rintro e w' ⟨rfl,a⟩;go_wp2;go_ret;exact⟨rfl,a⟩
def AF(r p:Nat)(s:ByteArray)(w:F)(d:s.size<=Up)(f:p<=s.size)(h:w.heap[r]? =I (b9 s p)):
 UB aI 129 #[.pointer (I ⟨r,0,K⟩)] w λe w'=>Kp r w w'/\((∃b:Nat,e= .returned (.int .u8 (b:Int))/\b<256/\ai (bytesOf s) p [b]/\p+1<=s.size/\w'.heap[r]? =I (b9 s (p+1)))\/
  (∃q,e= .panicked (eC q)/\∀b:Nat,¬ai (bytesOf s) p [b])):=by
 by_cases a:p<s.size
 ·refine(xe r p s w d a h).mono ?_;rintro e w' ⟨rfl,c,rfl⟩;exact⟨(Kp.refl r w).set 1 _ c,.inl ⟨_,rfl,s[p].toNat_lt,dG.2 (sK s p a),a,lU h c⟩⟩
 ·refine(sL r p s w d a f h).mono ?_;rintro e w' ⟨rfl,c,rfl⟩;refine⟨(Kp.refl r w).drewN c,.inr ⟨_,rfl,λb g=>?_⟩⟩;have:=gI g (by rw[aj];exact f);rw[aj] at this;simp at this;omega
def Bt(r p c:Nat)(s:ByteArray)(w:F)(f:s.size<=Up)(g:p<=s.size)(hc:c<=2147483648)(h:w.heap[r]? =I (b9 s p)):
 UB aI 128 #[.pointer (I ⟨r,0,K⟩),.int .i64 (c:Int)] w λe w'=>Kp r w w'/\((∃x:ByteArray,e= .returned (.string x)/\x.size=c/\ai (bytesOf s) p (bytesOf x)/\p+c<=s.size/\w'.heap[r]? =I (b9 s (p+c)))\/
  (∃q,e= .panicked (eC q)/\∀d:List Nat,d.length=c->¬ai (bytesOf s) p d)):=by
 by_cases b:p+c<=s.size
 ·refine(E0 r p c s w f b h).mono ?_;rintro e w' ⟨rfl,a,rfl⟩;refine⟨(Kp.refl r w).set 1 _ a,.inl ⟨_,rfl,by rw[ByteArray.size_extract];omega,?_,b,lU h a⟩⟩;rw[dy];exact List.take_prefix _ _
 ·refine(Bs r p c s w f hc b g h).mono ?_;rintro e w' ⟨rfl,a,rfl⟩;refine⟨(Kp.refl r w).drewN a,.inr ⟨_,rfl,λd j i=>?_⟩⟩;have:=gI i (by rw[aj];exact g);rw[aj] at this;omega
def yh{α d:Type}{f g:α->List d}{l:List α}(h:∀x∈l,f x=g x):l.flatMap f=l.flatMap g:=by
 induction l with
 |nil=>rfl
 |cons x e b=>rw[WR,WR,h x (by simp),b (λc a=>h c (by simp[a]))]
def sD {α:Type}(ok:Nat->α->Prop)(l:List α):Prop:=∀a (b:a<l.length),ok a l[a]
def sD.snoc{α:Type}{ok:Nat->α->Prop}{l:List α}{x:α}(h:sD ok l)(d:ok l.length x):sD ok (l++[x]):=by
 intro b c;rcases Vy b l.length with a|a
 ·rw[List.getElem_append_left a];exact h b a
 ·have:b=l.length:=by simp at c;omega
  subst this;simpa using d
def sD.at{α:Type}{ok:Nat->α->Prop}{l r:List α}{x:α}(h:sD ok (l++x::r)):ok l.length x:=by
 have:=h l.length (by simp);simpa using this
structure Q2{α:Type}(E G:List α->List Nat)(ok:Nat->α->Prop)(B:List Nat)(p:Nat)(C:List Nat)(q cn:Nat)(l:List α):Prop where
 le:l.length<=cn
 Rm:sD ok l
 st:ai B p (E l)
 sc:ai C q (G l)
 IL:∀L:List α,L.length=cn->sD ok L->ai B p (E L)->ai C q (G L)->∃m,L=l++m
def Q2.zero{α:Type}{E G:List α->List Nat}{ok:Nat->α->Prop}{B C:List Nat}{p q cn:Nat}(b:E []=[])(h1:G []=[]):Q2 E G ok B p C q cn []:=
 ⟨UE _,λd c=>by simp at c,by rw[b];exact mS _ _,by rw[h1];exact mS _ _,λa _ _ _ _=>⟨a,rfl⟩⟩
def Q2.next{α:Type}{E G:List α->List Nat}{ok:Nat->α->Prop}{e g:List α->α->List Nat}{B C:List Nat}{p q cn:Nat}{l:List α}(h:Q2 E G ok B p C q cn l)(c:∀l x,E (l++[x])=E l++e l x)(d:∀l x,G (l++[x])=G l++g l x)(k:l.length<cn)
 (L:List α) (hL:L.length=cn) (f:sD ok L) (b:ai B p (E L)) (hc:ai C q (G L)):∃x m,L=(l++[x])++m/\ok l.length x/\ai B (p+(E l).length) (e l x)/\ai C (q+(G l).length) (g l x):=by
 obtain⟨m,rfl⟩:=h.IL L hL f b hc;cases m with
 |nil=>simp at hL;omega
 |cons x a=>
  obtain⟨n,i⟩:=zm c (l++[x]) a;obtain⟨o,j⟩:=zm d (l++[x]) a;refine⟨x,a,by simp,f.at,?_,?_⟩
  ·rw[show l++x::a=l++[x]++a by simp,i,c,UC,ax,ax] at b;exact b.2.1
  ·rw[show l++x::a=l++[x]++a by simp,j,d,UC,ax,ax] at hc;exact hc.2.1
def Q2.more{α:Type}{E G:List α->List Nat}{ok:Nat->α->Prop}{e g:List α->α->List Nat}{B C:List Nat}{p q cn:Nat}{l:List α}(h:Q2 E G ok B p C q cn l)(b:∀l x,E (l++[x])=E l++e l x)(c:∀l x,G (l++[x])=G l++g l x)(o:l.length<cn)
 {x:α} (v:ok l.length x) (s:ai B (p+(E l).length) (e l x)) (hc:ai C (q+(G l).length) (g l x)) (u:∀y,ok l.length y->ai B (p+(E l).length) (e l y)->ai C (q+(G l).length) (g l y)->y=x):Q2 E G ok B p C q cn (l++[x]):=by
 refine⟨by simp;omega,h.Rm.snoc v,by rw[b,ax];exact⟨h.st,s⟩,by rw[c,ax];exact⟨h.sc,hc⟩,?_⟩;intro d k r t n;obtain⟨y,m,a,f,i,j⟩:=h.next b c o d k r t n;rw[u y f i j] at a;exact⟨m,a⟩
def Q2.fail{α:Type}{E G:List α->List Nat}{ok:Nat->α->Prop}{e g:List α->α->List Nat}{B C:List Nat}{p q cn:Nat}{l:List α}(h:Q2 E G ok B p C q cn l)(d:∀l x,E (l++[x])=E l++e l x)(f:∀l x,G (l++[x])=G l++g l x)(j:l.length<cn)
 (o:∀y,ok l.length y->ai B (p+(E l).length) (e l y)->¬ai C (q+(G l).length) (g l y)) (L:List α) (hL:L.length=cn) (k:sD ok L) (n:ai B p (E L)):¬ai C q (G L):=by
 intro i;obtain⟨y,m,r,a,b,c⟩:=h.next d f j L hL k n i;exact o y a b c
def Q2.done{α:Type}{E G:List α->List Nat}{ok:Nat->α->Prop}{B C:List Nat}{p q cn:Nat}{l:List α}(h:Q2 E G ok B p C q cn l)(f:¬l.length<cn):
 l.length=cn/\(∀L:List α,L.length=cn->sD ok L->ai B p (E L)->ai C q (G L)->L=l):=by
 have d:l.length=cn:=by have:=h.le;omega
 refine⟨d,?_⟩;intro L a b e c;obtain⟨m,rfl⟩:=h.IL L a b e c;rw[T8] at a;have:m=[]:=We.1 (by omega);rw[this];simp
structure jP(r q:Nat)(w w':F):Prop where
 os:w'.os=w.os
 tape:w'.tape=w.tape
 output:w'.output=w.output
 size:w.heap.size<=w'.heap.size
 block:∀i,i<w.heap.size->i≠r->i≠q->w'.heap[i]? =w.heap[i]?
def jP.refl(r q:Nat)(w:F):jP r q w w:=⟨rfl,rfl,rfl,T6 _,λ_ _ _ _=>rfl⟩
def jP.trans{r q:Nat}{w e f:F}(h:jP r q w e)(k:jP r q e f):jP r q w f:=
 ⟨k.os.trans h.os,k.tape.trans h.tape,k.output.trans h.output,Ux h.size k.size,λd c a b=>(k.block d (Uc c h.size) a b).trans (h.block d c a b)⟩
def jP.jv{r q:Nat}{w a:F}(h:Kp r w a):jP r q w a:=⟨h.os,h.tape,h.output,h.size,λe d c _=>Wv h e d (λb=>c (by cases b;rfl))⟩
def jP.Ea{r q:Nat}{w a:F}(h:Kp q w a):jP r q w a:=⟨h.os,h.tape,h.output,h.size,λe d _ c=>Wv h e d (λb=>c (by cases b;rfl))⟩
def jP.cq{r q:Nat}{w a:F}(h:aP w a):jP r q w a:=⟨h.os,h.tape,h.output,h.size,λc b _ _=>h.block c b⟩
def jP.alloc{r q:Nat}{w a:F}(h:jP r q w a)(o:Obj):jP r q w (a.alloc o):=h.trans (jP.jv (Kp.alloc (Kp.refl r a) o))
def jP.grown{r q:Nat}{w d e:F}{c:Option Nat}(h:jP r q w d)(k:d.grownBy e c)(l:∀g,c=I g->w.heap.size<=g):jP r q w e:=
 ⟨k.os.trans h.os,k.tape.trans h.tape,k.output.trans h.output,Ux h.size k.size,λa b i j=>(k.block a (Uc b h.size) (λf=>by have:=l a f.symm;omega)).trans (h.block a b i j)⟩
def jP.keep{r q:Nat}{w a:F}(k:jP r q w a){i:Nat}{o:Obj}(h:w.heap[i]? =I o)(h1:i≠r)(b:i≠q):a.heap[i]? =I o:=by
 rw[k.block i (Ud h) h1 b];exact h
def jP.own{r q:Nat}{w d:F}{base e c n:Nat}{v:U}{f:List U}(k:jP r q w d)(h:w.ownsRow base e c v n f)(p:r<base)(o:q<base):d.ownsRow base e c v n f:=by
 refine⟨h.1,?_⟩;rcases h.2 with l|⟨a,g,i,rfl,j,b,m⟩
 ·exact .inl l
 ·refine .inr ⟨a,g,i,rfl,j,?_,m⟩;rw[k.block a (Ud b) (by omega) (by omega)];exact b
def Lc (cs:List bK)(l:List ki)(c:ki):List Nat:=aL c.text.size++cm (cs.getD l.length ⟨⟨#[]⟩,0⟩).kind c.eX
def wJ (cs:List bK)(l:List ki):List Nat:=fj cs l l.length
def uj(cs:List bK)(l:List ki)(c:ki):wJ cs (l++[c])=wJ cs l++Lc cs l c:=by
 unfold wJ;rw[T8,List.length_singleton,vK];have b:fj cs (l++[c]) l.length=fj cs l l.length:=by
  unfold fj;refine yh (λe a=>?_);have a:=List.mem_range.1 a;unfold o7;rw[Uh,Vw a,<-Uh]
 have d:o7 cs (l++[c]) l.length=Lc cs l c:=by
  unfold o7 Lc;rw[Uh (l:=l++[c]),Vo (T6 _)];simp
 rw[b,d]
structure Fl(cs:List bK)(i:Nat)(c:ki):Prop where
 n:c.text.size<2147483648
 b:Le (cs.getD i ⟨⟨#[]⟩,0⟩).kind c.eX
structure eK(cs:List bK)(b:Bd):Prop where
 lo:1<=b.rows
 hi:b.rows<=100
 len:b.chunks.length=cs.length
 each:sD (Fl cs) b.chunks
def I8{k:Int}(l:k=1\/k=2\/k=3){B:List Nat}{p:Nat}{b b':lA}(h:Le k b)(d:Le k b')(c:ai B p (cm k b))(a:ai B p (cm k b')):b=b':=by
 have m:∀{b b':lA},b=cD->b'.there=Z->ai B p (cm k b)->ai B p (cm k b')->False:=by
  rintro b b' rfl w c a;unfold cm at a;rw[if_pos w] at a;have:=iD (show ai B p [0] from c) (ax.1 a).1 Y;simp at this
 rcases h with h|⟨e,r,t,x⟩<;>rcases d with d|⟨f,s,u,y⟩
 ·rw[h,d]
 ·exact(m h f c a).elim
 ·exact(m d e a c).elim
 ·unfold cm at c a;rw[if_pos e] at c;rw[if_pos f] at a;obtain⟨n,i⟩:=ax.1 (ax.1 c).2;obtain⟨o,q⟩:=ax.1 (ax.1 a).2;have g:=l6 l r s n o;rw[g] at i;have j:=l6 l t u i q;obtain⟨z,C,v⟩:=b;obtain⟨A,D,E⟩:=b';simp only at e f g j;rw[e,f,g,j]
def Q1{cs:List bK}{l:List ki}(n:(cs.getD l.length ⟨⟨#[]⟩,0⟩).kind=1\/(cs.getD l.length ⟨⟨#[]⟩,0⟩).kind=2\/(cs.getD l.length ⟨⟨#[]⟩,0⟩).kind=3){B C:List Nat}{p q:Nat}{x y:ki}(g:Fl cs l.length x)(h:Fl cs l.length y)(e:ai B p (Lc cs l x))(f:ai B p (Lc cs l y))(hc:ai C q (bytesOf x.text))(m:ai C q (bytesOf y.text)):y=x:=by
 unfold Lc at e f;obtain⟨i,j⟩:=ax.1 e;obtain⟨k,a⟩:=ax.1 f;have b:=cz (by have:=h.n;omega) (by have:=g.n;omega) k i;rw[b] at a;have c:=I8 n h.b g.b a j;have d:=m8 (iD m hc (by rw[aj,aj,b]));obtain⟨o,s⟩:=x;obtain⟨r,t⟩:=y;simp only at c d;rw[c,d]
def vm.bN{w:F}{base:Nat}{v:U}{l:List bK}(h:w.ownsRow base 63 2 v l.length (eG l)):vm w v l:=by
 rcases h.2 with⟨rfl,g⟩|⟨c,f,j,rfl,k,o,i,m,n,p⟩
 ·have:l=[]:=Vh g;subst this;exact⟨K,0,0,0,rfl,T6 _,⟨λh=>by simp at h,λh=>by simp at h,λb h=>by simp at h,λb h=>by simp at h⟩⟩
 ·have e:=h.cells (g:=c) Y;refine⟨I ⟨c,0,K⟩,c,0,f,rfl,i,⟨λ_=>rfl,λ_=>(h.lt c Y).2,λb d=>?_,λb d=>?_⟩⟩
  ·have:=e _ _ (lP (λa:bK=>[Value.string a.name,VY .i64 a.kind]) 2 (λ_=>rfl) l b d 0 _ Y);simpa [VL] using this
  ·have:=e _ _ (lP (λa:bK=>[Value.string a.name,VY .i64 a.kind]) 2 (λ_=>rfl) l b d 1 _ Y);simpa [VL] using this
def eU (bs:List Bd):Nat:=(bs.map λa=>a.rows).sum
def Gw(bs:List Bd)(b:Bd):eU (bs++[b])=eU bs+b.rows:=by simp[eU]
def Gy(bs:List Bd)(k:Nat)(h:k<bs.length):eU (bs.take (k+1))=eU (bs.take k)+bs[k].rows:=by
 rw[Um h,Gw]
def Ew(bs:List Bd)(h:∀b∈bs,b.rows<=100):eU bs<=bs.length*100:=by
 induction bs with
 |nil=>simp[eU]
 |cons b g d=>
  have f:=h b (by simp);have a:=d (λe c=>h e (by simp[c]));simp[eU] at a ⊢;omega
def tA(bs:List Bd)(h:∀b∈bs,1<=b.rows):bs.length<=eU bs:=by
 induction bs with
 |nil=>simp[eU]
 |cons b g d=>
  have f:=h b (by simp);have a:=d (λe c=>h e (by simp[c]));simp[eU] at a ⊢;omega
def IW (cs:List bK)(es:List Int):Prop:=∀a (b:a<es.length) (c:a<cs.length),bI cs[a].kind es[a]=Z
def IW.snoc{cs:List bK}{es:List Int}(h:IW cs es){e:Int}(f:es.length<cs.length)(b:bI cs[es.length].kind e=Z):IW cs (es++[e]):=by
 intro a c d;rw[List.getElem_append]
 split
 ·exact h a _ _
 ·have:a=es.length:=by simp at c;omega
  subst this;simpa using b
def Pn(w W:F)(v:Nat->U)(g:Nat)(dS:List Int)(co:Option UJ)(G bE cb:Nat)(cs:List bK)(bc:U)(aw:v 2= .slice co dS.length cb)(au:v 11= .pointer (I ⟨g,0,K⟩))(av:v 13= .int .i64 (cs.length:Int))(ck:dS.length<=Up)(bj:(0<dS.length->co=I ⟨G,bE,K⟩)/\(0<dS.length->G<w.heap.size)/\∀j,j<dS.length->aM w G (bE+j) (.int .i64 (dS.getD j 0)))(br:∀x∈dS,lO x)(am:gZ cs)(ad:eL w W g bc cs aO [] 0 aO [] T5):
 (Te Wc).wp aI (λe a' W'=>e= .normal/\∃es b,lB cs es/\eL w W' g bc cs aO [] 0 b es T5/\Cc.Knows a' 156 ((13,v 13)::Sr v)/\a'.defers=[]) (pV v) W:=by
 obtain⟨b1,bu,bx,bA,bB⟩:=Ve an.vC;unfold Up at ck;have c9:1<=cs.length/\cs.length<=8:=⟨am.1,am.2.1⟩;have b3:=af (gu am);have b2:=af br;have ap:=af bj;obtain⟨ca,E,cv,aJ,rfl,da,bm⟩:=vm.bN ad.ah;have cl:ca=I ⟨E,0,K⟩/\cv=0:=by
  rcases ad.ah.2 with⟨e,c8⟩|⟨c7,c3,c6,e,_⟩
  ·omega
  ·have r:=bm.addr (by omega);simp only[VA] at e;rw[e.1] at r;simp only[U8,Wh] at r;exact⟨by rw[e.1,r.1],r.2.1.symm⟩
 obtain⟨rfl,rfl⟩:=cl;clear bm;have bb:=af ad;have b5:=af aw;have b4:=af au;have c1:=af av;unfold pV;rw[aw,au,av];clear br bj ad aw au av am;unfold Te Wc;dsimp only
 go_wp2_with fail
 go_loopw [14] (λC wr=>∃(es:List Int) (b:U),C= .int .i64 (es.length:Int)/\es.length<=cs.length/\IW cs es/\eL w wr g (.slice (I ⟨E,0,K⟩) cs.length aJ) cs aO [] 0 b es T5) (λC _=>cs.length-(US C).toNat)
 case atStart=>exact⟨[],_,rfl,UE _,λC c=>absurd c (by simp),bb.o⟩
 case round=>
  clear bb;obtain⟨es,b,rfl,df,bd,B⟩:=hrel;have a6:=af bd;have aa:=af B;clear bd;by_cases M:es.length<cs.length
  ·obtain⟨c2,c4,dq,c5,bo,db,a0⟩:=vm.bN B.ah;simp only[VA,true_and] at bo;obtain⟨rfl,rfl⟩:=bo;have r:=a0.addr (by omega);simp only[U8,Wh] at r;obtain⟨rfl,rfl,-⟩:=r;have b0:=a0.c1 es.length M;simp only[UT] at b0;have al:=b3.o cs[es.length] (Ui M);have a7:X (∀e∈fq cs[es.length].kind,IW cs (es++[e])):=λe cf=>a6.o.snoc M (OO _ al e cf);have a5:X (∀W:F,UB aI 39 #[.int .i64 cs[es.length].kind] W λe R=>aP W R/\W.heap.size<R.heap.size/\e= .returned (.slice (I ⟨W.heap.size,0,K⟩) (fq cs[es.length].kind).length (fq cs[es.length].kind).length)/\∀j,j<(fq cs[es.length].kind).length->aM R W.heap.size (0+j) (.int .i64 ((fq cs[es.length].kind).getD j 0))):=λW=>Ab _ W al;have dc:=L7 cs[es.length].kind;have dd:0<(fq cs[es.length].kind).length:=by rcases al with c|c|c<;>rw[c]<;>decide
   generalize cs[es.length].kind=kd at*;obtain⟨⟨cx,-,-,y,-⟩,-⟩:=B.cells;have dl:=B.de.size;clear B a0 al
   go_upto_region 14 with(go_at_call 39;refine(a5.o _).mono ?_;rintro e p ⟨be,bt,rfl,bi⟩)
   have ab:=af (aa.o.below be);have i:X (eL w p.drew g (.slice (I ⟨E,0,K⟩) cs.length aJ) cs aO [] 0 b es T5):=ab.o.below ((Uo _ _).drew);have a3:X (I wr.heap.size≠b.ownBlock):=λe=>by have:=(aa.o.eH.lt _ e.symm).2;omega
   have Z:X (wr.heap.size<p.drew.heap.size):=by exact bt
   have a4:X (∀j,j<(fq kd).length->aM p.drew wr.heap.size j (.int .i64 ((fq kd).getD j 0))):=λj ae=>by
    have:=bi j ae;rw[UT] at this;exact this
   have a9:X (∀j,j<(fq kd).length->IW cs (es++[(fq kd).getD j 0])):=λj ae=>a7.o _ (by rw[Uh,Ul ae];exact Ui ae);clear bi bt be cx y b0 a5 a7 aa;generalize wr.heap.size=h at*;by_cases az:es.length<dS.length
   ·obtain rfl:=ap.o.1 (by omega);have bl:=ap.o.2.1 (by omega);have cd:aM p G (bE+es.length) (.int .i64 (dS.getD es.length 0)):=(ab.o.de.cell (p:=⟨G,bE+es.length,K⟩) bl).trans (ap.o.2.2 _ az);have a8:X (lO (dS.getD es.length 0)):=b2.o _ (by rw[Uh,Ul az];exact Ui az);have ba:X (∀W:F,UB aI 23 #[.int .i64 (dS.getD es.length 0),.int .i64 ((fq kd).length:Int)] W λe R=>R=W/\∃ao,e= .returned (.int .i64 ao)/\0<=ao/\ao<((fq kd).length:Int)):=λW=>p9 _ _ W (by omega) (by omega) a8.o.1 a8.o.2;generalize dS.getD es.length 0=dp at*;clear bl
    go_upto_region 16 with(go_at_call 23;refine(ba.o _).mono ?_;rintro e c0 ⟨bv,ao,rfl,cp,dk⟩;rw[bv];clear bv c0;obtain⟨l,rfl⟩:=WB cp)
    clear cd ba;have bs:l<(fq kd).length:=by omega
    have n:=a4.o l bs;have q:=a9.o l bs;replace q:=af q;have y:=i.o.cells.1.2.2.2.1;generalize (fq kd).getD l 0=a at*;refine Un.open_ (λW:F=>aM W g 3 b/\aM W h l (.int .i64 a)) 11 (λ_ _ _ _ _ c=>absurd (And.left c) (λc=>by cases c)) λcn=>?_;have t:(λW:F=>aM W g 3 b/\aM W h l (.int .i64 a)) p.drew:=⟨y,n⟩;clear ab;generalize p.drew=f at*;refine Un.pk 0 ?_;refine Un.pk 1 ?_;refine Un.ld [11] 2 ?_;refine Un.pk 3 ?_;refine Un.pk 4 ?_;refine Un.pk 5 ?_;refine Un.ld [11] 6 ?_;refine Un.on 7 λk d=>?_;go_simp;have D:X (eL w (f.alloc (.cells #[.int .i64 a] 3)) g (.slice (I ⟨E,0,K⟩) cs.length aJ) cs aO [] 0 b es T5):=i.o.below ((Uo _ _).alloc (T6 _) _);have S:=D.o.cells.1.2.2.2.1;have T:(f.alloc (.cells #[.int .i64 a] 3)).cell? ⟨h,l,K⟩=I (.int .i64 a):=(((Uo f.heap.size f).alloc (T6 _) _).cell (p:=⟨h,l,K⟩) Z.o).trans n;refine d.o _ _ (λ_=>⟨S,T⟩) ?_;clear d k t
    try simp only[UW,Ub,Uk,Uj]
    refine Un.one (i:=8) (by kernel_rfl) Y (λk d=>?_);have O:=i.o.eH;have cu:w.heap.size<=f.heap.size:=i.o.de.size;refine WK _ (by rfl) _ _ 22 (by rfl) w.heap.size 3 b1 _ 1 8 an.underlying22 bu bx bA bB Y (by decide) b es.length _ (by rfl) (O.alloc _) ⟨f.heap.size,0,K⟩ 1 1 [.int .i64 a] (by rfl) Y (VJ (bk f _)) (by intro cR Q;simp at Q;subst Q;rfl) (by decide) (by unfold Up;omega) (by omega) (by simp;omega) _ Y ?_;intro s m o P L J a1;have u:=aR.ji (n:=es.length+1) (cap:=m) L J;have N:o.ownsRow w.heap.size 3 1 (.slice (I ⟨s,0,K⟩) (es.length+1) m) (es++[a]).length (bz (es++[a])):=by
     rw[<-eR,T8];exact P
    obtain⟨H,z,V⟩:=i.o.QC u N;have ar:=af H;have a2:=V 3;have A:aM o h l (.int .i64 a):=by
     rw[<-n];unfold Ur;rw[u.fN.block h Z.o a3.o]
    refine d.o _ _ (λ_=>⟨z,A⟩) ?_;clear d k O P L J a1 N u H V
    try simp only[UW,Ub,Uk,Uj]
    have t:(λW:F=>aM W g 3 b/\aM W h l (.int .i64 a)) o:=⟨z,A⟩;refine Un.pk 9 ?_;refine Un.pk 10 ?_;refine Un.on 11 λk d=>?_;go_simp;refine d.o _ _ (λc=>absurd c (by decide)) ?_;clear d k t z A S T a2 y n;refine Un.done (by kernel_rfl) ?_ _
    try simp only[UW,Ub,Uk,Uj]
    clear D i;generalize o.setCell ⟨g,3,K⟩ (.slice (I ⟨s,0,K⟩) (es.length+1) m)=b6 at*;generalize Vg (I ⟨s,0,K⟩) (es.length+1) m=cc at*
    go_wp2_with fail
    go_roundw
    case rel=>exact⟨_,_,by rw[T8];go_num,by rw[T8];exact M,q.o,ar.o⟩
    case measure=>simp[US];omega
   ·have n:=a4.o 0 (by omega);have q:=a9.o 0 (by omega);replace q:=af q
    go_upto_region 16 with fail
    have y:=i.o.cells.1.2.2.2.1;generalize (fq kd).getD 0 0=a at*;refine Un.open_ (λW:F=>aM W g 3 b/\aM W h 0 (.int .i64 a)) 11 (λ_ _ _ _ _ c=>absurd (And.left c) (λc=>by cases c)) λcn=>?_;have t:(λW:F=>aM W g 3 b/\aM W h 0 (.int .i64 a)) p.drew:=⟨y,n⟩;clear ab;generalize p.drew=f at*;refine Un.pk 0 ?_;refine Un.pk 1 ?_;refine Un.ld [11] 2 ?_;refine Un.pk 3 ?_;refine Un.pk 4 ?_;refine Un.pk 5 ?_;refine Un.ld [11] 6 ?_;refine Un.on 7 λk d=>?_;go_simp;have D:X (eL w (f.alloc (.cells #[.int .i64 a] 3)) g (.slice (I ⟨E,0,K⟩) cs.length aJ) cs aO [] 0 b es T5):=i.o.below ((Uo _ _).alloc (T6 _) _);have S:=D.o.cells.1.2.2.2.1;have T:(f.alloc (.cells #[.int .i64 a] 3)).cell? ⟨h,0,K⟩=I (.int .i64 a):=(((Uo f.heap.size f).alloc (T6 _) _).cell (p:=⟨h,0,K⟩) Z.o).trans n;refine d.o _ _ (λ_=>⟨S,T⟩) ?_;clear d k t
    try simp only[UW,Ub,Uk,Uj]
    refine Un.one (i:=8) (by kernel_rfl) Y (λk d=>?_);have O:=i.o.eH;have cu:w.heap.size<=f.heap.size:=i.o.de.size;refine WK _ (by rfl) _ _ 22 (by rfl) w.heap.size 3 b1 _ 1 8 an.underlying22 bu bx bA bB Y (by decide) b es.length _ (by rfl) (O.alloc _) ⟨f.heap.size,0,K⟩ 1 1 [.int .i64 a] (by rfl) Y (VJ (bk f _)) (by intro cR Q;simp at Q;subst Q;rfl) (by decide) (by unfold Up;omega) (by omega) (by simp;omega) _ Y ?_;intro s m o P L J a1;have u:=aR.ji (n:=es.length+1) (cap:=m) L J;have N:o.ownsRow w.heap.size 3 1 (.slice (I ⟨s,0,K⟩) (es.length+1) m) (es++[a]).length (bz (es++[a])):=by
     rw[<-eR,T8];exact P
    obtain⟨H,z,V⟩:=i.o.QC u N;have ar:=af H;have a2:=V 3;have A:aM o h 0 (.int .i64 a):=by
     rw[<-n];unfold Ur;rw[u.fN.block h Z.o a3.o]
    refine d.o _ _ (λ_=>⟨z,A⟩) ?_;clear d k O P L J a1 N u H V
    try simp only[UW,Ub,Uk,Uj]
    have t:(λW:F=>aM W g 3 b/\aM W h 0 (.int .i64 a)) o:=⟨z,A⟩;refine Un.pk 9 ?_;refine Un.pk 10 ?_;refine Un.on 11 λk d=>?_;go_simp;refine d.o _ _ (λc=>absurd c (by decide)) ?_;clear d k t z A S T a2 y n;refine Un.done (by kernel_rfl) ?_ _
    try simp only[UW,Ub,Uk,Uj]
    clear D i;generalize o.setCell ⟨g,3,K⟩ (.slice (I ⟨s,0,K⟩) (es.length+1) m)=b6 at*;generalize Vg (I ⟨s,0,K⟩) (es.length+1) m=cc at*
    go_wp2_with fail
    go_roundw
    case rel=>exact⟨_,_,by rw[T8];go_num,by rw[T8];exact M,q.o,ar.o⟩
    case measure=>simp[US];omega
  ·have ch:es.length=cs.length:=by omega
   clear B
   go_wp2_with fail
   refine⟨es,⟨ch.symm,λC ci=>by rw[Uh,Ul (by omega)];exact a6.o C (by omega) ci⟩,⟨b,aa.o⟩,?_⟩;exact Cc.Knows.cons ((((((((Ak Y (by exact b4.o.symm)).cons Y).cons Y).cons Y).cons (by exact b5.o.symm)).cons Y).cons Y)) Y
def R5 (cs:List bK)(x:List aD):Prop:=∀a (b:a<x.length) (c:a<cs.length),VC cs[a].kind x[a]
def R5.snoc{cs:List bK}{x:List aD}(h:R5 cs x){y:aD}(e:x.length<cs.length)(b:VC cs[x.length].kind y):R5 cs (x++[y]):=by
 intro a c d;rw[List.getElem_append]
 split
 ·exact h a _ _
 ·have:a=x.length:=by simp at c;omega
  subst this;simpa using b
def eL.kept{w W W1:F}{g:Nat}{cv:U}{cs:List bK}{rv:U}{L:List (List aD×U)}{c:Int}{ev:U}{es:List Int}{bo:Bool}{u u':U}{n:Nat}{f:List U}(h:eL w W g cv cs rv L c ev es bo)(a:aR W W1 u u')(b:W.ownsRow w.heap.size 59 3 u n f)(e:∀p∈L,Apart p.2 u):eL w W1 g cv cs rv L c ev es bo:=
 ⟨(a.fN.block _ (Ud h.res) (bw b h.res (by decide))).trans h.res,(a.fN.block _ (Ud h.box) (bw b h.box (by decide))).trans h.box,bF h.ah a (dP h.ah b (by decide)),bF h.rows a (dP h.rows b (by decide)),λp d=>bF (h.each p d) a (e p d),bF h.eH a (dP h.eH b (by decide)),h.de.trans (a.below (λg a=>(b.lt g a).1) h.de.size),h.hg⟩
structure wD(w W:F)(g:Nat)(cv:U)(cs:List bK)(rv:U)(L:List (List aD×U))(ev:U)(es:List Int)(x:List aD)(u:U):Prop where
 md:eL w W g cv cs rv L 0 ev es T5
 own:W.ownsRow w.heap.size 59 3 u x.length (aG x)
 ap:∀p∈L,Apart p.2 u
 typ:R5 cs x
section
variable {w W W1:F}{g:Nat}{cv:U}{cs:List bK}{rv:U}{L:List (List aD×U)}{ev:U}{es:List Int}{x:List aD}{u u':U}
def wD.below(h:wD w W g cv cs rv L ev es x u)(a:aP W W1):wD w W1 g cv cs rv L ev es x u:=⟨h.md.below a,aK h.own a,h.ap,h.typ⟩
def wD.grow(h:wD w W g cv cs rv L ev es x u)(a:aR W W1 u u'){y:aD}(e:W1.ownsRow w.heap.size 59 3 u' (x++[y]).length (aG (x++[y])))(d:x.length<cs.length)(f:VC cs[x.length].kind y):wD w W1 g cv cs rv L ev es (x++[y]) u':=
 ⟨h.md.kept a h.own h.ap,e,λc b=>(h.ap c b).jO (h.md.each c b) a,h.typ.snoc d f⟩
end
def On (cs:List bK)(L:List (List aD×U)):Prop:=∀a∈L,a.1.length=cs.length/\R5 cs a.1
def Po(w W:F)(v:Nat->U)(g:Nat)(raw:List aD)(ro:Option UJ)(rb bh aN:Nat)(cs:List bK)(cv:U)(es:List Int)(ev:U)(h1:v 1= .slice ro raw.length aN)(aw:v 11= .pointer (I ⟨g,0,K⟩))(bj:v 13= .int .i64 (cs.length:Int))(c8:raw.length<=Up)(b1:sI w ro rb bh raw)(bA:∀x∈raw,rB x/\x.s.size<=Up)(ab:gZ cs)(V:eL w W g cv cs aO [] 0 ev es T5):
 (Tg Wc).wp aI (λe a' W'=>e= .normal/\∃L rv,eL w W' g cv cs rv L 0 ev es T5/\On cs L/\L.length*cs.length<=raw.length/\L.length<=150/\Cc.Knows a' 156 (Sr v)/\a'.defers=[]) (pV v) W:=by
 obtain⟨dq,c7,db,dc,dd⟩:=Ve an.mI;obtain⟨dp,Z,df,dk,dl⟩:=Ve an.Mp;unfold Up at c8;have c5:1<=cs.length/\cs.length<=8:=⟨ab.1,ab.2.1⟩;have ch:=af (gu ab);have cf:=af bA;have ci:=af b1;obtain⟨cp,c,dr,aJ,rfl,d5,bu⟩:=vm.bN V.ah;have da:cp=I ⟨c,0,K⟩/\dr=0:=by
  rcases V.ah.2 with⟨e,d2⟩|⟨d1,dv,dO,e,_⟩
  ·omega
  ·have o:=bu.addr (by omega);simp only[VA] at e;rw[e.1] at o;simp only[U8,Wh] at o;exact⟨by rw[e.1,o.1],o.2.1.symm⟩
 obtain⟨rfl,rfl⟩:=da;clear bu;have bb:=af V;have cd:X (∀W rv L (i:Nat) (Z:i<cs.length),eL w W g (.slice (I ⟨c,0,K⟩) cs.length aJ) cs rv L 0 ev es T5->aM W c (i*2+1) (.int .i64 cs[i].kind)):=λW rv L i Z b=>by
  obtain⟨du,dC,eb,dE,bx,d6,bt⟩:=vm.bN b.ah;simp only[VA,true_and] at bx;obtain⟨rfl,rfl⟩:=bx;have o:=bt.addr (by omega);simp only[U8,Wh] at o;obtain⟨rfl,rfl,-⟩:=o;have:=bt.c1 i Z;rwa [UT] at this
 have bc:=af h1;have bd:=af aw;unfold pV;rw[h1,aw,bj];clear bA b1 V h1 aw bj ab;unfold Tg Wc;dsimp only
 go_wp2_with fail
 go_loopw [17,20] (λi _ wr=>∃(L:List (List aD×U)) (rv:U),i= .int .i64 ((L.length*cs.length:Nat):Int)/\L.length*cs.length<=raw.length/\L.length<=150/\On cs L/\eL w wr g (.slice (I ⟨c,0,K⟩) cs.length aJ) cs rv L 0 ev es T5) (λi _ _=>raw.length-(US i).toNat)
 case atStart=>exact⟨[],_,by simp,by simp,by simp,λal b=>absurd b (by simp),bb.o⟩
 case round=>
  clear bb;obtain⟨L,rv,rfl,a2,a0,bo,y⟩:=hrel;have ar:=af bo;obtain⟨C,gO,rfl⟩:=bC y.rows;have Q:=af y;obtain⟨⟨M,ca,-,-,-⟩,-⟩:=y.cells;obtain⟨k,T⟩:∃k,k=L.length*cs.length:=⟨_,rfl⟩;have ao:=af T;have d4:k<=150*8:=by rw[T];exact Ws a0 c5.2
  have dT:XM.wrap ((k:Int)+(cs.length:Int))=((k+cs.length:Nat):Int):=by rw[WX]<;>omega
  rw[<-T] at a2 ⊢;clear bo T;by_cases c2:k+cs.length<=raw.length
  ·by_cases c3:L.length<150
   ·clear y;have d3:(L.length:Int)<150:=by omega
    go_upto_region 21 with fail
    have ba:X (wD w wr g (.slice (I ⟨c,0,K⟩) cs.length aJ) cs (.slice C L.length gO) L ev es [] aO):=⟨Q.o,Vp _ _ _ _,λal p=>(show Apart aO al.2 from .inl Y).symm,λea b=>absurd b (by simp)⟩;clear M ca
    go_wp2_with fail
    go_loopw [18,19,20] (λu i _ wr=>∃x:List aD,i= .int .i64 (x.length:Int)/\x.length<=cs.length/\wD w wr g (.slice (I ⟨c,0,K⟩) cs.length aJ) cs (.slice C L.length gO) L ev es x u) (λ_ i _ _=>cs.length-(US i).toNat)
    case atStart=>exact⟨[],rfl,by simp,ba.o⟩
    case round=>
     clear ba Q;obtain⟨x,rfl,d8,h⟩:=hrel;have O:=af h;by_cases aa:x.length<cs.length
     ·obtain⟨d,c4⟩:∃d,d=k+x.length:=⟨_,rfl⟩;have ae:d<raw.length:=by omega
      have z:=ci.o.below h.md.de;obtain rfl:=z.addr (by omega);have am:=z.c0 _ ae;have a7:=z.c1 _ ae;have a8:=z.c2 _ ae;have a6:=cf.o raw[d] (Ui ae);have bB:=ch.o cs[x.length] (Ui aa);have N:X (∀W:F,UB aI 24 #[.agg #[.bool raw[d].null,.int .i64 raw[d].n,.string raw[d].s],.int .i64 cs[x.length].kind] W λe ds=>aP W ds/\∃a:aD,e= .returned (.agg (gY a))/\VC cs[x.length].kind a):=λW=>uk _ _ W bB a6.1 a6.2;have cn:X (∀(W1 R:F) (a:aD) (u':U),wD w W1 g (.slice (I ⟨c,0,K⟩) cs.length aJ) cs (.slice C L.length gO) L ev es x u18->aR W1 R u18 u'->R.ownsRow w.heap.size 59 3 u' (x++[a]).length (aG (x++[a]))->VC cs[x.length].kind a->wD w R g (.slice (I ⟨c,0,K⟩) cs.length aJ) cs (.slice C L.length gO) L ev es (x++[a]) u'):=λW1 R a u' b c6 c9 q=>b.grow c6 c9 aa q;have av:=cd.o wr _ _ x.length aa h.md;have M:=h.md.cells.1.1;have d0:XM.wrap ((k:Int)+(x.length:Int))=(d:Int):=by rw[WX]<;>omega
      have a4:=h.md.de.size;have s:X (rb<wr.heap.size/\c<wr.heap.size/\g<wr.heap.size):=⟨z.lt (by omega),(h.md.ah.lt c (by simp[Value.ownBlock])).2,Ud h.md.box⟩;have dt:=af a4;generalize cs[x.length].kind=kd at*;generalize raw[d]=n at*;clear h z a6 bB a4 c4
      go_upto_region 24 with fail
      refine Un.open_ (λW:F=>(aM W rb (bh+d*3) (.bool n.null)/\aM W rb (bh+d*3+1) (.int .i64 n.n)/\aM W rb (bh+d*3+2) (.string n.s))/\aM W g 0 (.slice (I ⟨c,0,K⟩) cs.length aJ)/\aM W c (x.length*2+1) (.int .i64 kd)) 15 (λ_ _ _ _ _ b=>absurd (And.left b) (λb=>by cases b)) λd7=>?_;have bm:(λW:F=>(aM W rb (bh+d*3) (.bool n.null)/\aM W rb (bh+d*3+1) (.int .i64 n.n)/\aM W rb (bh+d*3+2) (.string n.s))/\aM W g 0 (.slice (I ⟨c,0,K⟩) cs.length aJ)/\aM W c (x.length*2+1) (.int .i64 kd)) wr.drew:=⟨⟨am,a7,a8⟩,M,av⟩;have P:X (wD w wr.drew g (.slice (I ⟨c,0,K⟩) cs.length aJ) cs (.slice C L.length gO) L ev es x u18):=O.o.below ((Uo _ _).drew);have t:X (∀W,aP wr.drew W->(λW:F=>(aM W rb (bh+d*3) (.bool n.null)/\aM W rb (bh+d*3+1) (.int .i64 n.n)/\aM W rb (bh+d*3+2) (.string n.s))/\aM W g 0 (.slice (I ⟨c,0,K⟩) cs.length aJ)/\aM W c (x.length*2+1) (.int .i64 kd)) W):=λW b=>⟨⟨(b.cell (p:=⟨rb,_,K⟩) s.o.1).trans am,(b.cell (p:=⟨rb,_,K⟩) s.o.1).trans a7,(b.cell (p:=⟨rb,_,K⟩) s.o.1).trans a8⟩,(b.cell (p:=⟨g,0,K⟩) s.o.2.2).trans M,(b.cell (p:=⟨c,_,K⟩) s.o.2.1).trans av⟩;clear O s am a7 a8 M av;generalize wr.drew=m at*;refine Un.pk 0 ?_;refine Un.pk 1 ?_;refine Un.pk 2 ?_;refine Un.pk 3 ?_;refine Un.pk 4 ?_;refine Un.ld [15] 5 ?_;refine Un.pk 6 ?_;refine Un.pk 7 ?_;refine Un.ld [15] 8 ?_;refine Un.pk 9 ?_;refine Un.pk 10 ?_;refine Un.pk 11 ?_;refine Un.ld [15] 12 ?_;refine Un.pair (i:=13) (j:=14) (by kernel_rfl) Y Y (λj f=>?_) (λj f=>?_);rw[if_pos (by kernel_rfl)];go_simp;go_at_call 24;refine(N.o _).mono ?_;rintro e r ⟨l,a,rfl,q⟩;refine f.o _ _ (λ_=>t.o _ l) ?_;clear f j bm
      try simp only[UW,Ub,Uk,Uj]
      refine Un.on 14 λj f=>?_;go_simp;refine f.o _ _ (λ_=>t.o _ (l.trans ((Uo _ _).alloc l.size _))) ?_;clear f j
      try simp only[UW,Ub,Uk,Uj]
      refine Un.on 15 λj f=>?_;go_simp;refine f.o _ _ (λb=>absurd b (by decide)) ?_;clear f j;refine Un.done (by kernel_rfl) ?_ _
      try simp only[UW,Ub,Uk,Uj]
      obtain⟨b4,b5,b6⟩:=qy r (.bool a.null) (.int .i64 a.n) (.string a.s) 59;have be:=af q;have D:X (wD w (r.alloc (.cells (gY a) 59)) g (.slice (I ⟨c,0,K⟩) cs.length aJ) cs (.slice C L.length gO) L ev es x u18):=P.o.below (l.trans ((Uo _ _).alloc l.size _));clear l q;clear P t N;generalize r.alloc (.cells (gY a) 59)=au at*;generalize r.heap.size=cu at*;rotate_left;rw[if_pos (by kernel_rfl)];go_simp;refine f.o _ _ (λ_=>t.o _ ((Uo _ _).alloc (T6 _) _)) ?_;clear f j bm
      try simp only[UW,Ub,Uk,Uj]
      refine Un.on 13 λj f=>?_;go_simp;go_at_call 24;refine(N.o _).mono ?_;rintro e r ⟨l,a,rfl,q⟩;have az:=((Uo m.heap.size m).alloc (T6 _) (.cells #[.bool T5,.int .i64 0,.string ⟨#[]⟩] 59)).trans (l.mono (by simp));have a5:r.heap[m.heap.size]? =I (.cells #[.bool T5,.int .i64 0,.string ⟨#[]⟩] 59 (0,0)):=(l.block _ (by simp)).trans (bk m _);refine f.o _ _ (λ_=>t.o _ az) ?_;clear f j
      try simp only[UW,Ub,Uk,Uj]
      refine Un.on 15 λj f=>?_;obtain⟨cx,cR,c0,c1⟩:=lY a5;obtain⟨b4,b5,b6,bs⟩:=I9 (W:=m) (.bool a.null) (.int .i64 a.n) (.string a.s) a5 az (T6 _);go_simp;refine f.o _ _ (λb=>absurd b (by decide)) ?_;clear f j cx cR c0 c1 a5;refine Un.done (by kernel_rfl) ?_ _
      try simp only[UW,Ub,Uk,Uj]
      have be:=af q;have D:=af (P.o.below bs);clear l q az bs;clear P t N;generalize ((r.setCell ⟨m.heap.size,0,K⟩ (.bool a.null)).setCell ⟨m.heap.size,1,K⟩ (.int .i64 a.n)).setCell ⟨m.heap.size,2,K⟩ (.string a.s)=au at*;generalize m.heap.size=cu at*
      all_goals
       have ad:=D.o.own;have d9:=D.o.md.de.size;have bl:=fB a;have bv:=mV a
       go_upto_region 23 with(at_builtin;refine wpList_append_lies _ Y _ _ 43 Y w.heap.size 59 dq _ 3 32 an.underlying43 c7 db dc dd Y (by decide) _ x.length _ Y (ad.alloc _) ⟨au.heap.size,0,K⟩ 1 1 [.bool a.null,.int .i64 a.n,.string a.s] Y Y (VJ (bk au _)) bl (by decide) (by unfold Up;omega) (by omega) (by simp;omega) _ Y ?_;intro bi S cb J H E a3)
       have G:=aR.ji (n:=x.length+1) (cap:=S) H E;have b0:cb.ownsRow w.heap.size 59 3 (.slice (I ⟨bi,0,K⟩) (x.length+1) S) (x++[a]).length (aG (x++[a])):=by
        rw[jr,bv,T8];exact J
       have ap:=cn.o _ _ a _ D.o G b0 be.o;replace ap:=af ap;clear ad J H E a3 b0 G D b4 b5 b6 bv bl
       go_wp2_with fail
       go_roundw
       case rel=>
        exact⟨_,by rw[T8];go_num,by rw[T8];exact aa,ap.o⟩
       case measure=>simp[US];omega
     ·have b3:x.length=cs.length:=by omega
      obtain⟨B,A,rfl⟩:=bC h.own;have ad:=h.md.rows;obtain⟨⟨-,ca,-,-,-⟩,-⟩:=h.md.cells;have a4:=h.md.de.size;have co:=af h.own;have ck:X (On cs (L++[(x,.slice B x.length A)])):=λal p=>by
       rcases List.mem_append.1 p with p|p
       ·exact ar.o al p
       ·simp only[List.mem_singleton] at p;subst p;exact⟨b3,O.o.typ⟩
      have a9:X ((L++[(x,Vg B x.length A)]).length*cs.length=k+cs.length):=by
       show(L++[(x,Vg B x.length A)]).length*cs.length=k+cs.length;rw[T8,ao.o,Nat.add_mul];simp
      clear h b3
      go_wp2_with (at_builtin;refine wpList_append_lies _ Y _ _ 26 Y w.heap.size 43 dp _ 1 24 an.underlying26 Z df dk dl Y (by decide) _ L.length _ Y (ad.alloc _) ⟨wr.heap.size,0,K⟩ 1 1 [.slice B x.length A] Y Y (VJ (bk wr _)) (by intro u b2;simp at b2;subst b2;rfl) (by decide) (by unfold Up;omega) (by omega) (by simp;omega) _ Y ?_;intro bi S cb J H E a3;have G:=aR.ji (n:=L.length+1) (cap:=S) H E;obtain⟨br,am,cc⟩:=O.o.md.Sl G (x:=x) (u:=.slice B x.length A) co.o (by rw[T8,U0];exact J);have ec:=cc 1;have cl:=af br;clear J H E a3 G br cc)
      go_roundw
      case rel=>
       exact⟨L++[(x,.slice B x.length A)],_,by rw[a9.o];go_num,by rw[a9.o];exact c2,by rw[T8];exact c3,ck.o,cl.o⟩
      case measure=>simp[US];omega
   ·clear y;have a1:L.length*cs.length<=raw.length:=by rw[<-ao.o];exact a2
    go_wp2_with fail
    trace_state
    exact⟨L,⟨_,Q.o⟩,ar.o,a1,a0,(((((((Ak Y (by exact bd.o.symm)).cons Y).cons Y).cons Y).cons Y).cons (by exact bc.o.symm)).cons Y)⟩
  ·clear y;have a1:L.length*cs.length<=raw.length:=by rw[<-ao.o];exact a2
   go_wp2_with fail
   trace_state
   exact⟨L,⟨_,Q.o⟩,ar.o,a1,a0,(((((((Ak Y (by exact bd.o.symm)).cons Y).cons Y).cons Y).cons Y).cons (by exact bc.o.symm)).cons Y)⟩
structure Lj(W:F)(base:Nat)(cv:U)(cs:List bK)(rv:U)(L:List (List aD×U))(ev:U)(es:List Int):Prop where
 ah:W.ownsRow base 63 2 cv cs.length (eG cs)
 rows:W.ownsRow base 43 1 rv L.length (L.map VU)
 each:∀p∈L,W.ownsRow base 59 3 p.2 p.1.length (aG p.1)
 eH:W.ownsRow base 3 1 ev es.length (bz es)
def nu{W:F}{base:Nat}{e:Ug}{a n:Nat}{v:U}{b:List U}(h:W.ownsRow base e a v n b):n<=Up:=by
 rcases h.2 with⟨_,g⟩|⟨f,c,d,_,_,_,j,i,_⟩
 ·omega
 ·omega
def vS{W:F}{base:Nat}{f:U}{L:List (List aD×U)}(h1:W.ownsRow base 43 1 f L.length (L.map VU))(i:∀p∈L,W.ownsRow base 59 3 p.2 p.1.length (aG p.1)):AA W f (L.map Uw):=by
 have m:=h1;rcases h1.2 with⟨rfl,h⟩|⟨c,g,n,rfl,o,j,l,q,r,s⟩
 ·obtain rfl:=Vh h;exact⟨K,0,0,0,rfl,T6 _,λa=>by simp at a,λa=>by simp at a,λb a=>by simp at a⟩
 ·refine⟨I ⟨c,0,K⟩,c,0,g,by rw[UG],by rw[UG];exact l,λ_=>rfl,λ_=>(Ua.1 j).1,λb k=>?_⟩;have e:b<L.length:=by simpa using k
  have d:=m.cells (g:=c) Y b L[b].2 (by simp[e]);rw[Xc] at d;refine⟨_,d,?_⟩;rw[Xr];exact rX.bN (i _ (Ui e))
def uA{k:Int}{v:aD}(l:k=1\/k=2\/k=3)(h:VC k v):fP v k=Z/\rB v:=by
 obtain⟨n,m,s⟩:=v;rcases h with⟨a,b,c⟩|⟨a,f,e,g,i,j⟩
 ·simp only at a b c;subst a b c;exact⟨by simp[fP],⟨by decide,by decide⟩⟩
 ·simp only at a f e g i j;subst a;refine⟨?_,⟨f,e⟩⟩;rcases l with rfl|rfl|rfl
  ·obtain rfl:=g rfl;simp[fP]
  ·obtain⟨d,rfl⟩:=i rfl;rcases d with rfl|rfl<;>simp[fP]
  ·obtain⟨rfl,d⟩:=j rfl;simp[fP];omega
def MJ{cs:List bK}{L:List (List aD×U)}{es:List Int}{e:Nat}(hc:gZ cs)(k:lB cs es)(o:On cs L)(r:L.length<=150)(h1:1<=e)(c:e<=100):mY cs (L.map Uw) es e:=by
 have m:=gu hc;have f:∀a∈L.map Uw,a.length=cs.length/\R5 cs a:=λa d=>by
  obtain⟨q,n,rfl⟩:=U7.1 d;exact o q n
 have j:∀a∈L.map Uw,∀b (g:b<a.length) (c:b<cs.length),fP a[b] cs[b].kind=Z/\rB a[b]:=λa d b g c=>uA (m _ (Ui c)) ((f a d).2 b g c);refine⟨⟨hc,by rw[UG];omega,λs l=>?_⟩,k,h1,c,λa d t p=>?_⟩
 ·have i:=Ui l;exact⟨(f _ i).1,λb h1 c=>(j _ i b h1 c).1⟩
 ·obtain⟨b,h,rfl⟩:=Vv p;exact(j a d b h (by rw[<-(f a d).1];exact h)).2
section
variable {w W:F}{g:Nat}{cv:U}{cs:List bK}{rv:U}{L:List (List aD×U)}{bd:Int}{ev:U}{es:List Int}{bo:Bool}{base b:Nat}
def Lj.set(h:Lj W base cv cs rv L ev es){c:Array U}(a:W.heap[b]? =I (.cells c 50 (0,0)))(i:Nat)(u:U):Lj (W.setCell ⟨b,i,K⟩ u) base cv cs rv L ev es:=
 ⟨fX h.ah a (by decide) _ _,fX h.rows a (by decide) _ _,λe d=>fX (h.each e d) a (by decide) _ _,fX h.eH a (by decide) _ _⟩
def eL.R7(h:eL w W g cv cs rv L bd ev es bo):Lj W w.heap.size cv cs rv L ev es:=⟨h.ah,h.rows,h.each,h.eH⟩
def eL.Tx(h:eL w W g cv cs rv L bd ev es bo)(b':Int):eL w (W.setCell ⟨g,2,K⟩ (.int .i64 b')) g cv cs rv L b' ev es bo:=by
 have a:=h.hg;have m:=h.R7.set h.box 2 (.int .i64 b');exact⟨by rw[Ut _ _ _ _ (by simp;omega)];exact h.res,Uq W g 2 _ _ _ h.box,m.ah,m.rows,m.each,m.eH,dh h.de h.de.size (by omega) _ _,a⟩
def eL.Ty(h:eL w W g cv cs rv L bd ev es bo)(b':Bool):eL w (W.setCell ⟨g,4,K⟩ (.bool b')) g cv cs rv L bd ev es b':=by
 have a:=h.hg;have m:=h.R7.set h.box 4 (.bool b');exact⟨by rw[Ut _ _ _ _ (by simp;omega)];exact h.res,Uq W g 4 _ _ _ h.box,m.ah,m.rows,m.each,m.eH,dh h.de h.de.size (by omega) _ _,a⟩
def fc{c d e f h:U}{t:Ug}(a:W.heap[g]? =I (.cells #[c,d,e,f,h] t (0,0))):(aM W g 0 c/\aM W g 1 d/\aM W g 2 e/\aM W g 3 f/\aM W g 4 h)/\W.frozen? ⟨g,0,K⟩=T5/\W.frozen? ⟨g,1,K⟩=T5/\W.frozen? ⟨g,2,K⟩=T5/\W.frozen? ⟨g,3,K⟩=T5/\W.frozen? ⟨g,4,K⟩=T5:=
 ⟨⟨by simp[Ur,a],by simp[Ur,a],by simp[Ur,a],by simp[Ur,a],by simp[Ur,a]⟩,by simp[UQ,a],by simp[UQ,a],by simp[UQ,a],by simp[UQ,a],by simp[UQ,a]⟩
def eL.fill(h:eL w W g cv cs rv L bd ev es bo):let a:=((((W.setCell ⟨w.heap.size,0,K⟩ cv).setCell ⟨w.heap.size,1,K⟩ rv).setCell ⟨w.heap.size,2,K⟩ (.int .i64 bd)).setCell ⟨w.heap.size,3,K⟩ ev).setCell ⟨w.heap.size,4,K⟩ (.bool bo)
 a.heap[w.heap.size]? =I (.cells #[cv,rv,.int .i64 bd,ev,.bool bo] 50 (0,0))/\Lj a w.heap.size cv cs rv L ev es/\aP w a:=by
 have c:=Uq W w.heap.size 0 _ _ cv h.res;have d:=Uq _ w.heap.size 1 _ _ rv c;have e:=Uq _ w.heap.size 2 _ _ (.int .i64 bd) d;have f:=Uq _ w.heap.size 3 _ _ ev e;have m:=Uq _ w.heap.size 4 _ _ (.bool bo) f;have i:=bS h.de (T6 _) (T6 _) 0 cv;have j:=bS i (T6 _) (T6 _) 1 rv;have k:=bS j (T6 _) (T6 _) 2 (.int .i64 bd);have l:=bS k (T6 _) (T6 _) 3 ev;exact⟨m,((((h.R7.set h.res 0 cv).set c 1 rv).set d 2 (.int .i64 bd)).set e 3 ev).set f 4 (.bool bo),bS l (T6 _) (T6 _) 4 (.bool bo)⟩
end
def Tb (fn:WC):WU:=match fn.body with|some (.seq a _)=>a|_=>.skip
def Tc (fn:WC):WU:=match fn.body with|some (.seq _ (.seq a _))=>a|_=>.skip
def Ti (fn:WC):WU:=match fn.body with|some (.seq _ (.seq _ (.seq _ (.seq _ (.seq _ (.seq _ (.seq _ a)))))))=>a|_=>.skip
def Pg:Wc.body=I (.seq (Tb Wc) (.seq (Tc Wc) (.seq (Td Wc) (.seq (SQ Wc) (.seq (Tf Wc) (.seq (Te Wc) (.seq (Tg Wc) (Ti Wc)))))))):=rfl
def TE (w:F)(n:Nat)(bo:Bool)(e:Xa)(w':F):Prop:=aP w w'/\∃cv cs rv L ev es,∃bd:Nat,e= .returned (.agg #[cv,rv,.int .i64 (bd:Int),ev,.bool bo])/\Lj w' w.heap.size cv cs rv L ev es/\mY cs (L.map Uw) es bd/\L.length*cs.length<=n
def Pp(w W:F)(v:Nat->U)(g:Nat)(cv:U)(cs:List bK)(rv:U)(L:List (List aD×U))(ev:U)(es:List Int)(bd:Int)(bo:Bool)(y:v 3= .int .i64 bd)(z:v 4= .bool bo)(u:v 10= .pointer (I ⟨w.heap.size,0,K⟩))(x:v 11= .pointer (I ⟨g,0,K⟩))(n:lO bd)(c:eL w W g cv cs rv L 0 ev es T5)(B:∀b:Nat,1<=b->b<=100->mY cs (L.map Uw) es b):
 (Ti Wc).wp aI (λe a' W'=>e= .ret/\(∃b:Nat,W'.heap[w.heap.size]? =I (.cells #[cv,rv,.int .i64 (b:Int),ev,.bool bo] 50 (0,0))/\Lj W' w.heap.size cv cs rv L ev es/\aP w W'/\mY cs (L.map Uw) es b)/\Cc.Knows a' 156 [(10,.pointer (I ⟨w.heap.size,0,K⟩))]/\a'.defers=[]) (pV v) W:=by
 obtain⟨s,aJ,rfl⟩:=bC c.ah;obtain⟨D,aN,rfl⟩:=bC c.rows;obtain⟨t,bV,rfl⟩:=bC c.eH;have p:=af c;have q:=af B;have o:X (∀W:F,UB aI 23 #[.int .i64 bd,.int .i64 100] W λe S=>S=W/\∃a,e= .returned (.int .i64 a)/\0<=a/\a<100):=λW=>p9 bd 100 W (by omega) (by omega) n.1 n.2;obtain⟨⟨-,-,E,-,-⟩,h,i,j,k,l⟩:=fc c.box;unfold pV;rw[y,z,u,x];clear y z u x c B n h i k l;unfold Ti Wc;dsimp only
 go_upto_region 28 with(go_at_call 23;refine(o.o _).mono ?_;rintro e H ⟨rfl,a,rfl,Q,R⟩;have P:XM.wrap (1+a)=1+a:=by rw[WX]<;>omega)
 obtain⟨b,d⟩:∃b:Nat,1+a=(b:Int):=⟨(1+a).toNat,by omega⟩;rw[d];have m:X (eL w (H.setCell ⟨g,2,K⟩ (.int .i64 (b:Int))) g (.slice s cs.length aJ) cs (.slice D L.length aN) L (b:Int) (.slice t es.length bV) es T5):=p.o.Tx _;have N:X (mY cs (L.map Uw) es b):=q.o _ (by omega) (by omega);clear p q o E j P Q R d;generalize H.setCell ⟨g,2,K⟩ (.int .i64 (b:Int))=r at*;obtain⟨⟨-,-,-,-,G⟩,h,i,j,k,l⟩:=fc m.o.box;clear h i j k
 go_upto_region 29 with fail
 have f:X (eL w (r.setCell ⟨g,4,K⟩ (.bool bo)) g (.slice s cs.length aJ) cs (.slice D L.length aN) L (b:Int) (.slice t es.length bV) es bo):=m.o.Ty _;clear m G l;generalize r.setCell ⟨g,4,K⟩ (.bool bo)=T at*;obtain⟨⟨ae,al,E,am,G⟩,-⟩:=fc f.o.box;obtain⟨⟨V,Z,aa,ab,ad⟩,h,i,j,k,l⟩:=fc f.o.res;obtain⟨C,A,d⟩:=f.o.fill;have O:=af C;have M:=af A;have J:=af d;clear C A d f
 go_wp2_with fail
 exact⟨⟨b,O.o,M.o,J.o,N.o⟩,Ak Y Y⟩
end Ec
namespace Cc
open Go Go.Conc
section
variable {P0 P:Ue}{Post:U->F->Prop}
def qH(h:Twins P0 P){fr fr':Us}{aE tops' cs:List Us}{w w':F}(ok:eM P0 fr aE)(A:w'.tape=w.tape)(s:∀ws,Mk P0 ws w->∃d,rV ws w d w'/\∀c,Steps P0 (lone fr (aE++[bG]) (sh c 0 ws)) (lone fr' (tops'++[bG]) (sh c 0 d)))(E:¬IV fr')
 (C:eM P0 fr' tops'->Sm w w'->tQ P0 P Post (Uf fr' (tops'++cs)) w'):tQ P0 P Post (Uf fr (aE++cs)) w:=by
 obtain⟨ws,t⟩:=D5 P0 w;obtain⟨d,q,s⟩:=s ws t;refine sW h (Stop:=λf x e=>f=fr'/\x=tops'/\∃c g,e=sh c g d) (λf x e u=>?_) ok t.hp t.un (λc=>⟨fr',tops',_,s c,rfl,rfl,c,0,rfl⟩) (λf x e u2 u G r j=>?_)
 ·obtain⟨rfl,_⟩:=u;exact E
 ·obtain⟨c,g,rfl,rfl,y,l,v⟩:=u;have B:e.heap=d.heap:=show(sh c g e).heap=(sh y l d).heap by rw[v]
  have m:=Qa r q B;have n:u2.os=w'.os:=by
   rw[r.un.os,q.un.os];exact show(sh c g e).os=(sh y l d).os by rw[v]
  have p:u2.output=w'.output:=by
   rw[r.un.output,q.un.output];exact show(sh c g e).output=(sh y l d).output by rw[v]
  have D:AtRel w' u2:=by
   refine⟨u2.drawn,?_⟩;have z:=j.tape.trans A.symm;obtain⟨H,I,J,K,L⟩:=u2;simp only at m n p z;subst m n p z;rfl
  exact Rk (C G ⟨A,n▸j.os,p▸j.output,m▸j.size⟩) D
def Fs (P0 P:Ue)(Post:U->F->Prop)(l:Nat)(args:Array U)(w:F)(R:U->F->Prop):Prop:=
 ∃c:Loop,w.heap[l]? =I (.loop c)/\bn P0 (.loop c)/\args.size=c.params.size/\∀(d:Us) (cs:List Us),eM P0 d []->Qu d->xF P0 w->
  (∀v e,R v e->xF P0 e->Sm w e->eM P0 (d.finish v) []->tQ P0 P Post (Uf (d.finish v) cs) e)->
  eM P0 (WW l c.fn ((c.params.zip args).foldl (λg (f,a)=>g.setIfInBounds f a) c.tmps) c.assign c.body .normal) [d]->tQ P0 P Post (Uf (WW l c.fn ((c.params.zip args).foldl (λg (f,a)=>g.setIfInBounds f a) c.tmps) c.assign c.body .normal) (d::cs)) w
section
variable {b:Us}{a:V5}{k:List WM}{cs:List Us}{w:F}{ops:Array Vu}{i:Nat}{rest:List Nat}{o:Vu}
def MU(h:Twins P0 P){x:U6}{f:Array U6}{ats:Array Ug}{l:Nat}{R:U->F->Prop}(n:ops[i]? =I o)(L:UF o (Vj ops a.tmps)=Z)(A:o.op= .call {callee:=.value x,args:=f,argTypes:=ats})(M:a.eval x= .func (.yield l) #[] #[])
 (hR:Fs P0 P Post l (f.map a.eval) w R) (u:∀v w',R v w'->Sm w w'->Fg P0 P Post (b.at (a.put o.dst v) (.inRegion ops rest::k)) cs w'):Fg P0 P Post (b.at a (.inRegion ops (i::rest)::k)) cs w:=by
 intro q O;obtain⟨c,C,D,H,y⟩:=hR;have E:∀d,Mk P0 d w->∀e,(UH a.eval o).run P0 (sh e 0 d)= .ok (.round l c.fn ((c.params.zip (f.map a.eval)).foldl (λtmps (j,a)=>tmps.setIfInBounds j a) c.tmps) c.assign c.body) (sh e 0 d):=λd g e=>by
  have r:(sh e 0 d).heap[l]? =I (.loop c):=g.at_ l _ C D;have t:=run_yield (P:=P0) (args:=f.map a.eval) r H;unfold UH;simp[A,resolve,XN,M,invoke,t]
 refine qH (aE:=[]) (tops':=[b.at a (.inRegion ops (i::rest)::k)]) (fr':=WW l c.fn ((c.params.zip (f.map a.eval)).foldl (λtmps (j,a)=>tmps.setIfInBounds j a) c.tmps) c.assign c.body .normal) (w':=w) h q Y (λd g=>⟨d,g.un.two,λe=>.one (step_lone_go ?_)⟩) (λz=>?_) λN Q=>?_
 ·rw[stepG_op n L];simp[VN,E d g e]
 ·obtain⟨_,s,J⟩:=z;simp[WW] at J
 ·refine y _ cs q ⟨rfl,.inl ⟨ops,i,rest,k,rfl⟩⟩ trivial (λv w' K B G p=>?_) N;have m:=XG b a ops i rest k v;rw[n] at m;rw[m] at p ⊢;exact u v w' K G p B
end
section
variable {b:Us}{k:List WM}{cs:List Us}{ops:Array Vu}
def Px{o:Vu}{i:Nat}{rest:List Nat}{a:V5}{w:F}{next:V5->F->Prop}{Q:Exit->V5->F->Prop}(n:ops[i]? =I o)(z:UF o (Vj ops a.tmps)=Z)(x:∀c,o.op≠.defer c)(r:∀ch a w,¬Q (.panic ch) a w)(y:¬LetsOut Q)(h:o.wp P0 a w next Q):
 ∃a' w',next a' w'/\Steps P0 (lone (b.atR a (.inRegion ops (i::rest)::k)) cs w) (lone (b.atR a' (.inRegion ops rest::k)) cs w'):=by
 have e:=stepGR_op (P:=P0) (b:=b) (k:=k) (cs:=cs) (w:=w) (rest:=rest) n z;rw[Oper.semAt_eq _ _ _ x] at e;have j:∀v,(b.atR a (.inRegion ops (i::rest)::k)).finish v=b.atR (a.put o.dst v) (.inRegion ops rest::k):=by
  intro v;rw[Frame.finish_atR,n];rfl
 simp only[Oper.wp,Oper.upon] at h
 split at h
 ·rename_i v w' d;refine⟨_,_,h,.one (step_lone_go ?_)⟩;rw[e,<-j];simp[VN,d]
 ·rename_i w' d;refine⟨_,_,h,.one (step_lone_go ?_)⟩;rw[e,<-j];simp[VN,d]
 ·rename_i l w' d;refine⟨_,_,h,.one (step_lone_go ?_)⟩;have t:({b.atR a (.inRegion ops (i::rest)::k) with defers:=l::a.defers}:Us).finish Vk=b.atR ({a with defers:=l::a.defers}.put o.dst Vk) (.inRegion ops rest::k):=by
   have:=Frame.finish_atR b {a with defers:=l::a.defers} ops i rest k Vk;rw[n] at this;exact this
  rw[e];simp only[VN,Yd,d,GStep.bare_after];exact congrArg (λq=>GStep.go {frame:=q,callers:=cs,status:=.running,dying:=K} w') t
 ·rename_i f args w' d;obtain⟨s,B,q,g,p,_,u⟩:=h (b.atR a (.inRegion ops (i::rest)::k)::cs);have m:step P0 (lone (b.atR a (.inRegion ops (i::rest)::k)) cs w)= .next (lone (UY P0 f args .normal) (b.atR a (.inRegion ops (i::rest)::k)::cs) w'):=
   step_lone_go (by rw[e];simp[VN,d,Frame.atR])
  cases s with
  |returned v=>
   refine⟨_,_,g,.head m (p.trans (.one ?_))⟩;rw[<-j];exact step_leave_returned u
  |panicked C=>exact absurd g (r _ _ _)
  |outgrown=>exact absurd g y
 ·rename_i A args w' d;obtain⟨v,B,g,p⟩:=h (b.atR a (.inRegion ops (i::rest)::k)) cs;have m:step P0 (lone (b.atR a (.inRegion ops (i::rest)::k)) cs w)= .next (lone (Frame.ofRow P0 A args .normal) (b.atR a (.inRegion ops (i::rest)::k)::cs) w'):=
   step_lone_go (by rw[e];simp[VN,d,Frame.atR])
  refine⟨_,_,g,.head m ?_⟩;rw[<-j];exact p
 ·exact absurd h (r _ _ _)
 ·exact h.elim
def B4:Op->Bool
 | .defer _=>Z
 |_=>T5
def QE{Q:Exit->V5->F->Prop}(rest:List Nat)(v:(ops.toList.all λo=> !B4 o.op)=Z)(x:∀ch a w,¬Q (.panic ch) a w)(n:¬LetsOut Q):∀(l:List Nat) (a:V5) (w:F),wpOps P0 ops Q l a w->
 ∃a' w',Q .normal a' w'/\Steps P0 (lone (b.atR a (.inRegion ops (l++rest)::k)) cs w) (lone (b.atR a' (.inRegion ops rest::k)) cs w'):=by
 intro l
 induction l with
 |nil=>exact λa w c=>⟨a,w,c,.refl _ _⟩
 |cons i l j=>
  intro a w c;simp only[wpOps] at c;cases d:ops[i]? with
  |none=>
   simp only[d] at c;have g:=stepR_op_skip (P:=P0) (b:=b) (a:=a) (k:=k) (cs:=cs) (w:=w) (ops:=ops) (i:=i) (rest:=l++rest) (by simp[d]);simp only[d,Option.bind_none,UW] at g;obtain⟨a',w',e,f⟩:=j a w c;exact⟨a',w',e,.head g f⟩
  |some o=>
   simp only[d] at c;have t:∀m,o.op≠.defer m:=λm q=>by
    obtain⟨u,rfl⟩:=Ua.1 d;have:=Uy.1 v _ (Array.getElem_mem_toList u);rw[q] at this;cases this
   by_cases h:UF o (Vj ops a.tmps)=Z
   ·simp only[h,if_true] at c;rcases c with c|⟨_,c⟩
    ·obtain⟨a',w',e,f⟩:=Px (b:=b) (k:=k) (cs:=cs) (rest:=l++rest) d h t x n c;obtain⟨p,y,r,s⟩:=j a' w' e;exact⟨p,y,r,f.trans s⟩
    ·exact absurd c n
   ·simp only[h,if_false,UA] at c;have g:=stepR_op_skip (P:=P0) (b:=b) (a:=a) (k:=k) (cs:=cs) (w:=w) (ops:=ops) (i:=i) (rest:=l++rest) (by simp[d];simpa using h);simp only[d,XR] at g;obtain⟨a',w',e,f⟩:=j _ w c;exact⟨a',w',e,.head g f⟩
end
end
section
variable {P0 P:Ue}{Post:U->F->Prop}{b:Us}{a:V5}{k:List WM}{cs:List Us}{w:F}
def A8 (fn:V6)(tmps:Array U)(ps:Array Tmp)(assign body:WU)(D:Nat):Loop:={state:=.ready,pending:=K,fn,tmps,params:=ps,assign,body,defers:=D}
def MT(h:Twins P0 P){g:U6}{ps:Array Tmp}{assign body:WU}{gf:V6}{cap:Array U}{R:Xa->F->Prop}(u:a.eval g= .func (.func gf) #[] cap)(hc:∀args w,(callFunc gf args).run P0 w= .ok (.enter gf args) w)(r:P.funcs[gf]? =P0.funcs[gf]? \/UY P gf (#[.func (.yield (w.heap.size+1)) #[] #[]]++cap) .normal=UY P0 gf (#[.func (.yield (w.heap.size+1)) #[] #[]]++cap) .normal)
 (hR:mh P0 P Post gf (#[.func (.yield (w.heap.size+1)) #[] #[]]++cap) ((w.alloc (.deferred (I []))).alloc (.loop (A8 b.fn a.tmps ps assign body w.heap.size))) R)
 (n:∀v w',R (.returned v) w'->Sm w w'->Fg P0 P Post (b.at {a with defers:={target:=.collected w.heap.size,args:= #[]}::a.defers} (.endRangeFunc (w.heap.size+1)::k)) cs w') (x:∀ch w',¬R (.panicked ch) w') (y:∀w',¬R .outgrown w') (z:∀s,(UY P0 gf (#[.func (.yield (w.heap.size+1)) #[] #[]]++cap) .normal).todo≠[.code (.refuse s)]):Fg P0 P Post (b.at a (.code (.rangeFunc g ps assign body)::k)) cs w:=by
 intro ok J;have t:UY P gf (#[.func (.yield (w.heap.size+1)) #[] #[]]++cap) .normal=UY P0 gf (#[.func (.yield (w.heap.size+1)) #[] #[]]++cap) .normal:=by
  rcases r with d|d
  ·unfold UY;rw[d]
  ·exact d
 let j:Us:={b with roundOf:=K};have H:∀a todo,j.atR a todo=b.at a todo:=λa todo=>rfl;refine qH (aE:=[]) (tops':=[b.at {a with defers:={target:=.collected w.heap.size,args:= #[]}::a.defers} (.inRangeFunc (w.heap.size+1)::k)]) (fr':=UY P0 gf (#[.func (.yield (w.heap.size+1)) #[] #[]]++cap) .normal) (w':=(w.alloc (.deferred (I []))).alloc (.loop (A8 b.fn a.tmps ps assign body w.heap.size))) h ok Y (λc i=>⟨(c.alloc (.deferred (I []))).alloc (.loop (A8 b.fn a.tmps ps assign body w.heap.size)),?_,λm=>.one ?_⟩) (λp=>?_) λl D=>?_
 ·exact(i.un.push (by simp[pz])).trans ((i.un.push (by simp[pz])).un.push (by simp[pz]))
 ·rw[<-i.un.size.symm];have e:=run_enterLoop_outer (P:=P0) (w:=sh m 0 c) b.fn a.tmps ps assign body;have C:=stepR_rangeFunc (P:=P0) (b:=j) (a:=a) (k:=k) (cs:=[bG]) (w:=sh m 0 c) (g:=g) (ps:=ps) (assign:=assign) (body:=body) (w₁':=_) (d:={target:=.fn (.func gf) cap,args:= #[.func (.yield (c.heap.size+1)) #[] #[]]}) (f:=gf) (args:= #[.func (.yield (c.heap.size+1)) #[] #[]]++cap) e (by
   have d:a.eval (.const (.func (.yield (c.heap.size+1)) #[] #[]))= .func (.yield (c.heap.size+1)) #[] #[]:=rfl;simp[resolve,rangeCall,u,XN,sh];exact⟨rfl,rfl⟩) (by simp only[invoke];exact hc _ _)
  exact C
 ·obtain⟨_,s,G⟩:=p;exact z s G
 ·have o:eM P0 (b.at {a with defers:={target:=.collected w.heap.size,args:= #[]}::a.defers} (.inRangeFunc (w.heap.size+1)::k)) []:=⟨l.rest _ (by simp),λf q=>by simp at q,l.bot⟩;show tQ P0 P Post (Uf (UY P0 gf _ .normal) _) _;rw[<-t];refine hR _ cs o ⟨rfl,.inr ⟨_,_,rfl⟩⟩ trivial λd w' e B E A=>?_;cases d with
  |returned v=>exact n v w' e (D.trans E) A B
  |panicked ch=>exact absurd e (x _ _)
  |outgrown=>exact absurd e (y _)
def Ed(h:Twins P0 P){l:Nat}{r:Loop}(m:w.heap[l]? =I (.loop r))(o:bn P0 (.loop r))(p:r.state≠.busy)(d:r.pending=K)(n:∀s,k≠[.code (.refuse s)])(g:Fg P0 P Post (b.at a k) cs (w.putObj l (.loop {r with state:=.exhausted}))):Fg P0 P Post (b.at a (.endRangeFunc l::k)) cs w:=by
 intro t B;let f:Us:={b with roundOf:=K};refine qH (aE:=[]) (tops':=[]) (fr':=b.at a k) (w':=w.putObj l (.loop {r with state:=.exhausted})) h t Y (λe c=>⟨e.putObj l (.loop {r with state:=.exhausted}),c.un.set l (by simp[pz]),λv=>.one ?_⟩) (λi=>?_) λu C=>g u trivial
 ·have j:=run_endLoop (P:=P0) (w:=sh v 0 e) (l:=l) (r:=r) (c.at_ l _ m o) p;have:=stepR_endRangeFunc (P:=P0) (b:=f) (a:=a) (k:=k) (cs:=[bG]) j;obtain⟨F,D,A,G,E,x,y,z⟩:=r;simp only at d;subst d;exact this
 ·obtain⟨_,s,q⟩:=i;exact n s q
def B9(h:Twins P0 P){D:Nat}{todo:List WM}(c:a.defers=[{target:=.collected D,args:= #[]}])(f:w.heap[D]? =I (.deferred (I [])))(g:Fg P0 P Post {b.at {a with defers:=[]} todo with mode:=.returning} cs (w.putObj D (.deferred K))):Fg P0 P Post {b.at a todo with mode:=.returning} cs w:=by
 intro j o;refine qH (aE:=[]) (tops':=[]) (fr':={b.at {a with defers:=[]} todo with mode:=.returning}) (w':=w.putObj D (.deferred K)) h j Y (λe d=>⟨e.putObj D (.deferred K),d.un.set D (by simp[pz]),λm=>.one (step_lone_go ?_)⟩) (λc=>?_) λl p=>g l trivial
 ·have i:=run_takeDeferred (P:=P0) (w:=sh m 0 e) (b:=D) (ds:=[]) (d.at_ D _ f (λn c=>by cases c));simp[stepG,unwind,Frame.at,c,i,Yd,GStep.bare_after];rfl
 ·obtain⟨d,_⟩:=c;cases d
end
end Cc
namespace Cc
open Go Go.Conc
open Go.RowKit (Below)
def Xe (P0 P:Ue)(Post:U->F->Prop)(own:Nat->Prop)(fr:Us)(cs:List Us)(w:F):Prop:=
 (∀b,own b->b<w.heap.size)->∀c,RelB own w c->xF P0 c->tQ P0 P Post (Uf fr cs) c
def JR:Nat->Prop:=λ_=>False
def RD{own:Nat->Prop}{w c:F}(h:RelB own w c):RelB (λb=>JR b\/own b) w c:=h.mono λb d=>d.elim Yq (λh=>h)
def Gb{own:Nat->Prop}{w c:F}(h:RelB (λb=>JR b\/own b) w c):RelB own w c:=h.mono λb d=>.inr d
def iq(P0 P:Ue)(Post:U->F->Prop):nP P0 P JR Z (Xe P0 P Post):=by
 refine⟨λown y cs w c h p f n=>?_,λown y cs w p c f h u C n=>?_⟩
 ·refine yI λu e=>?_;obtain⟨q,rfl⟩:=e;obtain⟨G,E,g,x,v,d,D⟩:=c (p.at q) (RD (f.trans (RelB.at _ _ _)));have j:∀b,cT own (p.at q) g b->b<g.heap.size:=λb A=>A.elim (λc=>Uc (h b c) (Ux f.size d.size)) (λc=>c.2);refine⟨_,g,x,v,rfl,⟨d.size,d.tape,d.os,d.output,d.hp,λr B=>?_⟩,D j g (RelB.refl _ _) (d.hp n)⟩;have:=d.evs r B;unfold EvW at this;unfold C6;cases l:r.loc with
  |cell a=>rw[l] at this;exact this.elim (j _) (λc=>c.1.elim)
  |obj H=>rw[l] at this;exact this.elim (j _) (λc=>c.1.elim)
  |mark m=>rw[l] at this;exact this
  |_=>trivial
 ·have t:=Gb f;refine c (λb s=>?_) u (t.trans C) n;have z:=h b s;have e:=t.at_ b s;rw[UU z] at e;exact(Ua.1 e.symm).1
def yz (P:Ue):WM->Bool
 | .code c| .inLoop c=>bp P T5 c
 | .inBlock _| .inRangeFunc _| .endRangeFunc _=>Z
 | .inRegion ops _=>ops.toList.all λo=>mC P T5 o.op
 |_=>T5
def dI{P:Ue}{b:Us}{a:V5}{todo:List WM}(c:b.kind= .normal)(e:a.defers=[])(l:(todo.all (yz P))=Z):eM P (b.at a todo) []:=by
 refine⟨⟨λi j=>?_,λd g=>?_,.inl c⟩,λf h=>by simp at h,c⟩
 ·have:=Uy.1 l i j;cases i<;>first|exact this|trivial|cases this
 ·have:d∈a.defers:=g;rw[e] at this;cases this
section
variable {P0 P:Ue}{Post:U->F->Prop}{own:Nat->Prop}{cs:List Us}{w:F}{b:Us}{a:V5}{k:List WM}{ops:Array Vu}{i:Nat}{rest:List Nat}{o:Vu}
def grown(own:Nat->Prop)(n m:Nat):Nat->Prop:=λb=>own b\/(n<=b/\b<m)
def sC{f:V6}{fn:WC}{c:WU}{args:Array U6}{ats:Array Ug}{vs:Array U}{R:F->Xa->F->Prop}(y:b.kind= .normal)(D:ops[i]? =I o)(L:UF o (Vj ops a.tmps)=Z)(E:o.op= .call {callee:=.value (.func f),args,argTypes:=ats})(u:args.map a.eval=vs)
 (A:P.funcs[f]? =I fn) (B:(fn.name == "runtime.NumGoroutine")=T5) (x:fn.body=I c) (J:eM P0 (b.at a (.inRegion ops (i::rest)::k)) []) (hR:∀d,RelB own w d->mh P0 P Post f vs d (R d))
 (t:∀d v w',RelB own w d->R d (.returned v) w'->Sm d w'->xF P0 w'->tQ P0 P Post (Uf (b.at (a.put o.dst v) (.inRegion ops rest::k)) cs) w') (hP:∀d ch w',¬R d (.panicked ch) w') (C:∀d w',¬R d .outgrown w'):Xe P0 P Post own (b.at a (.inRegion ops (i::rest)::k)) cs w:=by
 intro M d m G;have:=Pv (P0:=P0) (P:=P) (Post:=Post) (b:=b) (a:=a) (k:=k) (cs:=cs) (w:=d) (R:=λh w'=>∃e,R (d.at e) h w') y D L E A B x (λO l=>by
  obtain⟨e,rfl⟩:=l;rw[u];intro n p q l r s;exact hR _ (m.trans (RelB.at _ _ _)) n p q l r λh w' z=>s h w' ⟨e,z⟩) (λv w' ⟨e,K⟩ g N H=>t (d.at e) v w' (m.trans (RelB.at _ _ _)) K ⟨g.tape,g.os,g.output,g.size⟩ H) (λch w' ⟨e,j⟩=>absurd j (hP _ _ _)) (λw' ⟨e,j⟩=>C _ _ j)
 exact this J G
def C4(h:Twins P0 P){f:V6}{fn:WC}{c:WU}{args:Array U6}{ats:Array Ug}{vs:Array U}{R:F->Xa->F->Prop}(L:b.kind= .normal)(q:ops[i]? =I o)(aa:UF o (Vj ops a.tmps)=Z)(S:o.op= .call {callee:=.value (.func f),args,argTypes:=ats})(K:args.map a.eval=vs)
 (N:P.funcs[f]? =I fn) (Q:(fn.name == "runtime.NumGoroutine")=T5) (x:fn.body=I c) (O:P.funcs[f]? =P0.funcs[f]?) (V:eM P0 (b.at a (.inRegion ops (i::rest)::k)) [])
 (hR:∀W,(∀b o,own b->w.heap[b]? =I o->bn P0 o->W.heap[b]? =I o)->w.heap.size<=W.heap.size->UB P0 f vs W λe W'=>aP W W'/\∃v,e= .returned v/\R W (.returned v) W')
 (H:∀v w' W W',(∀b o,own b->w.heap[b]? =I o->bn P0 o->W.heap[b]? =I o)->w.heap.size<=W.heap.size->aP W W'->R W (.returned v) W'->Un W' w'->RelB own w w'->Xe P0 P Post (grown own W.heap.size w'.heap.size) (b.at (a.put o.dst v) (.inRegion ops rest::k)) cs w'):Xe P0 P Post own (b.at a (.inRegion ops (i::rest)::k)) cs w:=by
 intro y;refine sC (P0:=P0) (R:=λn e ab=>∃m,Mk P0 m n/\Tl m n (λe W'=>∃W,W.heap=m.heap/\aP W W'/\∃v,e= .returned v/\R W (.returned v) W') e ab) L q aa S K N Q x V (λn d=>?_) (λn v w' d Y z T=>?_) (λn ad w' ⟨_,_,_,_,_,_,W,_,_,v,e,_⟩=>by cases e) (λn w' ⟨_,_,_,_,_,_,W,_,_,v,e,_⟩=>by cases e) y
 ·obtain⟨m,l⟩:=D5 P0 n;intro B C p g E G;exact pL h l.hp l.un O (λw' ⟨W,_,_,v,e,_⟩=>by cases e) (λr=>(hR (sh r 0 m) (λb o x q t=>l.at_ b o ((d.at_ b x).trans q) t) (by show w.heap.size<=m.heap.size;rw[<-l.un.size];exact d.size)).mono λe W' ⟨p,g⟩=>⟨sh r 0 m,rfl,p,g⟩) B C p g E λe w' M=>G e w' ⟨m,l,M⟩
 obtain⟨m,l,r,D,W',g,W,u,s,ae,e,J⟩:=Y;cases e;have X:W.heap.size<=w'.heap.size:=by rw[g.un.size];exact s.size
 have A:W.heap.size=n.heap.size:=by rw[u,l.un.size]
 have hrel:RelB own w w':=⟨λb j=>by
  have p:W'.heap[b]? =W.heap[b]? :=s.block b (by rw[A];exact Uc (y b j) d.size);exact(g.same l.un (by rw[p,u])).trans (d.at_ b j),Ux d.size (by rw[<-A];exact X),z.tape.trans d.tape,z.os.trans d.os,z.output.trans d.output⟩
 refine H v w' W (sh r D W') (λb o j q t=>by rw[u];exact l.at_ b o ((d.at_ b j).trans q) t) (by rw[A];exact d.size) s J ⟨g.un.size,g.un.at_,g.un.os,g.un.output⟩ hrel (λb j=>?_) w' (RelB.refl _ _) T;rcases j with j|j
 ·exact Uc (y b j) hrel.size
 ·exact j.2
def Qg(h:Twins P0 P){x:U6}{d:Array U6}{ats:Array Ug}{vs:Array U}{l:Nat}{R:F->U->F->Prop}(j:ops[i]? =I o)(t:UF o (Vj ops a.tmps)=Z)(m:o.op= .call {callee:=.value x,args:=d,argTypes:=ats})(u:a.eval x= .func (.yield l) #[] #[])(g:d.map a.eval=vs)(r:eM P0 (b.at a (.inRegion ops (i::rest)::k)) [])
 (hR:∀c,RelB own w c->Fs P0 P Post l vs c (R c)) (f:∀c v w',RelB own w c->R c v w'->Sm c w'->xF P0 w'->tQ P0 P Post (Uf (b.at (a.put o.dst v) (.inRegion ops rest::k)) cs) w'):Xe P0 P Post own (b.at a (.inRegion ops (i::rest)::k)) cs w:=by
 intro y c e n;exact MU h j t m u (by rw[g];exact hR c e) (λv w' s q _ p=>f c v w' e s q p) r n
def Xe.go{fr:Us}(h:Xe P0 P Post own fr cs w)(c:∀b,own b->b<w.heap.size)(d:xF P0 w):tQ P0 P Post (Uf fr cs) w:=h c w (RelB.refl _ _) d
end
section
variable {P:Ue}{a:V5}{o:Vu}
def yJ{t:Ug}{x:U6}{c:Bool}(e:o.op= .unOp .not t x)(f:a.eval x= .bool c):∀d,(UH a.eval o).run P d= .ok (.value (.bool (!c))) d/\(UH a.eval o).events P d #[]=#[]:=λd=>by
 unfold UH;simp[e,f,Op.unary]
end
def oV{o:Vu}{ops:Array Vu}{z:V5}{j d:Nat}{want b:Bool}(g:o.guard=I (j,want))(e:je ops j=I d)(c:aW z d= .bool b)(f:d<z.tmps.size):UF o (Vj ops z.tmps)=(b==want):=by
 unfold UF Vj;rw[g];unfold je at e;unfold aW at c;rw[UD,UU f] at c;simp only[e,XR,UU f];simp only[V1] at c;rw[c];cases b<;>cases want<;>rfl
def Knows.want{a:V5}{n:Nat}{l:List (Nat×U)}(c:Knows a n l){o:Vu}{ops:Array Vu}{j d:Nat}{want b:Bool}(f:o.guard=I (j,want))(e:je ops j=I d)(h:l.lookup d=I (.bool b))(g:d<n):UF o (Vj ops a.tmps)=(b==want):=oV f e (c.slot d _ h) (by rw[c.size];exact g)
def sM{P0 P:Ue}{S:Nat->Prop}{m:Bool}{f:(Nat->Prop)->Us->List Us->F->Prop}{own:Nat->Prop}{cs:List Us}{w:F}{b:Us}{a:V5}{k:List WM}{ops:Array Vu}{i:Nat}{rest:List Nat}{o:Vu}(h:nP P0 P S m f){n:Nat}{l:List (Nat×U)}(g:Knows a n l){d j e:Nat}{want c:Bool}(s:Knows (a.put (I d) Vk) n ((d,Vk)::l)->f own (b.at (a.put (I d) Vk) (.inRegion ops rest::k)) cs w)(x:ops[i]? =I o:=by rfl)(r:o.guard=I (j,want):=by rfl)(q:je ops j=I e:=by rfl)(y:l.lookup e=I (.bool c):=by rfl)(t:e<n:=by decide)(v:(c==want)=T5:=by rfl)(p:o.dst=I d:=by rfl)(u:d<n:=by decide):f own (b.at a (.inRegion ops (i::rest)::k)) cs w:=
 xS h x ((g.want r q y t).trans v) (by rw[p];exact s (g.put u Vk))
end Cc
namespace Cc
open Go
section
variable {P P':Ue}{O:Obj->Prop}
def tC(a:Twin P P')(b:Plain O)(v:U):St P P' O (YD v):=by
 unfold YD;refine cB ?_ ?_
 ·have:∀v,handleType P' v=handleType P v:=λv=>by unfold handleType;rw[a.ym]
  rw[this]
 ·((try dsimp only);repeat' first|exact bM a _|exact aA _|exact sw a _|assumption|(refine ag ?_ (λ_=>?_))|intro _|split|(dsimp only)|exact trivial)
def CN(a:Twin P P')(b:Plain O)(i:Xg):St P P' O (YE i):=by
 unfold YE
 ((try dsimp only);repeat' first|exact bM a _|assumption|(refine ag ?_ (λ_=>?_))|intro _|split|(dsimp only)|exact trivial)
def zE(b:Twin P P')(a:Plain O)(args:Array U):St P P' O (Ys args):=by
 unfold Ys YI
 ((try dsimp only);repeat' first|exact bP b a _|exact tD _ _|(refine aZ _ ?_;rfl)|exact ql _|exact oe b a _|exact tC b a _|exact CN b a _|assumption|(refine ag ?_ (λ_=>?_))|(refine bU ?_ ?_)|intro _|split|(dsimp only)|exact trivial)
def Rr{o:Option String}{a:String->Wu U}{b:Unit->Wu U}(h1:∀f,St P P' O (a f))(c:St P P' O (b ())):St P P' O (YK (λ_=>Wu U) o a b):=by
 cases o with
 |none=>exact c
 |some f=>exact h1 f
def GP(args:Array U):St P P' O (YR args):=by
 have a:∀s:String,St P P' O (stuck s:Wu U):=λs=>aA s;obtain⟨c⟩:=args;rcases c with _|⟨v,_|⟨o,c⟩⟩
 case cons.nil=>
  cases v with
  |agg b=>
   obtain⟨d⟩:=b;rcases d with _|⟨e,_|⟨g,_|⟨h,_|⟨i,_|⟨k,d⟩⟩⟩⟩⟩
   case cons.cons.cons.cons.nil=>
    cases e with
    |int l b=>
     cases g with
     |int m p=>
      cases h with
      |bool s=>
       cases i with
       |int n j=>
        refine Rr (o:=(if (s&&decide (b<0))=Z then YM else YO)[j.toNat]?) (λf=>?_) ?_
        ·exact trivial
        ·exact a _
       |_=>exact a _
      |_=>exact a _
     |_=>exact a _
    |_=>exact a _
   all_goals exact a _
  |_=>exact a _
 all_goals exact a _
def G2(c:Twin P P')(b:Plain O)(args:Array U):St P P' O (Yo args):=by
 have a:∀s:String,St P P' O (stuck s:Wu U):=λs=>aA s;unfold Yo YI;obtain⟨d⟩:=args;rcases d with _|⟨v,_|⟨j,d⟩⟩
 case cons.nil=>
  cases v with
  |agg f=>
   obtain⟨e⟩:=f;rcases e with _|⟨g,_|⟨h,e⟩⟩
   case cons.nil=>
    refine ag (tC c b _) λi=>?_
    split
    ·exact trivial
    ·exact bP c b _
   all_goals exact a _
  |_=>exact a _
 all_goals exact a _
def EO(a:UJ)(n:Nat)(b:ByteArray):St P P' O (YJ a n b):=by
 induction n generalizing a b with
 |zero=>exact trivial
 |succ n c=>
  unfold YJ;refine ag (tD _ _) λv=>?_
  split
  ·exact c _ _
  ·exact aA _
def zu(v:U):St P P' O (YL v):=by
 unfold YL
 split<;>first|exact trivial|exact EO _ _ _|exact aA _
def EL(args:Array U):St P P' O (Xy args):=by
 have b:∀s:String,St P P' O (stuck s:Wu U):=λs=>aA s;unfold Xy;obtain⟨a⟩:=args;rcases a with _|⟨c,_|⟨d,_|⟨e,a⟩⟩⟩
 case cons.cons.nil=>exact ag (zu _) λ_=>ag (zu _) λ_=>trivial
 all_goals exact b _
def dW(b:Twin P P')(a:Plain O):∀r∈Va,∀args,St P P' O (r.2 args):=by
 intro r c args;simp only[Va,VM,XQ,or_false] at c;rcases c with rfl|rfl|rfl|rfl|rfl|rfl|rfl|rfl|rfl|rfl|rfl|rfl|rfl|rfl|rfl
 all_goals first
  |exact GP _
  |exact zE b a _
  |exact G2 b a _
  |exact trivial
  |exact ag (ql _) λ_=>trivial
  |exact ag (zo _) λ_=>ag (ql _) λ_=>trivial
  |exact ag (zo _) λ_=>ag (k8 _) λ_=>trivial
def GY(a:11<Yn.length)(args:Array U):St P P' O ((Yn[11]'a).2 args):=ag (k8 (args.getD 0 (.tuple #[]))) λ_=>trivial
def fV{fn:WC}{n:String}{e:Array U->Wu U}(c:fn.name=n)(h1:(Extern.allGenericRows.lookup n).isNone=Z)(a:(Extern.allTypedRows.lookup n).isNone=Z)(b:Extern.allRows.lookup n=I e):YB fn=I e:=by
 unfold YB;dsimp only;rw[c,V0.1 h1,V0.1 a,b];rfl
def uv{fn:WC}{n m:String}(d:fn.name=n)(c:fn.origin=m)(h1:(Extern.allGenericRows.lookup n).isNone=Z)(a:(Extern.allTypedRows.lookup n).isNone=Z)(b:(Extern.allRows.lookup n).isNone=Z)(e:(Extern.allGenericRows.lookup m).isNone=Z)(f:(Extern.allTypedRows.lookup m).isNone=Z)(g:(Extern.allRows.lookup m).isNone=Z):YB fn=K:=by
 unfold YB;dsimp only;rw[d,c,V0.1 h1,V0.1 a,V0.1 b,V0.1 e,V0.1 f,V0.1 g];rfl
end
def Hs:(T9.funcs.toList.all λfn=> !fn.body.isNone||(([Tryz.f0.name,Tryz.f1.name,Tryz.f168.name,Tryz.f179.name,Tryz.f180.name,Tryz.f181.name,Tryz.f182.name,Tryz.f183.name,Tryz.f184.name,Tryz.f185.name,Tryz.f186.name,Tryz.f187.name,Tryz.f188.name,Tryz.f189.name,Tryz.f190.name,Tryz.f191.name,Tryz.f192.name,Tryz.f193.name,Tryz.f194.name]:List String).contains fn.name&&fn.origin==Tryz.f0.origin))=Z:=by kernel_rfl
def RS{fn:WC}(a:(([Tryz.f0.name,Tryz.f1.name,Tryz.f168.name,Tryz.f179.name,Tryz.f180.name,Tryz.f181.name,Tryz.f182.name,Tryz.f183.name,Tryz.f184.name,Tryz.f185.name,Tryz.f186.name,Tryz.f187.name,Tryz.f188.name,Tryz.f189.name,Tryz.f190.name,Tryz.f191.name,Tryz.f192.name,Tryz.f193.name,Tryz.f194.name]:List String).contains fn.name)=Z)(f:fn.origin=Tryz.f0.origin){e:Array U->Wu U}(b:YB fn=I e)(args:Array U):St (an.of T9) T9 (bn (an.of T9)) (e args):=by
 have d:=M6;have c:=ez (an.of T9);simp only[List.contains_cons,List.contains_nil,Bool.or_false,WS,beq_iff_eq] at a;rcases a with a|a|a|a|a|a|a|a|a|a|a|a|a|a|a|a|a|a|a
 ·rw[uv a f (by kernel_rfl) (by kernel_rfl) (by kernel_rfl) (by kernel_rfl) (by kernel_rfl) (by kernel_rfl)] at b;cases b
 ·rw[uv a f (by kernel_rfl) (by kernel_rfl) (by kernel_rfl) (by kernel_rfl) (by kernel_rfl) (by kernel_rfl)] at b;cases b
 ·rw[fV (e:=Xy) a (by kernel_rfl) (by kernel_rfl) (by kernel_rfl)] at b;cases b;exact EL _
 ·rw[fV (e:=(Va[4]'(by decide)).2) a (by kernel_rfl) (by kernel_rfl) (by kernel_rfl)] at b;cases b;exact dW d c _ (Ui _) _
 ·rw[fV (e:=(Va[11]'(by decide)).2) a (by kernel_rfl) (by kernel_rfl) (by kernel_rfl)] at b;cases b;exact dW d c _ (Ui _) _
 ·rw[fV (e:=(Va[0]'(by decide)).2) a (by kernel_rfl) (by kernel_rfl) (by kernel_rfl)] at b;cases b;exact dW d c _ (Ui _) _
 ·rw[fV (e:=(Va[8]'(by decide)).2) a (by kernel_rfl) (by kernel_rfl) (by kernel_rfl)] at b;cases b;exact dW d c _ (Ui _) _
 ·rw[fV (e:=(Va[1]'(by decide)).2) a (by kernel_rfl) (by kernel_rfl) (by kernel_rfl)] at b;cases b;exact dW d c _ (Ui _) _
 ·rw[fV (e:=(Va[9]'(by decide)).2) a (by kernel_rfl) (by kernel_rfl) (by kernel_rfl)] at b;cases b;exact dW d c _ (Ui _) _
 ·rw[fV (e:=(Va[2]'(by decide)).2) a (by kernel_rfl) (by kernel_rfl) (by kernel_rfl)] at b;cases b;exact dW d c _ (Ui _) _
 ·rw[fV (e:=(Va[10]'(by decide)).2) a (by kernel_rfl) (by kernel_rfl) (by kernel_rfl)] at b;cases b;exact dW d c _ (Ui _) _
 ·rw[fV (e:=(Va[5]'(by decide)).2) a (by kernel_rfl) (by kernel_rfl) (by kernel_rfl)] at b;cases b;exact dW d c _ (Ui _) _
 ·rw[fV (e:=(Va[12]'(by decide)).2) a (by kernel_rfl) (by kernel_rfl) (by kernel_rfl)] at b;cases b;exact dW d c _ (Ui _) _
 ·rw[fV (e:=(Va[6]'(by decide)).2) a (by kernel_rfl) (by kernel_rfl) (by kernel_rfl)] at b;cases b;exact dW d c _ (Ui _) _
 ·rw[fV (e:=(Va[13]'(by decide)).2) a (by kernel_rfl) (by kernel_rfl) (by kernel_rfl)] at b;cases b;exact dW d c _ (Ui _) _
 ·rw[uv a f (by kernel_rfl) (by kernel_rfl) (by kernel_rfl) (by kernel_rfl) (by kernel_rfl) (by kernel_rfl)] at b;cases b
 ·rw[fV (e:=(Va[7]'(by decide)).2) a (by kernel_rfl) (by kernel_rfl) (by kernel_rfl)] at b;cases b;exact dW d c _ (Ui _) _
 ·rw[fV (e:=(Va[14]'(by decide)).2) a (by kernel_rfl) (by kernel_rfl) (by kernel_rfl)] at b;cases b;exact dW d c _ (Ui _) _
 ·rw[fV (e:=(Yn[11]'(by decide)).2) a (by kernel_rfl) (by kernel_rfl) (by kernel_rfl)] at b;cases b;exact GY _ _
def M5{f:Nat}{fn:WC}(a:(an.of T9).funcs[f]? =I fn)(d:fn.body.isNone=Z):T9.funcs[f]? =I fn:=by
 rcases oC f with b|⟨e,_,_,c⟩
 ·rw[b];exact a
 ·rw[c] at a;cases a;cases d
def SC:Ext (an.of T9) T9:=by
 refine⟨λf c a=>?_,λf c a b=>?_,λf c j a b i args=>?_⟩
 ·rcases oC f with e|⟨d,_,g,h⟩
  ·have:=jF tN (e.trans a);simpa using this
  ·rw[h] at a;cases a;have:=jF tN g;show(d.name==_)=T5;simpa using this
 ·have:=jF RY (M5 a b);rw[b] at this;simpa using this
 ·have:=jF Hs (M5 a b);rw[b] at this;simp only[Bool.not_true,Bool.false_or,Uv,beq_iff_eq] at this;exact RS this.1 this.2 i args
def PF:oY (an.of T9) T9:=by
 refine⟨M6,SC,λf=>?_,rfl,λf=>?_,λf i h g e=>?_,N4 (an.tables _)⟩
 ·rcases oC f with a|⟨d,_,c,b⟩
  ·rw[a]
  ·rw[c,b];rfl
 ·rcases oC f with a|⟨d,_,c,b⟩
  ·exact .inl a
  ·exact .inr ⟨_,_,b,rfl⟩
 ·have:=jF Rx g;rw[e] at this;exact this
def cU:Twins (an.of T9) T9:=by
 refine⟨PF,λf=>?_⟩;rcases oC f with b|⟨j,_,a,c⟩
 ·exact⟨by rw[b],λg h i a=>by rw[b,i] at a;cases a;rfl⟩
 ·refine⟨by rw[a,c];simp,λg h d e=>?_⟩;rw[c] at d;rw[a] at e;cases d;cases e;rfl
end Cc
namespace Ec
open Go.RowKit Pk Pm
def C7 (y:bK×Int):List Nat:=aL y.1.name.size++(bytesOf y.1.name++[byteOf y.1.kind,byteOf y.2])
def rm (l:List (bK×Int)):List Nat:=l.flatMap C7
def qN(l:List (bK×Int))(y:bK×Int):rm (l++[y])=rm l++C7 y:=by
 unfold rm;rw[Vi,Vc]
def PB(y:bK×Int):1<=(C7 y).length:=by unfold C7;simp;omega
def M3(l:List (bK×Int)):l.length<=(rm l).length:=by
 induction l with
 |nil=>simp
 |cons b c a=>
  have:=PB b;unfold rm at a ⊢;rw[WR,T8,VI];omega
structure Fq(y:bK×Int):Prop where
 n:y.1.name.size<2147483648
 k0:0<=y.1.kind
 k1:y.1.kind<256
 e0:0<=y.2
 e1:y.2<256
def AE{x:Int}(a:0<=x)(h1:x<256):(byteOf x:Int)=x:=by unfold byteOf;omega
def Cg{B:List Nat}{p v:Nat}{y:bK×Int}(b:Fq y)(c:v<2147483648)(a:ai B p (aL v))(h:ai B p (C7 y)):y.1.name.size=v:=by
 unfold C7 at h;exact cz (by have:=b.n;omega) (by omega) (ax.1 h).1 a
def Ch{B:List Nat}{p v:Nat}{x:ByteArray}{y:bK×Int}(i:Fq y)(f:v<2147483648)(d:ai B p (aL v))(g:x.size=v)(e:ai B (p+(aL v).length) (bytesOf x))(h:ai B p (C7 y)):y.1.name=x/\ai B (p+(aL v).length+v) [byteOf y.1.kind,byteOf y.2]:=by
 have a:=Cg i f d h;unfold C7 at h;obtain⟨c,b⟩:=ax.1 (ax.1 h).2;rw[a] at c b;have:=m8 (iD c e (by rw[aj,aj,a,g]));rw[aj,a] at b;exact⟨this,b⟩
def Rs{B:List Nat}{p v kd b:Nat}{x:ByteArray}{y:bK×Int}(a:Fq y)(q:v<2147483648)(l:ai B p (aL v))(r:x.size=v)(m:ai B (p+(aL v).length) (bytesOf x))(n:ai B (p+(aL v).length+v) [kd])(o:ai B (p+(aL v).length+v+1) [b])(h:ai B p (C7 y)):y=(⟨x,(kd:Int)⟩,(b:Int)):=by
 obtain⟨g,i⟩:=Ch a q l r m h;obtain⟨j,k⟩:=eV.1 i;have e:byteOf y.1.kind=kd:=by have:=j.symm.trans (dG.1 n);simpa using this
 have f:byteOf y.2=b:=by have:=(dG.1 k).symm.trans (dG.1 o);simpa using this
 have c:=AE a.k0 a.k1;have d:=AE a.e0 a.e1;obtain⟨⟨u,t⟩,s⟩:=y;simp only at g e f c d;rw[e] at c;rw[f] at d;rw[g,c,d]
def J1{B:List Nat}{p v kd a:Nat}{x:ByteArray}(e:ai B p (aL v))(b:x.size=v)(f:ai B (p+(aL v).length) (bytesOf x))(g:ai B (p+(aL v).length+v) [kd])(h:ai B (p+(aL v).length+v+1) [a])(h1:kd<256)(i:a<256):ai B p (C7 (⟨x,(kd:Int)⟩,(a:Int)))/\(C7 (⟨x,(kd:Int)⟩,(a:Int))).length=(aL v).length+v+1+1:=by
 have c:byteOf (kd:Int)=kd:=by unfold byteOf;omega
 have d:byteOf (a:Int)=a:=by unfold byteOf;omega
 unfold C7;simp only[c,d,b];refine⟨ax.2 ⟨e,ax.2 ⟨f,?_⟩⟩,by simp[aj,b];omega⟩;rw[aj,b];exact eV.2 ⟨dG.1 g,h⟩
def nS (l:List (bK×Int)):Prop:=gZ (l.map Uw)/\lB (l.map Uw) (l.map VU)
def nS.each{l:List (bK×Int)}(h:nS l):(∀y∈l,Fq y)/\l.length<2147483648:=by
 obtain⟨⟨j,e,f⟩,k,g⟩:=h;refine⟨λy i=>?_,by simp at e;omega⟩;obtain⟨a,b,rfl⟩:=Vv i;have d:=(f a (by simpa using b)).1;have c:=g a (by simpa using b);simp only[Xr,nZ,fW,Uv,decide_eq_true_eq] at d;rw[show(l.map VU).getD a 0=l[a].2 by simp[b]] at c;simp only[Xr,bI,fW,WS,Uv,decide_eq_true_eq,beq_iff_eq] at c;exact⟨by omega,by omega,by omega,by omega,by omega⟩
def yN (l:List (bK×Int)):List Nat:=aL l.length++rm l
def Cut (s:ByteArray)(C a:List Nat):Prop:=s.size<=65536/\bytesOf s=dM++(C++(a++(iz a.length++dM)))
def Cut.len{s:ByteArray}{C a:List Nat}(h:Cut s C a):s.size=C.length+a.length+12:=by
 have:=congrArg XD h.2;rw[aj] at this;simp[dM,iz] at this;omega
def MG{a b:Nat}(c:a<=65536)(d:b<=65536)(h:iz a=iz b):a=b:=by
 unfold iz at h;simp at h;omega
def Cut.IL{s:ByteArray}{C a b F':List Nat}(h:Cut s C a)(c:Cut s b F'):C=b/\a=F':=by
 have l:=h.len;have m:=c.len;have k:=h.1;have d:=h.2.symm.trans c.2;have e:=List.append_cancel_left d;have f:(C++a)++(iz a.length++dM)=(b++F')++(iz F'.length++dM):=by rw[UC,UC];exact e
 obtain⟨g,i⟩:=List.append_inj' f (by simp[iz]);have j:=MG (by omega) (by omega) (List.append_cancel_right i);exact List.append_inj' g j
def qD (l:List (bK×Int))(bs:List Bd):List Nat:=yN l++(aL bs.length++cP (l.map Uw) bs)
structure xd(l:List (bK×Int))(bs:List Bd):Prop where
 pl:nS l
 b8:∀b∈bs,eK (l.map Uw) b
 rows:eU bs<=2000
def fY (s:ByteArray)(l:List (bK×Int))(bs:List Bd):Prop:=xd l bs/\Cut s (bQ bs) (qD l bs)
def R9 (s:ByteArray)(cs:List bK)(n e:Nat):Prop:=
 (∃b a,fY s b a/\cs=b.map Uw/\n=eU a/\e=0/\∀d c,fY s d c->d=b/\eU c=eU a)\/((∀b a,¬fY s b a)/\cs=[]/\n=0/\e=3)
def Jg(l:List (bK×Int)):∀n,n<=l.length->iR (l.map Uw) (l.map VU) n=rm (l.take n):=by
 intro n
 induction n with
 |zero=>intro _;simp[iR,rm]
 |succ n c=>
  intro d;rw[xY,c (by omega),Um (by omega),qN];congr 1;unfold xX C7;have a:(l.map Uw).getD n ⟨⟨#[]⟩,0⟩=l[n].1:=by rw[Uh,Ul (by rw[UG];omega)];simp
  have b:(l.map VU).getD n 0=l[n].2:=by rw[Uh,Ul (by rw[UG];omega)];simp
  rw[a,b]
def Mf(l:List (bK×Int))(bs:List Bd):jh (l.map Uw) (l.map VU) bs=qD l bs:=by
 unfold jh qD yN;rw[Jg l _ (by simp),UG,Vf,UC]
structure mg(w W:F)(g r q n:Nat)(kv:U)(l:List ki):Prop where
 res:W.heap[w.heap.size]? =I (.cells #[.int .i64 0,aO] 139 (0,0))
 box:W.heap[g]? =I (.cells #[.int .i64 (n:Int),kv] 139 (0,0))
 own:W.ownsRow w.heap.size 143 8 kv l.length (ei l)
 kp:jP r q w W
def mg.step{w W a:F}{g r q n:Nat}{b:U}{l:List ki}(h:mg w W g r q n b l)(d:r<w.heap.size)(c:q<w.heap.size)(e:w.heap.size<g)(k:jP r q W a):mg w a g r q n b l:=
 ⟨k.keep h.res (by omega) (by omega),k.keep h.box (by omega) (by omega),k.own h.own d c,h.kp.trans k⟩
def mg.below{w W b:F}{g r q n:Nat}{c:U}{l:List ki}(h:mg w W g r q n c l)(a:aP W b):mg w b g r q n c l:=
 ⟨(a.block _ (Ud h.res)).trans h.res,(a.block _ (Ud h.box)).trans h.box,aK h.own a,h.kp.trans (jP.cq a)⟩
def mg.cells{w W:F}{g r q n:Nat}{b:U}{l:List ki}(h:mg w W g r q n b l):
 aM W g 0 (.int .i64 (n:Int))/\aM W g 1 b/\W.frozen? ⟨g,1,K⟩=T5:=by
 have a:=h.box;exact⟨by simp[Ur,a],by simp[Ur,a],by simp[UQ,a]⟩
def mg.kept{w W a:F}{g r q n:Nat}{b e:U}{l:List ki}(h:mg w W g r q n b l)(d:aR W a b e):
 aM a g 1 b/\a.frozen? ⟨g,1,K⟩=T5:=by
 have c:=(d.fN.block _ (Ud h.box) (bw h.own h.box (by decide))).trans h.box;exact⟨by simp[Ur,c],by simp[UQ,c]⟩
def mg.jO{w W b:F}{g r q n:Nat}{j a:U}{l d:List ki}(h:mg w W g r q n j l)(s:w.heap.size<g)(c:aR W b j a)(i:b.ownsRow w.heap.size 143 8 a d.length (ei d)):
 mg w (b.setCell ⟨g,1,K⟩ a) g r q n a d:=by
 have m:=(c.fN.block _ (Ud h.res) (bw h.own h.res (by decide))).trans h.res;have f:=(c.fN.block _ (Ud h.box) (bw h.own h.box (by decide))).trans h.box;have o:=Uq b g 1 _ _ a f;refine⟨?_,o,?_,?_⟩
 ·rw[Ut _ _ _ _ (by simp;omega)];exact m
 ·exact i.kept (aQ b _ 1 a) (.inr (bw i f (by decide)).symm)
 ·exact(h.kp.grown c.fN (λe p=>(h.own.lt e p).1)).grown (aQ b g 1 a) (λe k=>by cases k;omega)
def mg.reader{w W a:F}{g r q n:Nat}{c d:U}{l:List ki}(h:mg w W g r q n c l)(j:w.heap.size<g)(f:aR W a c d){i:Nat}{o:Obj}(k:i<w.heap.size)(b:W.heap[i]? =I o):(a.setCell ⟨g,1,K⟩ d).heap[i]? =I o:=by
 rw[Ut _ _ _ _ (by simp;omega),f.fN.block i (Ud b) (λe=>by have:=(h.own.lt i e.symm).1;omega)];exact b
def Sb (cs:List bK)(w:F)(r p:Nat)(s:ByteArray)(q t:Nat)(z:ByteArray)(e:Xa)(w':F):Prop:=
 jP r q w w'/\((∃(a:Bd) (c:U),e= .returned (.agg #[.int .i64 (a.rows:Int),c])/\eK cs a/\ai (bytesOf s) p (ej cs a)/\p+(ej cs a).length<=s.size/\w'.heap[r]? =I (b9 s (p+(ej cs a).length))/\ai (bytesOf z) t (cr a.chunks)/\t+(cr a.chunks).length<=z.size/\w'.heap[q]? =I (b9 z (t+(cr a.chunks).length))/\
  w'.ownsRow w.heap.size 143 8 c a.chunks.length (ei a.chunks)/\(∀b,eK cs b->ai (bytesOf s) p (ej cs b)->ai (bytesOf z) t (cr b.chunks)->b=a))\/
  (∃m,e= .panicked (eC m)/\∀a,eK cs a->ai (bytesOf s) p (ej cs a)->¬ai (bytesOf z) t (cr a.chunks)))
def AQ(co z:Option UJ)(cn v y x base:Nat)(s:U)(L:List (Bd×U))(w:F)(m:iX w base s L)(ab:L.length<=65536)(M:∀b∈L.map Uw,b.rows<=100):
 UB aI 45 #[.agg #[.slice co cn v,.slice z y x,s]] w λe w'=>e= .returned (.int .i64 (eU (L.map Uw):Int))/\aP w w':=by
 have C:∀p∈L,∃h g d,p.2= .slice h g d:=λp I=>by
  obtain⟨h,d,A⟩:=bC (m.each p I);exact⟨h,_,d,A⟩
 obtain⟨R,Q,D⟩:=bC m.own;have n:=QJ.bN qC m.own;subst D;obtain⟨P,j,k,V,E,n⟩:=n;cases E;have i:=af n;have u:=af C;have r:=af M;go_enter an.func45,Tryz.ntmps45
 go_wp2_with fail
 go_loopw [3,9] (λg o wr=>∃a:Nat,a<=L.length/\o= .int .i64 (a:Int)/\g= .int .i64 (eU ((L.map Uw).take a):Int)/\aP w wr) (λ_ o _=>L.length-(US o).toNat)
 case atStart=>exact⟨0,UE _,rfl,rfl,(Uo _ _).alloc (T6 _) _⟩
 case round=>
  obtain⟨a,aa,rfl,rfl,c⟩:=hrel;have q:=af c;have N:=c.size;by_cases f:a<L.length
  ·have H:a<(L.map Uw).length:=by rw[UG];exact f
   have l:X (eU ((L.map Uw).take (a+1))=eU ((L.map Uw).take a)+L[a].1.rows):=by
    show _=_;rw[Gy _ _ H];simp
   have ae:eU ((L.map Uw).take a)<=65536*100:=by
    have W:=Ew ((L.map Uw).take a) (λb c=>r.o b (List.mem_of_mem_take c));have B:((L.map Uw).take a).length<=65536:=by simp;omega
    have Z:=Nat.mul_le_mul_right 100 B;omega
   have ad:L[a].1.rows<=100:=r.o _ (U7.2 ⟨L[a],Ui f,rfl⟩);obtain⟨h,g,d,J⟩:=u.o L[a] (Ui f);have G:=i.o.addr (by omega);subst G;have t:=i.o.lt (by omega);have S:aM wr j (k+a*2) (.int .i64 (L[a].1.rows:Int)):=(c.cell (p:=⟨j,k+a*2,K⟩) t).trans (i.o.c a f 0 _ Y);have T:aM wr j (k+a*2+1) (.slice h g d):=(c.cell (p:=⟨j,k+a*2+1,K⟩) t).trans (by rw[<-J];exact i.o.c a f 1 _ Y);generalize L[a].1.rows=al at*;generalize eU ((L.map Uw).take a)=O at*
   go_wp2_with fail
   go_roundw
   case rel=>exact⟨a+1,by omega,by go_num,by rw[l.o];go_num,q.o.alloc N _⟩
   case measure=>simp[US];omega
  ·obtain rfl:a=L.length:=by omega
   have l:X ((L.map Uw).take L.length=L.map Uw):=by show _=_;rw[<-UG (f:=Uw),Vf]
   go_wp2;go_ret;exact⟨by first|rfl|(rw[l.o];rfl),q.o⟩
def QG{n:Nat}(h:n<256):Vb (n:Int)=(n:Int)/\XM.wrap (n:Int)=(n:Int):=by
 constructor
 ·unfold Vb;omega
 ·rw[WX];omega
def Sc (w:F)(r p:Nat)(s:ByteArray)(e:Xa)(w':F):Prop:=
 Kp r w w'/\((∃(a:List (bK×Int)) (c d:U),e= .returned (.tuple #[c,d])/\nS a/\ai (bytesOf s) p (yN a)/\p+(yN a).length<=s.size/\w'.heap[r]? =I (b9 s (p+(yN a).length))/\w'.ownsRow w.heap.size 63 2 c a.length (eG (a.map Uw))/\w'.ownsRow w.heap.size 3 1 d a.length (bz (a.map VU))/\(∀b,nS b->ai (bytesOf s) p (yN b)->b=a))\/
  (∃f,e= .panicked (eC f)/\∀a,nS a->¬ai (bytesOf s) p (yN a)))
def wO(r p:Nat)(s:ByteArray)(w:F)(gm:s.size<=65536)(fg:p<=s.size)(h:w.heap[r]? =I (b9 s p)):
 UB aI 94 #[.pointer (I ⟨r,0,K⟩)] w (Sc w r p s):=by
 obtain⟨f7,e3,f4,f5,f6⟩:=Ve an.F8;obtain⟨f8,fi,fz,f0,f1⟩:=Ve an.vC;have x:=Ud h;have M:s.size<=Up:=by unfold Up;omega
 have d3:=af h;go_enter an.func94,Tryz.ntmps94
 go_wp2_with fail
 refine(jJ r p s _ M fg d3.o).mono ?_;rintro d gt ⟨cd,⟨A,rfl,e9,fk,co,cf⟩|⟨t,rfl,o⟩⟩;rotate_left
 ·have au:X (∀a,nS a->¬ai (bytesOf s) p (yN a)):=λa e4 c=>o _ e4.each.2 (ax.1 c).1;have ar:=af cd;go_wp2;exact⟨rfl,ar.o,.inr ⟨t,rfl,au.o⟩⟩
 ·have a2:=af fk;have g:=af e9;obtain⟨y,c0⟩:∃y,y=p+(aL A).length:=⟨_,rfl⟩;have az:=af c0;rw[<-c0] at co cf;have d4:=af cf;have ar:=af cd;have gn:(A:Int)<2147483648:=by omega
  go_wp2_with fail
  go_loopw [2,3,7] (λee eh bc wr=>∃a:List (bK×Int),bc= .int .i64 (a.length:Int)/\Az rm Fq (bytesOf s) y A a/\y+(rm a).length<=s.size/\wr.heap[r]? =I (b9 s (y+(rm a).length))/\wr.ownsRow w.heap.size 63 2 ee a.length (eG (a.map Uw))/\wr.ownsRow w.heap.size 3 1 eh a.length (bz (a.map VU))/\Kp r w wr) (λ_ _ bc _=>A-(US bc).toNat)
  case atStart=>exact⟨[],rfl,Az.zero Y,by simpa [rm] using co,by simpa [rm] using d4.o,Vp _ _ _ _,Vp _ _ _ _,ar.o⟩
  case round=>
   obtain⟨a,rfl,ci,bb,eq,fb,fd,eo⟩:=hrel;have T:=af ci;have S:=af eq;have ap:=af eo;have Q:=af fb;have R:=af fd;have cs:a.length<=65536:=by have:=M3 a;omega
   have gi:=ci.le;obtain⟨m,c1⟩:∃m,m=y+(rm a).length:=⟨_,rfl⟩;have G:=af c1;rw[<-c1] at bb S;by_cases ba:a.length<A
   ·have O:X ((∀e,Fq e->¬ai (bytesOf s) m (C7 e))->∀b,nS b->¬ai (bytesOf s) p (yN b)):=λz b f c=>by
     obtain⟨J,u⟩:=ax.1 c;have L:=cz (by have:=f.each.2;omega) (by omega) J a2.o;rw[L] at u;refine T.o.fail (e:=λ_ e=>C7 e) qN ba (λe j=>?_) b L f.each.1 (by rw[az.o];exact u);rw[<-G.o];exact z e j
    go_wp2_with fail
    refine(jJ r m s _ M bb S.o).mono ?_;rintro d gv ⟨V,⟨v,rfl,fv,fl,cp,ch⟩|⟨t,rfl,o⟩⟩;rotate_left
    ·have au:=O.o (λe j c=>o _ j.n (ax.1 c).1);have g:=af au;have P:=af (ap.o.trans V);go_wp2;exact⟨rfl,P.o,.inr ⟨t,rfl,g.o⟩⟩
    ·have C:=af fv;have B:=af fl;have fx:v<=2147483648:=by omega
     have P:=af (ap.o.trans V);have dp:=af (V.own Q.o x);have dv:=af (V.own R.o x);obtain⟨q,c2⟩:∃q,q=m+(aL v).length:=⟨_,rfl⟩;have i:=af c2;rw[<-c2] at cp ch;have d5:=af ch
     go_wp2_with fail
     refine(Bt r q v s _ M cp fx d5.o).mono ?_;rintro d gx ⟨W,⟨k,rfl,f3,fm,e5,er⟩|⟨t,rfl,o⟩⟩;rotate_left
     ·have g:X (∀b,nS b->¬ai (bytesOf s) p (yN b)):=O.o (λe j c=>o (bytesOf e.1.name) (by rw[aj];exact Cg j C.o B.o c) (by unfold C7 at c;rw[Cg j C.o B.o (by unfold C7;exact c)] at c;rw[i.o];exact(ax.1 (ax.1 c).2).1));have D:=af (P.o.trans W);go_wp2;exact⟨rfl,D.o,.inr ⟨t,rfl,g.o⟩⟩
     ·have U:=af fm;have H:=af f3;have dc:=af (P.o.trans W);have dq:=af (W.own dp.o x);have dC:=af (W.own dv.o x);have b0:=af er;have f2:k.size<=65536:=by omega
      have c9:X (∀l,UB aI 66 #[.string k] l λd N=>d= .returned (.string k)/\aP l N):=λl=>xU k l f2
      go_upto_region 4 with(go_at_call 66;refine(c9.o _).mono ?_;rintro d gc ⟨rfl,ad⟩)
      have bm:=af (dc.o.trans (Kp.cq ad));have dr:=af (aK dq.o ad);have dE:=af (aK dC.o ad);have d6:X (gc.heap[r]? =I (b9 s (q+v))):=(ad.block _ (Ud b0.o)).trans b0.o
      go_wp2_with fail
      refine(AF r (q+v) s _ M e5 d6.o).mono ?_;rintro d c4 ⟨aa,⟨kd,rfl,cn,ft,e6,es⟩|⟨t,rfl,o⟩⟩;rotate_left
      ·have g:X (∀b,nS b->¬ai (bytesOf s) p (yN b)):=O.o (λe j c=>o _ (dG.2 (eV.1 (by have:=(Ch j C.o B.o H.o (by rw[<-i.o];exact U.o) c).2;rw[<-i.o] at this;exact this)).1));have D:=af (bm.o.trans aa);go_wp2;exact⟨rfl,D.o,.inr ⟨t,rfl,g.o⟩⟩
      ·have b2:=af ft;have bo:=af (bm.o.trans aa);have cv:=aa.own dr.o x;have av:=af cv;have bA:=af (aa.own dE.o x);have d7:=af es;have gq:=bo.o.size;have gs:=(QG cn).2;have bv:=af cn;have E:=af cs;have df:=af e6
       go_upto_region 5 with(at_builtin;refine wpList_append_lies _ Y _ _ 44 Y w.heap.size 63 f7 _ 2 24 an.underlying44 e3 f4 f5 f6 Y (by decide) _ a.length _ Y (cv.alloc _) ⟨c4.heap.size,0,K⟩ 1 1 [.string k,.int .i64 (kd:Int)] Y Y (IJ c4 _ _ _) (by intro f9 z;simp at z;rcases z with rfl|rfl<;>rfl) (by decide) (by have:=E.o;unfold Up;omega) (by have:=E.o;omega) (by simp;omega) _ Y ?_;intro el b5 bd fe e1 eQ gj)
       have a8:=aR.ji (n:=a.length+1) (cap:=b5) e1 eQ;have br:X (Kp r w bd):=bo.o.grown a8.fN (λa5 a7=>(av.o.lt a5 a7).1);have d8:X (bd.heap[r]? =I (b9 s (q+v+1))):=(a8.fN.block r (by omega) (λd=>by have:=(av.o.lt r d.symm).1;omega)).trans d7.o;have ds:=af fe;have dO:X (bd.ownsRow w.heap.size 3 1 u3 a.length (bz (a.map VU))):=bF bA.o a8 (dP bA.o av.o (by decide));generalize Vg (I ⟨el,0,K⟩) (a.length+1) b5=ef at*
       go_wp2_with fail
       refine(AF r (q+v+1) s _ M df.o d8.o).mono ?_;rintro d c5 ⟨ab,⟨n,rfl,cl,fu,e7,et⟩|⟨t,rfl,o⟩⟩;rotate_left
       ·have g:X (∀b,nS b->¬ai (bytesOf s) p (yN b)):=O.o (λe j c=>o _ (by have:=(Ch j C.o B.o H.o (by rw[<-i.o];exact U.o) c).2;rw[<-i.o] at this;exact(eV.1 this).2));have D:=af (br.o.trans ab);go_wp2;exact⟨rfl,D.o,.inr ⟨t,rfl,g.o⟩⟩
       ·have b3:=af fu;have bs:=af (br.o.trans ab);have bx:=af (ab.own ds.o x);have cx:=ab.own dO.o x;have aw:=af cx;have d9:=af et;have gr:=bs.o.size;have gg:=(QG cl).2;have bl:=af cl;have dk:=af e7
        go_upto_region 6 with(at_builtin;refine wpList_append_lies _ Y _ _ 22 Y w.heap.size 3 f8 _ 1 8 an.underlying22 fi fz f0 f1 Y (by decide) _ a.length _ Y (cx.alloc _) ⟨c5.heap.size,0,K⟩ 1 1 [.int .i64 (n:Int)] Y Y (gR c5 _ _) (by intro f9 z;simp at z;subst z;rfl) (by decide) (by have:=E.o;unfold Up;omega) (by have:=E.o;omega) (by simp;omega) _ Y ?_;intro cb a4 al cR e2 e0 gl)
        have a9:=aR.ji (n:=a.length+1) (cap:=a4) e2 e0;have dd:X (Kp r w al):=bs.o.grown a9.fN (λa5 a7=>(aw.o.lt a5 a7).1);have ea:X (al.heap[r]? =I (b9 s (q+v+1+1))):=(a9.fN.block r (by omega) (λd=>by have:=(aw.o.lt r d.symm).1;omega)).trans d9.o;have dT:X (al.ownsRow w.heap.size 3 1 (.slice (I ⟨cb,0,K⟩) (a.length+1) a4) (a++[((⟨k,(kd:Int)⟩:bK),(n:Int))]).length (bz ((a++[((⟨k,(kd:Int)⟩:bK),(n:Int))]).map VU))):=by
         show World.ownsRow _ _ _ _ _ _ _;rw[T8,U0];unfold bz at cR ⊢;rw[U0];exact cR
        have dt:X (al.ownsRow w.heap.size 63 2 ef (a++[((⟨k,(kd:Int)⟩:bK),(n:Int))]).length (eG ((a++[((⟨k,(kd:Int)⟩:bK),(n:Int))]).map Uw))):=by
         have:=bF bx.o a9 (dP bx.o aw.o (by decide));show World.ownsRow _ _ _ _ _ _ _;rw[T8,U0,rC];exact this
        have c3:=J1 B.o H.o (by rw[<-i.o];exact U.o) (by rw[<-i.o];exact b2.o) (by rw[<-i.o];exact b3.o) bv.o bl.o;have dl:X (Az rm Fq (bytesOf s) y A (a++[((⟨k,(kd:Int)⟩:bK),(n:Int))])):=T.o.more (e:=λ_ e=>C7 e) qN ba ⟨by have:=H.o;have:=C.o;show k.size<_;omega,by show(0:Int)<=(kd:Int);omega,by have:=bv.o;show(kd:Int)<256;omega,by show(0:Int)<=(n:Int);omega,by have:=bl.o;show(n:Int)<256;omega⟩ (by rw[<-G.o];exact c3.1) (λe j c=>by
         rw[<-G.o] at c;exact Rs j C.o B.o H.o (by rw[<-i.o];exact U.o) (by rw[<-i.o];exact b2.o) (by rw[<-i.o];exact b3.o) c)
        have bB:X (y+(rm (a++[((⟨k,(kd:Int)⟩:bK),(n:Int))])).length=q+v+1+1):=by
         show _=_;have J:=G.o;have u:=i.o;rw[qN,T8,c3.2];omega
        generalize Vg (I ⟨cb,0,K⟩) (a.length+1) a4=gf at*;have cs:=E.o
        go_wp2_with fail
        go_roundw
        case rel=>exact⟨_,by rw[T8];go_num,dl.o,by rw[bB.o];exact dk.o,by rw[bB.o];exact ea.o,dt.o,dT.o,dd.o⟩
        case measure=>simp[US];omega
   ·have ao:=T.o.done ba;have a3:X (∀b,nS b->ai (bytesOf s) p (yN b)->b=a):=λb f c=>by
     obtain⟨J,u⟩:=ax.1 c;have L:=cz (by have:=f.each.2;omega) (by omega) J a2.o;rw[L,<-az.o] at u;exact ao.2 b L f.each.1 u
    have a0:X (p+(yN a).length=m/\ai (bytesOf s) p (yN a)):=by
     have J:=G.o;have u:=az.o;have cc:=ao.1;refine⟨by unfold yN;rw[T8,cc];omega,?_⟩;unfold yN;rw[cc];exact ax.2 ⟨a2.o,by rw[<-u];exact T.o.st⟩
    have d1:=af bb;obtain⟨b6,aJ,rfl⟩:=bC Q.o;obtain⟨ca,bV,rfl⟩:=bC R.o;have bj:X (vm wr (.slice b6 a.length aJ) (a.map Uw)):=vm.bN (by rw[UG];exact Q.o);have db:X (rz wr (.slice ca a.length bV) (a.map VU)):=rz.bN (by rw[UG];exact R.o);have cu:(a.map Uw).length<=Up:=by rw[UG];unfold Up;omega
    have e8:(a.map VU).length<=Up:=by rw[UG];unfold Up;omega
    have c7:=af (mr (a.map Uw) _ wr cu bj.o);have c8:X (∀l,aP wr l->UB aI 57 #[.slice ca a.length bV,.slice b6 a.length aJ] l λd N=>∃b4,d= .returned (.bool b4)/\(b4=Z↔lB (a.map Uw) (a.map VU))/\aP l N):=λl ck=>nU (a.map Uw) (a.map VU) _ _ l cu e8 (bj.o.below ck) (db.o.lower ck);have fa:A=a.length:=ao.1.symm;subst fa
    go_wp2_with fail
    refine c7.o.mono ?_;rintro d c6 ⟨eb,rfl,em,a6⟩;have bt:=af (ap.o.trans (Kp.cq a6));have a1:X (c6.heap[r]? =I (b9 s m)):=(a6.block r (Ud S.o)).trans S.o;have am:=af a6;have be:=af em;cases eb
    ·have g:X (∀b,nS b->¬ai (bytesOf s) p (yN b)):=λb f c=>by
      have:=a3.o b f c;rw[this] at f;exact absurd (be.o.2 f.1) (by simp)
     go_wp2_with (go_at_call 97;refine(b7 r m s _ a1.o).mono ?_;rintro d N ⟨rfl,rfl⟩)
     exact⟨rfl,bt.o,.inr ⟨_,rfl,g.o⟩⟩
    ·have da:=af (be.o.1 Y)
     go_wp2_with fail
     refine(c8.o c6 am.o).mono ?_;rintro d ge ⟨ec,rfl,en,ae⟩;have bu:=af (bt.o.trans (Kp.cq ae));have b1:X (ge.heap[r]? =I (b9 s m)):=(ae.block r (Ud a1.o)).trans a1.o;have du:=af (aK (aK Q.o am.o) ae);have d0:=af (aK (aK R.o am.o) ae);have bi:=af en;cases ec
     ·have g:X (∀b,nS b->¬ai (bytesOf s) p (yN b)):=λb f c=>by
       have:=a3.o b f c;rw[this] at f;exact absurd (bi.o.2 f.2) (by simp)
      go_wp2_with (go_at_call 97;refine(b7 r m s _ b1.o).mono ?_;rintro d N ⟨rfl,rfl⟩)
      exact⟨rfl,bu.o,.inr ⟨_,rfl,g.o⟩⟩
     ·have d2:X (nS a):=⟨da.o,bi.o.1 Y⟩;go_wp2
      go_ret2
      exact⟨bu.o,.inl ⟨a,_,_,rfl,d2.o,a0.o.2,by rw[a0.o.1];exact d1.o,by rw[a0.o.1];exact b1.o,du.o,d0.o,a3.o⟩⟩
def LQ{W:F}{base n cap:Nat}{co:Option UJ}{cs:List bK}(h:W.ownsRow base 63 2 (.slice co n cap) cs.length (eG cs))(l:0<cs.length):∃g,co=I ⟨g,0,K⟩/\base<=g/\g<W.heap.size/\xA W co g 0 cs:=by
 rcases h.2 with⟨e,m⟩|⟨g,j,k,e,i,f,q,o,p,r⟩
 ·omega
 ·cases e;have d:=h.cells (g:=g) Y;refine⟨g,rfl,i,Ud f,⟨λ_=>rfl,λ_=>Ud f,λc b=>?_,λc b=>?_⟩⟩
  ·have:=d _ _ (lP (λa:bK=>[Value.string a.name,VY .i64 a.kind]) 2 (λ_=>rfl) cs c b 0 _ Y);simpa [VL] using this
  ·have:=d _ _ (lP (λa:bK=>[Value.string a.name,VY .i64 a.kind]) 2 (λ_=>rfl) cs c b 1 _ Y);simpa [VL] using this
def Cq(cs:List bK)(dO:U)(r p q t base:Nat)(s z:ByteArray)(w:F)(ha:r≠q)(g7:s.size<=65536)(hc:z.size<=65536)(ge:p<=s.size)(gf:t<=z.size)(h:w.heap[r]? =I (b9 s p))(k:w.heap[q]? =I (b9 z t))(f2:r<base)(f3:q<base)
 (cf:w.ownsRow base 63 2 dO cs.length (eG cs)) (g5:cs.length<=8) (d9:∀i (h:i<cs.length),cs[i].kind=1\/cs[i].kind=2\/cs[i].kind=3):
 UB aI 96 #[.pointer (I ⟨r,0,K⟩),.pointer (I ⟨q,0,K⟩),dO] w (Sb cs w r p s q t z):=by
 obtain⟨gm,f7,gg,gi,gj⟩:=Ve an.Ij;have a5:r<w.heap.size:=Ud h;have a4:q<w.heap.size:=Ud k;have ci:s.size<=Up:=by unfold Up;omega
 have gl:z.size<=Up:=by unfold Up;omega
 have fg:=af d9;obtain⟨fz,aJ,rfl⟩:=bC cf;have e8:=af cf;have df:X ((w.alloc (.cells #[.int .i64 0,aO] 139)).heap[r]? =I (b9 s p)):=by
  show _=_;rw[UN _ _ r a5];exact h
 have c8:X ((w.alloc (.cells #[.int .i64 0,aO] 139)).heap[q]? =I (b9 z t)):=by
  show _=_;rw[UN _ _ q a4];exact k
 have bo:X (jP r q w (w.alloc (.cells #[.int .i64 0,aO] 139))):=(jP.refl r q w).alloc _;clear h k cf d9;go_enter an.func96,Tryz.ntmps96
 go_wp2_with fail
 refine(jJ r p s _ ci ge df.o).mono ?_;rintro P E ⟨ab,⟨c,rfl,el,eq,ec,d1⟩|⟨m,rfl,C⟩⟩;rotate_left
 ·have G:X (∀b,eK cs b->ai (bytesOf s) p (ej cs b)->¬ai (bytesOf z) t (cr b.chunks)):=λb x ad=>(C _ (by have:=x.hi;omega) (ax.1 ad).1).elim;have fa:X (jP r q w E):=bo.o.trans (jP.jv ab);clear C ab;go_wp2;exact⟨rfl,fa.o,.inr ⟨m,rfl,G.o⟩⟩
 ·have dT:E.heap[q]? =I (b9 z t):=Kp.block ab c8.o (by omega);have f:mg w (E.alloc (.cells #[.int .i64 (c:Int),aO] 139)) E.heap.size r q c aO []:=by
   refine⟨?_,bk E _,Vp _ _ _ _,(bo.o.trans (jP.jv ab)).alloc _⟩;have:=Kp.block ab (V3 w (.cells #[.int .i64 0,aO] 139)) (by omega);exact alloc_old _ (by simpa using Ud this) this
  have aw:w.heap.size<E.heap.size:=by have:=ab.size;simp at this;omega
  have cb:(E.alloc (.cells #[.int .i64 (c:Int),aO] 139)).heap[r]? =I (b9 s (p+(aL c).length)):=by rw[UN _ _ r (by omega)];exact d1
  have d0:(E.alloc (.cells #[.int .i64 (c:Int),aO] 139)).heap[q]? =I (b9 z t):=by rw[UN _ _ q (by omega)];exact dT
  go_upto_region 2 with fail
  generalize E.alloc (.cells #[.int .i64 (c:Int),aO] 139)=gv at*;generalize E.heap.size=j at*;clear ab d1 dT df c8 bo;clear E;obtain⟨M,cl⟩:∃M,M=p+(aL c).length:=⟨_,rfl⟩;have br:=af cl;rw[<-cl] at cb ec;have ba:=af eq;have a9:=af cb;have c9:=af d0;have R:=af f;obtain⟨be,a7,cu⟩:=f.cells;clear eq cl cb d0 f;by_cases d8:1<=c/\c<=100;rotate_left
  ·have G:X (∀b,eK cs b->ai (bytesOf s) p (ej cs b)->¬ai (bytesOf z) t (cr b.chunks)):=λb x ad=>by
    have:=cz (by have:=x.hi;omega) (by omega) (ax.1 ad).1 ba.o;have T:=x.lo;have k:=x.hi;omega
   by_cases g4:c<1
   ·have ch:decide ((c:Int)<1)=Z:=by simp;omega
    go_wp2_with (go_at_call 97;refine(b7 r M s _ a9.o).mono ?_;rintro P gs ⟨rfl,rfl⟩)
    exact⟨rfl,R.o.kp,.inr ⟨_,rfl,G.o⟩⟩
   ·have ch:decide ((c:Int)<1)=T5:=by simp;omega
    have d6:decide (100<(c:Int))=Z:=by simp;omega
    go_wp2_with (go_at_call 97;refine(b7 r M s _ a9.o).mono ?_;rintro P gs ⟨rfl,rfl⟩)
    exact⟨rfl,R.o.kp,.inr ⟨_,rfl,G.o⟩⟩
  ·have ch:decide ((c:Int)<1)=T5:=by simp;omega
   have d6:decide (100<(c:Int))=T5:=by simp;omega
   have c3:=af d8;have c7:=af el
   go_upto_region 4 with fail
   clear ch d6 d8 el be a7 cu
   go_wp2_with fail
   go_loopw [26] (λi wr=>∃(a:List ki) (e:U),i= .int .i64 (a.length:Int)/\Q2 (wJ cs) cr (Fl cs) (bytesOf s) M (bytesOf z) t cs.length a/\mg w wr j r q c e a/\M+(wJ cs a).length<=s.size/\wr.heap[r]? =I (b9 s (M+(wJ cs a).length))/\t+(cr a).length<=z.size/\wr.heap[q]? =I (b9 z (t+(cr a).length))) (λi _=>cs.length-(US i).toNat)
   case atStart=>exact⟨[],_,rfl,Q2.zero Y Y,R.o,by simpa [wJ,fj] using ec,by simpa [wJ,fj] using a9.o,by simpa [cr] using gf,by simpa [cr] using c9.o⟩
   case round=>
    clear R a9 c9;obtain⟨a,e,rfl,b4,f,eo,b6,cp,b5⟩:=hrel;have ao:=af b4;have R:=af f;obtain⟨D,cn⟩:∃D,D=M+(wJ cs a).length:=⟨_,rfl⟩;obtain⟨N,a6⟩:∃N,N=t+(cr a).length:=⟨_,rfl⟩;have a0:=af cn;have ap:=af a6;rw[<-cn] at eo b6;rw[<-a6] at cp b5;have bv:=af b6;have bt:=af b5;have f9:a.length<=cs.length:=b4.le;have hb:w.heap.size<=wr.heap.size:=f.kp.size;have c1:X (wr.ownsRow base 63 2 (.slice fz cs.length aJ) cs.length (eG cs)):=f.kp.own e8.o f2 f3;clear b4 cn a6 b6 b5;by_cases V:a.length<cs.length
    ·have bm:X ((∀O,Fl cs a.length O->ai (bytesOf s) D (Lc cs a O)->¬ai (bytesOf z) N (bytesOf O.text))->∀b,eK cs b->ai (bytesOf s) p (ej cs b)->¬ai (bytesOf z) t (cr b.chunks)):=λa6 b x ad a2=>by
      obtain⟨T,k⟩:=ax.1 ad;have a3:=cz (by have:=x.hi;omega) (by have:=c7.o;omega) T ba.o;rw[a3,<-br.o] at k;refine ao.o.fail (e:=Lc cs) (g:=λ_ d=>bytesOf d.text) (uj cs) sx V (λO L l Q=>?_) b.chunks x.len x.each k a2;rw[<-a0.o] at l;rw[<-ap.o] at Q;exact a6 O L l Q
     obtain⟨g1,f6,f4,f5,cd⟩:=LQ c1.o (by omega);subst f6;have e2:=cd.c0 a.length V;have e3:=cd.c1 a.length V;simp only[UT] at e2 e3;have c4:X (cs[a.length].kind=1\/cs[a.length].kind=2\/cs[a.length].kind=3):=fg.o a.length V;have am:X (cs.getD a.length ⟨⟨#[]⟩,0⟩=cs[a.length]):=by show _=_;rw[Uh,Ul V];rfl
     clear cd f c1 f4 f5;generalize a2:cs[a.length]=d at*;clear a2
     go_upto_region 7 with fail
     have bB:X (mg w (wr.alloc (.cells #[.string d.name,.int .i64 d.kind] 63)) j r q c e a):=R.o.below ((Uo _ _).alloc (T6 _) _);have dp:X ((wr.alloc (.cells #[.string d.name,.int .i64 d.kind] 63)).heap[r]? =I (b9 s D)):=by show _=_;rw[UN _ _ r (by omega)];exact bv.o
     have da:X ((wr.alloc (.cells #[.string d.name,.int .i64 d.kind] 63)).heap[q]? =I (b9 z N)):=by show _=_;rw[UN _ _ q (by omega)];exact bt.o
     have dv:X ((wr.alloc (.cells #[.string d.name,.int .i64 d.kind] 63)).heap[wr.heap.size]? =I (.cells #[.string d.name,.int .i64 d.kind] 63 (0,0))):=bk wr _;have g6:j<wr.heap.size:=Ud R.o.box;generalize wr.alloc (.cells #[.string d.name,.int .i64 d.kind] 63)=gy at*;generalize wr.heap.size=u at*;clear e2 e3 R bv bt;clear wr
     go_wp2_with fail
     refine(jJ r D s _ ci eo dp.o).mono ?_;rintro P bi ⟨au,⟨v,rfl,eQ,er,ee,ca⟩|⟨m,rfl,C⟩⟩;rotate_left
     ·have G:X (∀b,eK cs b->ai (bytesOf s) p (ej cs b)->¬ai (bytesOf z) t (cr b.chunks)):=bm.o (λO L l Q=>C _ L.n (ax.1 l).1);have fb:X (jP r q w bi):=bB.o.kp.trans (jP.jv au);clear C au;go_wp2;exact⟨rfl,fb.o,.inr ⟨m,rfl,G.o⟩⟩
     ·have b1:=af eQ;have bA:=af er;have e0:v<=2147483648:=by omega
      have b0:X (mg w bi j r q c e a):=bB.o.step a5 a4 aw (jP.jv au);have db:X (bi.heap[q]? =I (b9 z N)):=Kp.block au da.o (by omega);have dC:X (bi.heap[u]? =I (.cells #[.string d.name,.int .i64 d.kind] 63 (0,0))):=Kp.block au dv.o (by omega);obtain⟨ae,co⟩:∃ae,ae=D+(aL v).length:=⟨_,rfl⟩;have bs:=af co;rw[<-co] at ee ca;have dk:=af ca;clear er co au ca bB dp da dv eQ
      go_wp2_with fail
      refine(Bt q N v z _ gl cp e0 db.o).mono ?_;rintro P n ⟨av,⟨g,rfl,e1,es,ef,d2⟩|⟨m,rfl,C⟩⟩;rotate_left
      ·have G:X (∀b,eK cs b->ai (bytesOf s) p (ej cs b)->¬ai (bytesOf z) t (cr b.chunks)):=bm.o (λO L l Q=>C (bytesOf O.text) (by rw[aj];exact cz (by have:=L.n;omega) (by have:=b1.o;omega) (ax.1 l).1 bA.o) Q);have fd:X (jP r q w n):=b0.o.kp.trans (jP.Ea av);clear C av;go_wp2;exact⟨rfl,fd.o,.inr ⟨m,rfl,G.o⟩⟩
      ·have ds:=af es;have bc:=af e1;have bb:X (mg w n j r q c e a):=b0.o.step a5 a4 aw (jP.Ea av);have b2:X (n.heap[u]? =I (.cells #[.string d.name,.int .i64 d.kind] 63 (0,0))):=Kp.block av dC.o (by omega);have dq:X (n.heap[r]? =I (b9 s ae)):=Kp.block av dk.o (by omega);have dc:=af d2;have fk:=af ef;have dl:X (UB aI 131 #[.pointer (I ⟨r,0,K⟩),.int .i64 d.kind] n.drew (Hv n.drew r ae s d.kind)):=yX d.kind c4.o r ae s n.drew ci ee dq.o;clear es e1 av d2 b0 dC dk db ef e0;obtain⟨be,a7,cu⟩:=bb.o.cells;have e4:aM n u 1 (.int .i64 d.kind):=by have:=b2.o;simp[Ur,this]
       have e7:=af c4.o
       go_upto_region 8 with fail
       refine Un.open_ (λy=>aM y j 1 e/\aM y u 1 (.int .i64 d.kind)) 11 (λ_ _ _ _ _ h=>h) λg9=>?_;have a1:(λy=>aM y j 1 e/\aM y u 1 (.int .i64 d.kind)) n.drew:=⟨a7,e4⟩;refine Un.pk 0 ?_
       try simp only[UW,Ub,Uk,Uj]
       refine Un.ld [11] 1 ?_
       try simp only[UW,Ub,Uk,Uj]
       refine Un.pk 2 ?_
       try simp only[UW,Ub,Uk,Uj]
       refine Un.pk 3 ?_
       try simp only[UW,Ub,Uk,Uj]
       refine Un.pk 4 ?_
       try simp only[UW,Ub,Uk,Uj]
       refine Un.ld [11] 5 ?_
       try simp only[UW,Ub,Uk,Uj]
       refine Un.on 6 λW B=>?_;go_simp;go_at_call 131;refine dl.o.mono ?_;rintro P o ⟨J,⟨b,rfl,d5,et,eh,d3⟩|⟨m,rfl,C⟩⟩;rotate_left
       ·have J:=(Kp.cq (r:=r) ((Uo n.heap.size n).drew)).trans J;have G:X (∀b,eK cs b->ai (bytesOf s) p (ej cs b)->¬ai (bytesOf z) t (cr b.chunks)):=bm.o (λO L l Q=>by
         unfold Lc at l;obtain⟨bd,dE⟩:=ax.1 l;have f0:=cz (by have:=L.n;omega) (by have:=b1.o;omega) bd bA.o;rw[f0,am.o,<-bs.o] at dE;have x:=L.b;rw[am.o] at x;exact C _ x dE)
        have fe:X (jP r q w o):=bb.o.kp.trans (jP.jv J);clear C J;exact⟨rfl,fe.o,.inr ⟨m,rfl,G.o⟩⟩
       ·have J:=(Kp.cq (r:=r) ((Uo n.heap.size n).drew)).trans J;unfold FD;have H:X (mg w o j r q c e a):=bb.o.step a5 a4 aw (jP.jv J);have dr:=af d3;have dd:X (o.heap[q]? =I (b9 z (N+v))):=Kp.block J dc.o (by omega);have ar:X (o.heap[u]? =I (.cells #[.string d.name,.int .i64 d.kind] 63 (0,0))):=Kp.block J b2.o (by omega);have e6:=af d5;have fu:=af et;have fl:=af eh;obtain⟨-,cv,-⟩:=H.o.cells;have bj:aM o u 1 (.int .i64 d.kind):=by have:=ar.o;simp[Ur,this]
        refine B.o _ _ (λ_=>⟨cv,bj⟩) ?_;clear B W a1 J d3 d5 et eh be a7 cu e4 bb b2 dq dc dl
        try simp only[UW,Ub,Uk,Uj]
        have a1:(λy=>aM y j 1 e/\aM y u 1 (.int .i64 d.kind)) o:=⟨cv,bj⟩;refine Un.pk 7 ?_
        try simp only[UW,Ub,Uk,Uj]
        refine Un.on 8 λW B=>?_;go_simp;have du:X (mg w (o.alloc (.cells (dH ⟨g,b⟩).toArray 143)) j r q c e a):=H.o.below ((Uo _ _).alloc (T6 _) _);have e5:(o.alloc (.cells (dH ⟨g,b⟩).toArray 143)).cell? ⟨u,1,K⟩=I (.int .i64 d.kind):=(((Uo o.heap.size o).alloc (T6 _) _).cell (p:=⟨u,1,K⟩) (Ud ar.o)).trans bj;refine B.o _ _ (λ_=>⟨du.o.cells.2.1,e5⟩) ?_;clear B W a1
        try simp only[UW,Ub,Uk,Uj]
        refine Un.one (i:=9) (by kernel_rfl) Y (λW B=>?_);have en:=H.o.own;have hd:w.heap.size<=o.heap.size:=H.o.kp.size;refine WK _ (by rfl) _ _ 137 (by rfl) w.heap.size 143 gm _ 8 88 an.underlying137 f7 gg gi gj Y (by decide) e a.length _ (by rfl) (en.alloc _) ⟨o.heap.size,0,K⟩ 1 1 (dH ⟨g,b⟩) (by rfl) Y (ya o ⟨g,b⟩ _) (ur _) (by decide) (by unfold Up;omega) (by omega) (by simp;omega) _ Y ?_;intro A S al ck d7 d4 gc;have az:=aR.ji (n:=a.length+1) (cap:=S) d7 d4;have em:al.ownsRow w.heap.size 143 8 (.slice (I ⟨A,0,K⟩) (a.length+1) S) (a++[(⟨g,b⟩:ki)]).length (ei (a++[(⟨g,b⟩:ki)])):=by
         unfold ei at ck ⊢;rw[Vi,Vc,T8];exact ck
        have e9:X (mg w (al.setCell ⟨j,1,K⟩ (.slice (I ⟨A,0,K⟩) (a.length+1) S)) j r q c (.slice (I ⟨A,0,K⟩) (a.length+1) S) (a++[(⟨g,b⟩:ki)])):=H.o.jO aw az em;have bx:X ((al.setCell ⟨j,1,K⟩ (.slice (I ⟨A,0,K⟩) (a.length+1) S)).heap[r]? =I (b9 s (ae+(cm d.kind b).length))):=H.o.reader aw az a5 dr.o;have bu:X ((al.setCell ⟨j,1,K⟩ (.slice (I ⟨A,0,K⟩) (a.length+1) S)).heap[q]? =I (b9 z (N+v))):=H.o.reader aw az a4 dd.o;obtain⟨cx,gt⟩:=H.o.kept az;have cR:aM al u 1 (.int .i64 d.kind):=by
         have:=(az.fN.block _ (Ud ar.o) (bw H.o.own ar.o (by decide))).trans ar.o;simp[Ur,this]
        refine B.o _ _ (λ_=>⟨cx,cR⟩) ?_;clear B W en ck d7 d4 gc em az
        try simp only[UW,Ub,Uk,Uj]
        have a1:(λy=>aM y j 1 e/\aM y u 1 (.int .i64 d.kind)) al:=⟨cx,cR⟩;refine Un.pk 10 ?_
        try simp only[UW,Ub,Uk,Uj]
        refine Un.on 11 λW B=>?_;go_simp;refine B.o _ _ (λh=>absurd h (by decide)) ?_;clear B W a1 cx gt cR cv bj e5;refine Un.done (by kernel_rfl) ?_ _
        try simp only[UW,Ub,Uk,Uj]
        clear H du dr dd ar;generalize al.setCell ⟨j,1,K⟩ (.slice (I ⟨A,0,K⟩) (a.length+1) S)=gx at*;generalize Vg (I ⟨A,0,K⟩) (a.length+1) S=he at*;have c0:X (Fl cs a.length ⟨g,b⟩):=⟨by have:=bc.o;have:=b1.o;show g.size<_;omega,by rw[am.o];exact e6.o⟩;have dt:X (ai (bytesOf s) D (Lc cs a ⟨g,b⟩)):=by
         show ai _ _ (aL g.size++cm (cs.getD a.length ⟨⟨#[]⟩,0⟩).kind b);rw[bc.o,am.o];exact ax.2 ⟨bA.o,by rw[<-bs.o];exact fu.o⟩
        have c5:X (M+(wJ cs (a++[(⟨g,b⟩:ki)])).length=ae+(cm d.kind b).length):=by
         show _=_;rw[uj,T8];have T:(Lc cs a ⟨g,b⟩).length=(aL v).length+(cm d.kind b).length:=by
          show(aL g.size++cm (cs.getD a.length ⟨⟨#[]⟩,0⟩).kind b).length=_;rw[bc.o,am.o,T8]
         have k:=a0.o;have l:=bs.o;omega
        have c6:X (t+(cr (a++[(⟨g,b⟩:ki)])).length=N+v):=by
         show _=_;rw[sx,T8,aj];have T:=ap.o;have k:=bc.o;simp only;omega
        have fm:X (Q2 (wJ cs) cr (Fl cs) (bytesOf s) M (bytesOf z) t cs.length (a++[(⟨g,b⟩:ki)])):=by
         refine ao.o.more (e:=Lc cs) (g:=λ_ d=>bytesOf d.text) (uj cs) sx V c0.o (by rw[<-a0.o];exact dt.o) (by rw[<-ap.o];exact ds.o) (λO L l Q=>?_);rw[<-a0.o] at l;rw[<-ap.o] at Q;exact Q1 (by rw[am.o];exact e7.o) c0.o L dt.o l ds.o Q
        go_wp2_with fail
        go_roundw
        case rel=>exact⟨a++[(⟨g,b⟩:ki)],_,by rw[T8];go_num,fm.o,e9.o,by rw[c5.o];exact fl.o,by rw[c5.o];exact bx.o,by rw[c6.o];exact fk.o,by rw[c6.o];exact bu.o⟩
        case measure=>simp[US];omega
    ·have a8:=ao.o.done V;obtain⟨gn,fE,ea⟩:=bC f.own;rw[a8.1] at ea;subst ea;generalize f8:Vg gn cs.length fE=e at f;obtain⟨be,a7,-⟩:=f.cells;have T:=Uq wr w.heap.size 0 _ _ (.int .i64 (c:Int)) f.res;have k:=Uq _ w.heap.size 1 _ _ e T;have ft:X (((wr.setCell ⟨w.heap.size,0,K⟩ (.int .i64 (c:Int))).setCell ⟨w.heap.size,1,K⟩ e).ownsRow w.heap.size 143 8 e a.length (ei a)):=by
      have bd:=f.own.kept (aQ wr w.heap.size 0 (.int .i64 (c:Int))) (.inr (bw f.own f.res (by decide)).symm);exact bd.kept (aQ _ w.heap.size 1 e) (.inr (bw bd T (by decide)).symm)
     have fi:X (jP r q w ((wr.setCell ⟨w.heap.size,0,K⟩ (.int .i64 (c:Int))).setCell ⟨w.heap.size,1,K⟩ e)):=(f.kp.grown (aQ wr w.heap.size 0 _) (λf1 P=>by cases P;exact T6 _)).grown (aQ _ w.heap.size 1 _) (λf1 P=>by cases P;exact T6 _);have bx:X (((wr.setCell ⟨w.heap.size,0,K⟩ (.int .i64 (c:Int))).setCell ⟨w.heap.size,1,K⟩ e).heap[r]? =I (b9 s D)):=by
      show _=_;rw[Ut _ _ _ _ (by simp;omega),Ut _ _ _ _ (by simp;omega)];exact bv.o
     have bu:X (((wr.setCell ⟨w.heap.size,0,K⟩ (.int .i64 (c:Int))).setCell ⟨w.heap.size,1,K⟩ e).heap[q]? =I (b9 z N)):=by
      show _=_;rw[Ut _ _ _ _ (by simp;omega),Ut _ _ _ _ (by simp;omega)];exact bt.o
     have hf:aM wr w.heap.size 0 (.int .i64 0):=by have:=f.res;simp[Ur,this]
     have hg:aM wr w.heap.size 1 aO:=by have:=f.res;simp[Ur,this]
     have g2:wr.frozen? ⟨w.heap.size,0,K⟩=T5:=by have:=f.res;simp[UQ,this]
     have g3:wr.frozen? ⟨w.heap.size,1,K⟩=T5:=by have:=f.res;simp[UQ,this]
     have gq:((wr.setCell ⟨w.heap.size,0,K⟩ (.int .i64 (c:Int))).setCell ⟨w.heap.size,1,K⟩ e).cell? ⟨w.heap.size,0,K⟩=I (.int .i64 (c:Int)):=by simp[Ur,k]
     have gr:((wr.setCell ⟨w.heap.size,0,K⟩ (.int .i64 (c:Int))).setCell ⟨w.heap.size,1,K⟩ e).cell? ⟨w.heap.size,1,K⟩=I e:=by simp[Ur,k]
     have bl:X ((ej cs ⟨c,a⟩).length+p=D/\ai (bytesOf s) p (ej cs ⟨c,a⟩)):=by
      have b3:=br.o;have A:=a0.o;refine⟨by show(aL c++wJ cs a).length+p=D;rw[T8];omega,?_⟩;exact ax.2 ⟨ba.o,by rw[<-b3];exact ao.o.st⟩
     have fx:X (∀aa,eK cs aa->ai (bytesOf s) p (ej cs aa)->ai (bytesOf z) t (cr aa.chunks)->aa=⟨c,a⟩):=λaa cc ad a2=>by
      obtain⟨b3,A⟩:=ax.1 ad;have a3:=cz (by have:=cc.hi;omega) (by have:=c7.o;omega) b3 ba.o;rw[a3,<-br.o] at A;have eb:=a8.2 aa.chunks cc.len cc.each A a2;obtain⟨g0,b⟩:=aa;simp only at a3 eb;rw[a3,eb]
     have c2:X (eK cs ⟨c,a⟩):=⟨c3.o.1,c3.o.2,a8.1,ao.o.Rm⟩;have fv:=af ao.o.sc;clear T k f a8 f9 V;subst f8;have g8:a.length=cs.length:=c2.o.len;go_wp2;simp[VR,UX,Tryz.results96,go_sem,gq,gr]
     trace_state
     exact⟨fi.o,.inl ⟨⟨c,a⟩,_,rfl,c2.o,bl.o.2,by have:=bl.o.1;omega,by have:=bl.o.1;rw[show p+(ej cs ⟨c,a⟩).length=D by omega];exact bx.o,fv.o,by rw[<-ap.o];exact cp,by rw[<-ap.o];exact bu.o,ft.o,fx.o⟩⟩
structure lC(w W:F)(g r q:Nat)(l:List (bK×Int))(co eo:Option UJ)(cc ec:Nat)(bv:U)(L:List (Bd×U)):Prop where
 res:W.heap[w.heap.size]? =I (.cells #[aO,aO,aO] 105 (0,0))
 box:W.heap[g]? =I (.cells #[.slice co l.length cc,.slice eo l.length ec,bv] 105 (0,0))
 ah:W.ownsRow w.heap.size 63 2 (.slice co l.length cc) l.length (eG (l.map Uw))
 eH:W.ownsRow w.heap.size 3 1 (.slice eo l.length ec) l.length (bz (l.map VU))
 b8:iX W w.heap.size bv L
 kp:jP r q w W
def lC.step{w W c:F}{g r q:Nat}{l:List (bK×Int)}{co i:Option UJ}{e f:Nat}{d:U}{L:List (Bd×U)}(h:lC w W g r q l co i e f d L)(b:r<w.heap.size)(a:q<w.heap.size)(n:w.heap.size<g)(k:jP r q W c):lC w c g r q l co i e f d L:=
 ⟨k.keep h.res (by omega) (by omega),k.keep h.box (by omega) (by omega),k.own h.ah b a,k.own h.eH b a,⟨k.own h.b8.own b a,λm j=>k.own (h.b8.each m j) b a⟩,h.kp.trans k⟩
def lC.below{w W b:F}{g r q:Nat}{l:List (bK×Int)}{co f:Option UJ}{d e:Nat}{c:U}{L:List (Bd×U)}(h:lC w W g r q l co f d e c L)(a:aP W b):lC w b g r q l co f d e c L:=
 ⟨(a.block _ (Ud h.res)).trans h.res,(a.block _ (Ud h.box)).trans h.box,aK h.ah a,aK h.eH a,h.b8.below a,h.kp.trans (jP.cq a)⟩
def lC.cells{w W:F}{g r q:Nat}{l:List (bK×Int)}{co e:Option UJ}{c d:Nat}{b:U}{L:List (Bd×U)}(h:lC w W g r q l co e c d b L):
 aM W g 0 (.slice co l.length c)/\aM W g 1 (.slice e l.length d)/\aM W g 2 b/\W.frozen? ⟨g,2,K⟩=T5:=by
 have a:=h.box;exact⟨by simp[Ur,a],by simp[Ur,a],by simp[Ur,a],by simp[UQ,a]⟩
def lC.kept{w W a:F}{g r q:Nat}{l:List (bK×Int)}{co i:Option UJ}{e f:Nat}{b d:U}{L:List (Bd×U)}(h:lC w W g r q l co i e f b L)(j:aR W a b d):
 aM a g 2 b/\a.frozen? ⟨g,2,K⟩=T5:=by
 have c:=(j.fN.block _ (Ud h.box) (bw h.b8.own h.box (by decide))).trans h.box;exact⟨by simp[Ur,c],by simp[UQ,c]⟩
def lC.jO{w W c:F}{g r q:Nat}{l:List (bK×Int)}{co o:Option UJ}{m n:Nat}{i a:U}{L:List (Bd×U)}(h:lC w W g r q l co o m n i L)(z:w.heap.size<g)(d:aR W c i a){b:Bd}{f:U}(x:W.ownsRow w.heap.size 143 8 f b.chunks.length (ei b.chunks))
 (y:c.ownsRow w.heap.size 139 2 a (L++[(b,f)]).length (nG (L++[(b,f)]))):lC w (c.setCell ⟨g,2,K⟩ a) g r q l co o m n a (L++[(b,f)]):=by
 have t:=(d.fN.block _ (Ud h.res) (bw h.b8.own h.res (by decide))).trans h.res;have e:=(d.fN.block _ (Ud h.box) (bw h.b8.own h.box (by decide))).trans h.box;have u:=Uq c g 2 _ _ a e;have j:=bF h.ah d (dP h.ah h.b8.own (by decide));have k:=bF h.eH d (dP h.eH h.b8.own (by decide));refine⟨?_,u,j.kept (aQ c _ 2 a) (.inr (bw j e (by decide)).symm),k.kept (aQ c _ 2 a) (.inr (bw k e (by decide)).symm),(h.b8.snoc d x y).put e (by decide) (by decide) _ _,?_⟩
 ·rw[Ut _ _ _ _ (by simp;omega)];exact t
 ·exact(h.kp.grown d.fN (λp v=>(h.b8.own.lt p v).1)).grown (aQ c g 2 a) (λp s=>by cases s;omega)
def lC.reader{w W a:F}{g r q:Nat}{l:List (bK×Int)}{co k:Option UJ}{e j:Nat}{b c:U}{L:List (Bd×U)}(h:lC w W g r q l co k e j b L)(n:w.heap.size<g)(m:aR W a b c){i:Nat}{o:Obj}(p:i<w.heap.size)(d:W.heap[i]? =I o):(a.setCell ⟨g,2,K⟩ c).heap[i]? =I o:=by
 rw[Ut _ _ _ _ (by simp;omega),m.fN.block i (Ud d) (λf=>by have:=(h.b8.own.lt i f.symm).1;omega)];exact d
def zG{B a:List Nat}(h:ai B 0 a)(c:B.length<=a.length):B=a:=by
 have b:a <+:B:=by simpa [ai] using h
 exact(b.eq_of_length_le c).symm
def tY(cs:List bK)(bs:List Bd)(b:Bd):cP cs (bs++[b])=cP cs bs++ej cs b:=by
 unfold cP;rw[Vi,Vc]
def I3(cs:List bK)(b:Bd):1<=(ej cs b).length:=by unfold ej;rw[T8];have:=E7 b.rows;omega
def I4(cs:List bK)(bs:List Bd):bs.length<=(cP cs bs).length:=by
 induction bs with
 |nil=>simp
 |cons a c b=>
  have:=I3 cs a;unfold cP at b ⊢;rw[WR,T8,VI];omega
def QA{cs:List bK}{bs:List Bd}(h:∀b∈bs,eK cs b):sD (λ_=>eK cs) bs:=λc a=>h _ (Ui a)
def Ra{cs:List bK}{bs:List Bd}(h:sD (λ_=>eK cs) bs):∀b∈bs,eK cs b:=λb a=>by
 obtain⟨d,c,rfl⟩:=Vv a;exact h d c
def My{l:List (bK×Int)}(h:nS l):∀i (h:i<(l.map Uw).length),(l.map Uw)[i].kind=1\/(l.map Uw)[i].kind=2\/(l.map Uw)[i].kind=3:=by
 intro i a;have:=(h.1.2.2 i a).1;simp only[nZ,fW,Uv,decide_eq_true_eq] at this;omega
def Sd (w:F)(r:Nat)(s:ByteArray)(q:Nat)(z:ByteArray)(e:Xa)(w':F):Prop:=
 jP r q w w'/\((∃(a:List (bK×Int)) (b:List Bd) (f:List (Bd×U)) (i k:Option UJ) (h j:Nat) (g:U),e= .returned (.agg #[.slice i a.length h,.slice k a.length j,g])/\xd a b/\f.map Uw=b/\ai (bytesOf s) 0 (qD a b)/\(qD a b).length<=s.size/\w'.heap[r]? =I (b9 s (qD a b).length)/\bytesOf z=bQ b/\
  w'.ownsRow w.heap.size 63 2 (.slice i a.length h) a.length (eG (a.map Uw))/\w'.ownsRow w.heap.size 3 1 (.slice k a.length j) a.length (bz (a.map VU))/\iX w' w.heap.size g f/\(∀d c,xd d c->ai (bytesOf s) 0 (qD d c)->bytesOf z=bQ c->d=a/\c=b))\/
  (∃m,e= .panicked (eC m)/\∀a b,xd a b->ai (bytesOf s) 0 (qD a b)->bytesOf z≠bQ b))
def yZ(r q:Nat)(s z:ByteArray)(w:F)(gl:r≠q)(eh:s.size<=65536)(gs:z.size<=65536)(h:w.heap[r]? =I (b9 s 0))(k:w.heap[q]? =I (b9 z 0)):
 UB aI 64 #[.pointer (I ⟨r,0,K⟩),.pointer (I ⟨q,0,K⟩)] w (Sd w r s q z):=by
 obtain⟨gt,f9,gn,gq,gr⟩:=Ve an.Ii;have a8:r<w.heap.size:=Ud h;have a7:q<w.heap.size:=Ud k;have gf:s.size<=Up:=by unfold Up;omega
 have e0:z.size<=Up:=by unfold Up;omega
 have df:X ((w.alloc (.cells #[aO,aO,aO] 105)).heap[r]? =I (b9 s 0)):=by
  show _=_;rw[UN _ _ r a8];exact h
 have da:X ((w.alloc (.cells #[aO,aO,aO] 105)).heap[q]? =I (b9 z 0)):=by
  show _=_;rw[UN _ _ q a7];exact k
 have bu:X (jP r q w (w.alloc (.cells #[aO,aO,aO] 105))):=(jP.refl r q w).alloc _;clear h k;go_enter an.func64,Tryz.ntmps64
 go_wp2_with fail
 refine(wO r 0 s _ eh (UE _) df.o).mono ?_;rintro p L ⟨am,⟨a,g3,g4,rfl,ap,eo,ea,cf,ck,cl,et⟩|⟨m,rfl,aa⟩⟩;rotate_left
 ·have O:X (∀a b,xd a b->ai (bytesOf s) 0 (qD a b)->bytesOf z≠bQ b):=λa b l E=>(aa a l.pl (ax.1 E).1).elim;have fb:X (jP r q w L):=bu.o.trans (jP.jv am);clear aa am;go_wp2;exact⟨rfl,fb.o,.inr ⟨m,rfl,O.o⟩⟩
 ·obtain⟨d,e,rfl⟩:=bC ck;obtain⟨f,g,rfl⟩:=bC cl;have dO:L.heap[q]? =I (b9 z 0):=Kp.block am da.o (by omega);have J:lC w (L.alloc (.cells #[.slice d a.length e,.slice f a.length g,aO] 105)) L.heap.size r q a d f e g aO []:=by
   refine⟨?_,bk L _,(bL ck (by simp)).alloc _,(bL cl (by simp)).alloc _,⟨Vp _ _ _ _,λhf gj=>by simp at gj⟩,(bu.o.trans (jP.jv am)).alloc _⟩;have:=Kp.block am (V3 w (.cells #[aO,aO,aO] 105)) (by omega);exact alloc_old _ (by simpa using Ud this) this
  have a5:w.heap.size<L.heap.size:=by have:=am.size;simp at this;omega
  obtain⟨R,cu⟩:∃R,R=(yN a).length:=⟨_,rfl⟩;rw[UT,<-cu] at ea cf;have bx:X (R=(yN a).length):=cu;have f2:X (ai (bytesOf s) 0 (yN a)):=eo;have c9:X (nS a):=ap;have du:X (∀j,nS j->ai (bytesOf s) 0 (yN j)->j=a):=et;have d2:(L.alloc (.cells #[.slice d a.length e,.slice f a.length g,aO] 105)).heap[r]? =I (b9 s R):=by rw[UN _ _ r (by omega)];exact cf
  have d0:(L.alloc (.cells #[.slice d a.length e,.slice f a.length g,aO] 105)).heap[q]? =I (b9 z 0):=by rw[UN _ _ q (by omega)];exact dO
  have ee:a.length<=8:=by have:=ap.1.2.1;simpa using this
  have e5:X ((a.map Uw).length<=8):=by show _<=_;simpa using ee
  go_upto_region 3 with fail
  generalize L.alloc (.cells #[.slice d a.length e,.slice f a.length g,aO] 105)=b3 at*;generalize L.heap.size=x at*;have dp:X (b3.heap[r]? =I (b9 s R)):=d2;have dc:X (b3.heap[q]? =I (b9 z 0)):=d0;have M:X (lC w b3 x r q a d f e g aO []):=J;clear eo cu d2 d0 J ap et ck cl am cf dO df da bu ee;clear L
  go_wp2_with fail
  refine(jJ r R s _ gf ea dp.o).mono ?_;rintro p br ⟨a4,⟨t,rfl,el,eq,eb,ch⟩|⟨m,rfl,aa⟩⟩;rotate_left
  ·have O:X (∀a b,xd a b->ai (bytesOf s) 0 (qD a b)->bytesOf z≠bQ b):=λj b l E _=>by
    obtain⟨y,k⟩:=ax.1 E;obtain rfl:=du.o j l.pl y;rw[UT,<-bx.o] at k;refine aa _ ?_ (ax.1 k).1;have A:=tA b (λc ao=>(l.b8 c ao).lo);have:=l.rows;omega
   have fd:X (jP r q w br):=M.o.kp.trans (jP.jv a4);clear aa a4;go_wp2;exact⟨rfl,fd.o,.inr ⟨m,rfl,O.o⟩⟩
  ·have ds:X (lC w br x r q a d f e g aO []):=M.o.step a8 a7 a5 (jP.jv a4);have dd:X (br.heap[q]? =I (b9 z 0)):=Kp.block a4 dc.o (by omega);obtain⟨D,cv⟩:∃D,D=R+(aL t).length:=⟨_,rfl⟩;have c8:X (D=R+(aL t).length):=cv;rw[<-cv] at eb ch;have dq:X (br.heap[r]? =I (b9 s D)):=ch;have dr:X (ai (bytesOf s) R (aL t)):=eq;have ft:X (t<2147483648):=el;have gg:(t:Int)<2147483648:=by omega
   have c4:X (∀j o,xd j o->ai (bytesOf s) 0 (qD j o)->j=a/\o.length=t/\ai (bytesOf s) D (cP (a.map Uw) o)):=λj o l E=>by
    obtain⟨y,k⟩:=ax.1 E;obtain rfl:=du.o j l.pl y;rw[UT,<-bx.o] at k;obtain⟨A,T⟩:=ax.1 k;have b6:=tA o (λc ao=>(l.b8 c ao).lo);have g9:=l.rows;have d7:=cz (by omega) (by have:=ft.o;omega) A dr.o;rw[d7,<-c8.o] at T;exact⟨rfl,d7,T⟩
   clear eq cv a4 ch M dp dc el
   go_wp2_with fail
   go_loopw [18] (λc0 wr=>∃(b:List Bd) (n:List (Bd×U)) (i:U),c0= .int .i64 (b.length:Int)/\n.map Uw=b/\Q2 (cP (a.map Uw)) bQ (λ_=>eK (a.map Uw)) (bytesOf s) D (bytesOf z) 0 t b/\lC w wr x r q a d f e g i n/\D+(cP (a.map Uw) b).length<=s.size/\wr.heap[r]? =I (b9 s (D+(cP (a.map Uw) b).length))/\(bQ b).length<=z.size/\wr.heap[q]? =I (b9 z (bQ b).length)) (λc0 _=>t-(US c0).toNat)
   case atStart=>exact⟨[],[],_,rfl,rfl,Q2.zero Y Y,ds.o,by simpa [cP] using eb,by simpa [cP] using dq.o,by simp[bQ],by simpa [bQ] using dd.o⟩
   case round=>
    clear ds dq dd;obtain⟨b,n,i,rfl,ca,cb,J,ap,cd,es,cc⟩:=hrel;have ad:X (Q2 (cP (a.map Uw)) bQ (λ_=>eK (a.map Uw)) (bytesOf s) D (bytesOf z) 0 t b):=cb;have M:X (lC w wr x r q a d f e g i n):=J;have bb:X (n.map Uw=b):=ca;have bv:X (n.length=b.length):=by show _=_;rw[<-ca,UG]
    have d4:b.length<=65536:=by have:=I4 (a.map Uw) b;omega
    obtain⟨u,cx⟩:∃u,u=D+(cP (a.map Uw) b).length:=⟨_,rfl⟩;obtain⟨v,ab⟩:∃v,v=(bQ b).length:=⟨_,rfl⟩;have az:X (u=D+(cP (a.map Uw) b).length):=cx;have av:X (v=(bQ b).length):=ab;rw[<-cx] at ap cd;rw[<-ab] at es cc;have a1:X (wr.heap[r]? =I (b9 s u)):=cd;have a0:X (wr.heap[q]? =I (b9 z v)):=cc;have gc:b.length<=t:=cb.le;have gm:w.heap.size<=wr.heap.size:=J.kp.size;clear cb cx ab cd cc ca;by_cases bi:b.length<t
    ·have e8:X ((∀B,eK (a.map Uw) B->ai (bytesOf s) u (ej (a.map Uw) B)->¬ai (bytesOf z) v (cr B.chunks))->∀a b,xd a b->ai (bytesOf s) 0 (qD a b)->bytesOf z≠bQ b):=λab j o l E W=>by
      obtain⟨y,k,A⟩:=c4.o j o l E;rw[y] at l;refine ad.o.fail (e:=λ_ B=>ej (a.map Uw) B) (g:=λ_ B=>cr B.chunks) (tY _) r7 bi (λB cR T b6=>?_) o k (QA l.b8) A (eN W.symm);rw[<-az.o] at T;rw[UT,<-av.o] at b6;exact ab B cR T b6
     have dl:X (UB aI 96 #[.pointer (I ⟨r,0,K⟩),.pointer (I ⟨q,0,K⟩),.slice d a.length e] wr.drew (Sb (a.map Uw) wr.drew r u s q v z)):=Cq (a.map Uw) _ r u q v w.heap.size s z wr.drew gl eh gs ap es a1.o a0.o a8 a7 (by rw[UG];exact(aK M.o.ah ((Uo wr.heap.size wr).drew))) e5.o (My c9.o);obtain⟨bj,bl,a9,bm⟩:=J.cells;clear J
     go_upto_region 5 with fail
     refine Un.open_ (λal=>aM al x 2 i) 9 (λ_ _ _ _ _ h=>h) λhb=>?_;have a3:(λal=>aM al x 2 i) wr.drew:=a9;refine Un.pk 0 ?_
     try simp only[UW,Ub,Uk,Uj]
     refine Un.ld [9] 1 ?_
     try simp only[UW,Ub,Uk,Uj]
     refine Un.pk 2 ?_
     try simp only[UW,Ub,Uk,Uj]
     refine Un.pk 3 ?_
     try simp only[UW,Ub,Uk,Uj]
     refine Un.pk 4 ?_
     try simp only[UW,Ub,Uk,Uj]
     refine Un.on 5 λae H=>?_;go_simp;go_at_call 96;refine dl.o.mono ?_;rintro p N ⟨V,⟨c,he,rfl,d5,er,ec,d1,d6,ef,dT,cn,eQ⟩|⟨m,rfl,aa⟩⟩;rotate_left
     ·have V:=(jP.cq (r:=r) (q:=q) ((Uo wr.heap.size wr).drew)).trans V;have O:X (∀a b,xd a b->ai (bytesOf s) 0 (qD a b)->bytesOf z≠bQ b):=e8.o aa;have fe:X (jP r q w N):=M.o.kp.trans V;clear aa V;exact⟨rfl,fe.o,.inr ⟨m,rfl,O.o⟩⟩
     ·have V:=(jP.cq (r:=r) (q:=q) ((Uo wr.heap.size wr).drew)).trans V;obtain⟨ar,fE,rfl⟩:=bC cn;have P:X (lC w N x r q a d f e g i n):=M.o.step a8 a7 a5 V;have c5:X (N.ownsRow w.heap.size 143 8 (.slice ar c.chunks.length fE) c.chunks.length (ei c.chunks)):=bL cn (by simpa using gm);have e3:X (eK (a.map Uw) c):=d5;have f3:X (ai (bytesOf s) u (ej (a.map Uw) c)):=er;have fi:X (u+(ej (a.map Uw) c).length<=s.size):=ec;have dk:X (N.heap[r]? =I (b9 s (u+(ej (a.map Uw) c).length))):=d1;have e4:X (ai (bytesOf z) v (cr c.chunks)):=d6;have fk:X (v+(cr c.chunks).length<=z.size):=ef;have db:X (N.heap[q]? =I (b9 z (v+(cr c.chunks).length))):=dT;have f5:X (∀bd,eK (a.map Uw) bd->ai (bytesOf s) u (ej (a.map Uw) bd)->ai (bytesOf z) v (cr bd.chunks)->bd=c):=eQ;have c2:=P.o.cells.2.2.1;refine H.o _ _ (λ_=>c2) ?_;clear H ae a3 V cn d5 er ec d1 d6 ef dT eQ bj bl a9 bm dl M a1 a0
      try simp only[UW,Ub,Uk,Uj]
      have a3:(λal=>aM al x 2 i) N:=c2;refine Un.on 6 λae H=>?_;go_simp;have dt:X (lC w (N.alloc (.cells (n5 (c,.slice ar c.chunks.length fE)).toArray 139)) x r q a d f e g i n):=P.o.below ((Uo _ _).alloc (T6 _) _);refine H.o _ _ (λ_=>dt.o.cells.2.2.1) ?_;clear H ae a3
      try simp only[UW,Ub,Uk,Uj]
      refine Un.one (i:=7) (by kernel_rfl) Y (λae H=>?_);have cp:=P.o.b8.own;rw[bv.o] at cp;have hd:w.heap.size<=N.heap.size:=P.o.kp.size;refine WK _ (by rfl) _ _ 103 (by rfl) w.heap.size 139 gt _ 2 32 an.underlying103 f9 gn gq gr Y (by decide) i b.length _ (by rfl) (cp.alloc _) ⟨N.heap.size,0,K⟩ 1 1 (n5 (c,.slice ar c.chunks.length fE)) (by rfl) Y (II N _ _ _) (by intro v ab;simp[n5] at ab;rcases ab with rfl|rfl<;>rfl) (by decide) (by unfold Up;omega) (by omega) (by simp;omega) _ Y ?_;intro Q S aw cs d9 d3 ge;have a6:=aR.ji (n:=b.length+1) (cap:=S) d9 d3;have em:aw.ownsRow w.heap.size 139 2 (.slice (I ⟨Q,0,K⟩) (b.length+1) S) (n++[(c,Vg ar c.chunks.length fE)]).length (nG (n++[(c,Vg ar c.chunks.length fE)])):=by
       unfold nG at cs ⊢;rw[Vi,Vc,T8,bv.o];exact cs
      have e9:X (lC w (aw.setCell ⟨x,2,K⟩ (.slice (I ⟨Q,0,K⟩) (b.length+1) S)) x r q a d f e g (.slice (I ⟨Q,0,K⟩) (b.length+1) S) (n++[(c,Vg ar c.chunks.length fE)])):=P.o.jO a5 a6 c5.o em;have b1:X ((aw.setCell ⟨x,2,K⟩ (.slice (I ⟨Q,0,K⟩) (b.length+1) S)).heap[r]? =I (b9 s (u+(ej (a.map Uw) c).length))):=P.o.reader a5 a6 a8 dk.o;have fz:X ((aw.setCell ⟨x,2,K⟩ (.slice (I ⟨Q,0,K⟩) (b.length+1) S)).heap[q]? =I (b9 z (v+(cr c.chunks).length))):=P.o.reader a5 a6 a7 db.o;obtain⟨c3,g0⟩:=P.o.kept a6;refine H.o _ _ (λ_=>c3) ?_;clear H ae cp cs d9 d3 ge em a6
      try simp only[UW,Ub,Uk,Uj]
      have a3:(λal=>aM al x 2 i) aw:=c3;refine Un.pk 8 ?_
      try simp only[UW,Ub,Uk,Uj]
      refine Un.on 9 λae H=>?_;go_simp;refine H.o _ _ (λh=>absurd h (by decide)) ?_;clear H ae a3 c3 g0 c2;refine Un.done (by kernel_rfl) ?_ _
      try simp only[UW,Ub,Uk,Uj]
      clear P dt dk db c5;generalize aw.setCell ⟨x,2,K⟩ (.slice (I ⟨Q,0,K⟩) (b.length+1) S)=g1 at*;generalize Vg (I ⟨Q,0,K⟩) (b.length+1) S=g2 at*;have c6:X (D+(cP (a.map Uw) (b++[c])).length=u+(ej (a.map Uw) c).length):=by
       show _=_;rw[tY,T8];have A:=az.o;omega
      have c7:X ((bQ (b++[c])).length=v+(cr c.chunks).length):=by
       show _=_;rw[r7,T8,av.o]
      have fm:X (Q2 (cP (a.map Uw)) bQ (λ_=>eK (a.map Uw)) (bytesOf s) D (bytesOf z) 0 t (b++[c])):=by
       refine ad.o.more (e:=λ_ B=>ej (a.map Uw) B) (g:=λ_ B=>cr B.chunks) (tY _) r7 bi e3.o (by rw[<-az.o];exact f3.o) (by rw[UT,<-av.o];exact e4.o) (λB cR A T=>?_);rw[<-az.o] at A;rw[UT,<-av.o] at T;exact f5.o B cR A T
      have fl:X ((n++[(c,Vg ar c.chunks.length fE)]).map Uw=b++[c]):=by show _=_;rw[U0,bb.o];rfl
      go_wp2_with fail
      go_roundw
      case rel=>exact⟨b++[c],_,_,by rw[T8];go_num,fl.o,fm.o,e9.o,by rw[c6.o];exact fi.o,by rw[c6.o];exact b1.o,by rw[c7.o];exact fk.o,by rw[c7.o];exact fz.o⟩
      case measure=>simp[US];omega
    ·have ba:=ad.o.done bi;have e6:X (b.length=t):=ba.1;have e7:X (∀a2:List Bd,a2.length=t->sD (λ_=>eK (a.map Uw)) a2->ai (bytesOf s) D (cP (a.map Uw) a2)->ai (bytesOf z) 0 (bQ a2)->a2=b):=ba.2;have gi:t=b.length:=ba.1.symm;have bt:X (∀c∈b,eK (a.map Uw) c):=Ra ad.o.Rm;have b2:X (∀j o,xd j o->ai (bytesOf s) 0 (qD j o)->bytesOf z=bQ o->j=a/\o=b):=λj o l E W=>by
      obtain⟨y,k,A⟩:=c4.o j o l E;rw[y] at l;exact⟨y,e7.o o k (QA l.b8) A (eN W.symm)⟩
     have b0:X (UB aI 45 #[.agg #[.slice d a.length e,.slice f a.length g,i]] wr λp bo=>p= .returned (.int .i64 (eU (n.map Uw):Int))/\aP wr bo):=AQ d f _ _ _ _ w.heap.size i n wr J.b8 (by rw[bv.o];exact d4) (by rw[bb.o];exact λc ao=>(bt.o c ao).hi);rw[bb.o] at b0;have hc:eU b<=6553600:=by have:=Ew b (λc ao=>(bt.o c ao).hi);have:=Nat.mul_le_mul_right 100 d4;omega
     have bs:X ((qD a b).length=u/\ai (bytesOf s) 0 (qD a b)):=by
      have f7:=bx.o;have Q:=c8.o;have g8:=az.o;unfold qD;rw[e6.o];refine⟨by rw[T8,T8];omega,?_⟩;exact ax.2 ⟨f2.o,by rw[UT,<-f7];exact ax.2 ⟨dr.o,by rw[<-Q];exact ad.o.st⟩⟩
     have f4:X (ai (bytesOf z) 0 (bQ b)):=ad.o.sc;obtain⟨b5,b4,ci⟩:=bC J.b8.own;subst ci;obtain⟨bj,bl,a9,bm⟩:=J.cells;subst gi;clear J ba ad bi gc gg
     go_wp2_with fail
     refine b0.o.mono ?_;rintro p au ⟨rfl,be⟩;have bc:X (lC w au x r q a d f e g (.slice b5 n.length b4) n):=M.o.below be;have bB:X (au.heap[r]? =I (b9 s u)):=(be.block r (Ud a1.o)).trans a1.o;have bA:X (au.heap[q]? =I (b9 z v)):=(be.block q (Ud a0.o)).trans a0.o;clear be M a1 a0 bj bl a9 bm b0;by_cases ha:2000<eU b
     ·have f8:decide ((2000:Int)<(eU b:Int))=Z:=by simp;omega
      have O:X (∀a b,xd a b->ai (bytesOf s) 0 (qD a b)->bytesOf z≠bQ b):=λj o l E W=>by
       obtain⟨y,k⟩:=b2.o j o l E W;have:=l.rows;rw[k] at this;omega
      go_wp2_with (go_at_call 97;refine(b7 r u s _ bB.o).mono ?_;rintro p bo ⟨rfl,rfl⟩)
      exact⟨rfl,bc.o.kp,.inr ⟨_,rfl,O.o⟩⟩
     ·have f8:decide ((2000:Int)<(eU b:Int))=T5:=by simp;omega
      have f1:X (eU b<=2000):=by show _<=_;omega
      by_cases d8:v<z.size
      ·have O:X (∀a b,xd a b->ai (bytesOf s) 0 (qD a b)->bytesOf z≠bQ b):=λj o l E W=>by
        obtain⟨y,k⟩:=b2.o j o l E W;have A:=congrArg XD W;rw[aj,k,<-av.o] at A;omega
       go_wp2_with (go_at_call 93;refine(BW q v z _ e0 d8 bA.o).mono ?_;rintro p bo ⟨rfl,m,rfl⟩)
       exact⟨rfl,bc.o.kp.trans (jP.jv ((Kp.refl r au).drewN _)),.inr ⟨_,rfl,O.o⟩⟩
      ·have f6:X (bytesOf z=bQ b):=by
        show _=_;refine(zG f4.o ?_);rw[aj,<-av.o];omega
       have fa:X (xd a b):=⟨c9.o,bt.o,f1.o⟩
       go_upto_region 10 with(go_at_call 93;refine(FX q v z _ e0 d8 bA.o).mono ?_;rintro p bo ⟨rfl,m,rfl⟩)
       have C:lC w (au.drewN m) x r q a d f e g (.slice b5 n.length b4) n:=bc.o.below (below_drewN (Uo _ _) _);have f0:X ((au.drewN m).heap[r]? =I (b9 s u)):=bB.o;generalize au.drewN m=G at*;generalize ci:Vg b5 n.length b4=i at C;obtain⟨bj,bl,a9,bm⟩:=C.cells;obtain⟨hg,hh,hi⟩:=cA C.res;have g5:G.frozen? ⟨w.heap.size,0,K⟩=T5:=by have:=C.res;simp[UQ,this]
       have g6:G.frozen? ⟨w.heap.size,1,K⟩=T5:=by have:=C.res;simp[UQ,this]
       have g7:G.frozen? ⟨w.heap.size,2,K⟩=T5:=by have:=C.res;simp[UQ,this]
       have y:=Uq G w.heap.size 0 _ _ (.slice d a.length e) C.res;have k:=Uq _ w.heap.size 1 _ _ (.slice f a.length g) y;have A:=Uq _ w.heap.size 2 _ _ i k;obtain⟨gv,gx,gy⟩:=cA (show _=I (Obj.cells #[.slice d a.length e,.slice f a.length g,i] 105 (0,0)) from A);have fu:X (iX (((G.setCell ⟨w.heap.size,0,K⟩ (.slice d a.length e)).setCell ⟨w.heap.size,1,K⟩ (.slice f a.length g)).setCell ⟨w.heap.size,2,K⟩ i) w.heap.size i n):=
        ((C.b8.put C.res (by decide) (by decide) _ _).put y (by decide) (by decide) _ _).put k (by decide) (by decide) _ _
       have c1:∀{q:U} {t p e1:Nat} {e2:List U},p≠105->G.ownsRow w.heap.size p e1 q t e2->(((G.setCell ⟨w.heap.size,0,K⟩ (.slice d a.length e)).setCell ⟨w.heap.size,1,K⟩ (.slice f a.length g)).setCell ⟨w.heap.size,2,K⟩ i).ownsRow w.heap.size p e1 q t e2:=λco en=>by
        have dv:=en.kept (aQ G w.heap.size 0 (.slice d a.length e)) (.inr (bw en C.res co.symm).symm);have dC:=dv.kept (aQ _ w.heap.size 1 (.slice f a.length g)) (.inr (bw dv y co.symm).symm);exact dC.kept (aQ _ w.heap.size 2 i) (.inr (bw dC k co.symm).symm)
       have fv:X ((((G.setCell ⟨w.heap.size,0,K⟩ (.slice d a.length e)).setCell ⟨w.heap.size,1,K⟩ (.slice f a.length g)).setCell ⟨w.heap.size,2,K⟩ i).ownsRow w.heap.size 63 2 (.slice d a.length e) a.length (eG (a.map Uw))):=c1 (by decide) C.ah;have fx:X ((((G.setCell ⟨w.heap.size,0,K⟩ (.slice d a.length e)).setCell ⟨w.heap.size,1,K⟩ (.slice f a.length g)).setCell ⟨w.heap.size,2,K⟩ i).ownsRow w.heap.size 3 1 (.slice f a.length g) a.length (bz (a.map VU))):=c1 (by decide) C.eH;have fg:X (jP r q w (((G.setCell ⟨w.heap.size,0,K⟩ (.slice d a.length e)).setCell ⟨w.heap.size,1,K⟩ (.slice f a.length g)).setCell ⟨w.heap.size,2,K⟩ i)):=((C.kp.grown (aQ G w.heap.size 0 _) (λdE p=>by cases p;exact T6 _)).grown (aQ _ w.heap.size 1 _) (λdE p=>by cases p;exact T6 _)).grown (aQ _ w.heap.size 2 _) (λdE p=>by cases p;exact T6 _);have b1:X ((((G.setCell ⟨w.heap.size,0,K⟩ (.slice d a.length e)).setCell ⟨w.heap.size,1,K⟩ (.slice f a.length g)).setCell ⟨w.heap.size,2,K⟩ i).heap[r]? =I (b9 s u)):=by
        show _=_;rw[Ut _ _ _ _ (by simp;omega),Ut _ _ _ _ (by simp;omega),Ut _ _ _ _ (by simp;omega)];exact f0.o
       clear y k A C bc bB bA c1;subst ci;go_wp2;simp[VR,UX,Tryz.results64,go_sem,gv,gx,gy];exact⟨fg.o,.inl ⟨a,b,n,d,f,e,g,_,rfl,fa.o,bb.o,bs.o.2,by rw[bs.o.1];exact ap,by rw[bs.o.1];exact b1.o,f6.o,fv.o,fx.o,fu.o,b2.o⟩⟩
def oz:Array U:= #[aO,aO,aO]
def fJ{w:F}{g:Nat}{a b c:U}{t:Ug}(h:w.heap[g]? =I (.cells #[a,b,c] t (0,0))):(aM w g 0 a/\aM w g 1 b/\aM w g 2 c)/\(w.frozen? ⟨g,0,K⟩=T5/\w.frozen? ⟨g,1,K⟩=T5/\w.frozen? ⟨g,2,K⟩=T5):=by
 refine⟨⟨?_,?_,?_⟩,?_,?_,?_⟩<;>simp[Ur,UQ,h]
def gS (w:F)(g:Nat)(a b c:U):F:=((w.setCell ⟨g,0,K⟩ a).setCell ⟨g,1,K⟩ b).setCell ⟨g,2,K⟩ c
def qP{w:F}{g:Nat}{a b c:U}{t:Ug}(x y z:U)(h:w.heap[g]? =I (.cells #[a,b,c] t (0,0))):(gS w g x y z).heap[g]? =I (.cells #[x,y,z] t (0,0)):=by
 have d:=Uq w g 0 _ _ x h;have e:=Uq _ g 1 _ _ y d;exact Uq _ g 2 _ _ z e
def kG{w:F}{g i:Nat}(x y z:U)(h:i≠g):(gS w g x y z).heap[i]? =w.heap[i]? :=by
 unfold gS;rw[Ut _ _ _ _ (by simp;omega),Ut _ _ _ _ (by simp;omega),Ut _ _ _ _ (by simp;omega)]
def mM{w w0:F}{g n:Nat}(x y z:U)(h:Below n w0 w)(b:n<=w0.heap.size)(a:n<=g):Below n w0 (gS w g x y z):=
 bS (bS (bS h b a _ _) b a _ _) b a _ _
def ue(b a:Nat)(x y z v:U)(u:Ug)(h:U)(g:List PanicEntry)(w:F)(r:b≠a)(hL:w.heap[b]? =I (.cells #[x,y,z] 105 (0,0)))(f:w.heap[a]? =I (.cells #[v] 4 (0,0))):
 CallsD aI 92 #[.pointer (I ⟨b,0,K⟩),.pointer (I ⟨a,0,K⟩)] (.panicking ({v:=.iface u h,recovered:=T5}::g)) w λe G w'=>
  e= .returned (.tuple #[])/\G= .panicking ({v:=.iface u h,recovered:=Z}::g)/\w'=(gS (w.alloc (.cells oz 105)) b aO aO aO).setCell ⟨a,0,K⟩ (.bool T5):=by
 have q:=Ud hL;have p:=Ud f;have n:(w.alloc (.cells oz 105)).heap[b]? =I (.cells #[x,y,z] 105 (0,0)):=by rw[UN _ _ b q];exact hL
 have l:(w.alloc (.cells oz 105)).heap[a]? =I (.cells #[v] 4 (0,0)):=by rw[UN _ _ a p];exact f
 have o:(w.alloc (.cells oz 105)).heap[w.heap.size]? =I (.cells #[aO,aO,aO] 105 (0,0)):=bk w _;refine callsD_of_wpS an.func92 Y λJ H s=>?_;apply wpS_seq;apply wpS_region;simp[wpOpsS,go_sem,recoverD,s,Tryz.ntmps92,Exit.thenS];refine wpS_cond (t:=Z) (by simp[Act.eval,U3]) ?_;simp only[if_true];apply wpS_seq;apply wpS_region;simp[wpOpsS,go_sem,Exit.thenS];apply wpS_region;obtain⟨⟨C,D,E⟩,-⟩:=fJ o;obtain⟨⟨t,A,B⟩,i,j,k⟩:=fJ n;have m:(gS (w.alloc (.cells oz 105)) b aO aO aO).heap[a]? =I (.cells #[v] 4 (0,0)):=by rw[kG _ _ _ r.symm];exact l
 obtain⟨c,d⟩:=dD m;unfold gS at c d ⊢;unfold oz at*;simp[wpOpsS,go_sem,C,D,E,t,A,B,i,j,k,c,d,bodyPostS,UX,Tryz.results92]
def Dt(d c:UJ)(w:F):
 CallsD aI 92 #[.pointer (I d),.pointer (I c)] .returning w λe f w'=>e= .returned (.tuple #[])/\f= .returning/\w'=w:=by
 refine callsD_of_wpS an.func92 Y λa g b=>?_;apply wpS_seq;apply wpS_region;simp[wpOpsS,go_sem,recoverD,b,Tryz.ntmps92,Exit.thenS];refine wpS_cond (t:=T5) (by simp[Act.eval,U3]) ?_;simp only[UA,if_false];refine wpS_of_wp (wp_skip ?_);cases a;simp_all [bodyPostS,UX,Tryz.results92]
def MD{r q:Nat}{w d e:F}(h:Kp r w d)(k:jP r q d e)(g:w.heap.size<=q):Kp r w e:=
 ⟨k.os.trans h.os,k.tape.trans h.tape,k.output.trans h.output,Ux (Kp.size h) k.size,λc a b=>(k.block c (Uc a (Kp.size h)) (λf=>b (by rw[f])) (by omega)).trans (Wv h c a b)⟩
structure cN(W:F)(base:Nat)(l:List (bK×Int))(L:List (Bd×U))(a b c:U):Prop where
 ah:W.ownsRow base 63 2 a l.length (eG (l.map Uw))
 eH:W.ownsRow base 3 1 b l.length (bz (l.map VU))
 b8:iX W base c L
def cN.below{W e:F}{base:Nat}{l:List (bK×Int)}{L:List (Bd×U)}{a b c:U}(h:cN W base l L a b c)(d:aP W e):cN e base l L a b c:=⟨aK h.ah d,aK h.eH d,h.b8.below d⟩
def cN.base{W:F}{base e:Nat}{l:List (bK×Int)}{L:List (Bd×U)}{a b c:U}(h:cN W base l L a b c)(d:e<=base):cN W e l L a b c:=⟨bL h.ah d,bL h.eH d,⟨bL h.b8.own d,λg f=>bL (h.b8.each g f) d⟩⟩
def cN.put{W:F}{base:Nat}{l:List (bK×Int)}{L:List (Bd×U)}{a b c:U}(h:cN W base l L a b c){g:Nat}{cs:Array U}{t:Ug}(e:W.heap[g]? =I (.cells cs t (0,0)))(d:t=105\/t=4\/t=9)(o:Nat)(u:U):cN (W.setCell ⟨g,o,K⟩ u) base l L a b c:=by
 have f:t≠63:=by rcases d with rfl|rfl|rfl<;>decide
 have i:t≠3:=by rcases d with rfl|rfl|rfl<;>decide
 have j:t≠139:=by rcases d with rfl|rfl|rfl<;>decide
 have k:t≠143:=by rcases d with rfl|rfl|rfl<;>decide
 exact⟨h.ah.kept (aQ W g o u) (.inr (bw h.ah e f).symm),h.eH.kept (aQ W g o u) (.inr (bw h.eH e i).symm),h.b8.put e j k o u⟩
def cN.gS{W:F}{base:Nat}{l:List (bK×Int)}{L:List (Bd×U)}{a b c:U}(h:cN W base l L a b c){g:Nat}{x y z:U}(f i k:U)(e:W.heap[g]? =I (.cells #[x,y,z] 105 (0,0))):cN (Ec.gS W g f i k) base l L a b c:=by
 have d:=Uq W g 0 _ _ f e;have j:=Uq _ g 1 _ _ i d;exact((h.put e (.inl Y) _ _).put d (.inl Y) _ _).put j (.inl Y) _ _
def cN.Ia{W:F}{base:Nat}{l:List (bK×Int)}{L:List (Bd×U)}{a b c:U}(h:cN W base l L a b c):∃d ac bo e co f,a= .slice d l.length ac/\b= .slice bo l.length e/\c= .slice co L.length f:=by
 obtain⟨d,ac,g⟩:=bC h.ah;obtain⟨bo,e,i⟩:=bC h.eH;obtain⟨co,f,j⟩:=bC h.b8.own;exact⟨d,ac,bo,e,co,f,g,i,j⟩
def TQ (w:F)(r:Nat)(s z:ByteArray)(e:Xa)(w':F):Prop:=
 Kp r w w'/\((∃(b:List (bK×Int)) (a:List Bd) (f:List (Bd×U)) (g h i:U),e= .returned (.agg #[g,h,i])/\xd b a/\f.map Uw=a/\ai (bytesOf s) 0 (qD b a)/\(qD b a).length<=s.size/\w'.heap[r]? =I (b9 s (qD b a).length)/\bytesOf z=bQ a/\cN w' w.heap.size b f g h i/\(∀d c,xd d c->ai (bytesOf s) 0 (qD d c)->bytesOf z=bQ c->d=b/\c=a))\/
  (∃m,e= .panicked (eC m)/\∀b a,xd b a->ai (bytesOf s) 0 (qD b a)->bytesOf z≠bQ a))
def J0(r cb:Nat)(s z:ByteArray)(w:F)(a6:s.size<=65536)(Z:z.size<=65536)(h:w.heap[r]? =I (b9 s 0))(y:w.heap[cb]? =I (.cells #[.string z] 9 (0,0))):
 UB aI 63 #[.pointer (I ⟨r,0,K⟩),.pointer (I ⟨cb,0,K⟩)] w (TQ w r s z):=by
 have a7:r<w.heap.size:=Ud h;have a5:cb<w.heap.size:=Ud y;have a4:(w.alloc (.cells #[aO,aO,aO] 105)).cell? ⟨cb,0,K⟩=I (.string z):=(dD (t:=9) (by rw[UN _ _ cb a5];exact y)).1;have A:X (∀o,UB aI 66 #[.string z] o λc bb=>c= .returned (.string z)/\aP o bb):=λo=>xU z o Z;have u:X ((w.alloc (.cells #[aO,aO,aO] 105)).heap[r]? =I (b9 s 0)):=by
  show _=_;rw[UN _ _ r a7];exact h
 have v:X ((w.alloc (.cells #[aO,aO,aO] 105)).heap[w.heap.size]? =I (.cells #[aO,aO,aO] 105 (0,0))):=bk w _;have B:X (Kp r w (w.alloc (.cells #[aO,aO,aO] 105))):=(Kp.refl r w).alloc _;clear h y;go_enter an.func63,Tryz.ntmps63
 go_wp2_with fail
 refine(A.o _).mono ?_;rintro c b ⟨rfl,q⟩;have E:X (b.heap[r]? =I (b9 s 0)):=(q.block r (Ud u.o)).trans u.o;have x:X (b.heap[w.heap.size]? =I (.cells #[aO,aO,aO] 105 (0,0))):=(q.block _ (Ud v.o)).trans v.o;have C:X (Kp r w b):=B.o.trans (Kp.cq q);clear a4 q u v B A
 go_wp2_with fail
 refine(nL z _).mono ?_;rintro c bi ⟨rfl,rfl⟩;have a9:w.heap.size<b.heap.size:=Ud x.o;have G:X ((b.alloc (b9 z 0)).heap[r]? =I (b9 s 0)):=by show _=_;rw[UN _ _ r (by omega)];exact E.o
 have D:X ((b.alloc (b9 z 0)).heap[b.heap.size]? =I (b9 z 0)):=bk b _;have H:X ((b.alloc (b9 z 0)).heap[w.heap.size]? =I (.cells #[aO,aO,aO] 105 (0,0))):=by show _=_;rw[UN _ _ _ a9];exact x.o
 have t:X (Kp r w (b.alloc (b9 z 0))):=C.o.alloc _;have a8:w.heap.size<=(b.alloc (b9 z 0)).heap.size:=by simp;omega
 clear E x C;generalize b.alloc (b9 z 0)=a2 at*;generalize b.heap.size=ba at*;clear b
 go_wp2_with fail
 refine(yZ r ba s z a2 (by omega) a6 Z G.o D.o).mono ?_;rintro c e ⟨n,⟨a,J,d,g,j,f,i,a3,rfl,Q,N,W,R,O,P,U,V,T,Y⟩|⟨m,rfl,S⟩⟩;rotate_left
 ·have au:=af S;have am:X (Kp r w e):=MD t.o n (by omega);clear S n;go_wp2;exact⟨rfl,am.o,.inr ⟨m,rfl,au.o⟩⟩
 ·have M:Kp r w e:=MD t.o n (by omega);have p:e.heap[w.heap.size]? =I (.cells #[aO,aO,aO] 105 (0,0)):=n.keep H.o (by omega) (by omega);have hF:cN e w.heap.size a d (.slice g a.length f) (.slice j a.length i) a3:=(cN.mk U V T).base a8;obtain⟨-,-,-,-,l,k,-,-,rfl⟩:=hF.Ia;have ae:X (cN (gS e w.heap.size (.slice g a.length f) (.slice j a.length i) (.slice l d.length k)) w.heap.size a d (.slice g a.length f) (.slice j a.length i) (.slice l d.length k)):=hF.gS _ _ _ p;have av:X ((gS e w.heap.size (.slice g a.length f) (.slice j a.length i) (.slice l d.length k)).heap[r]? =I (b9 s (qD a J).length)):=by show _=_;rw[kG _ _ _ (by omega)];exact O
  have ao:X (Kp r w (gS e w.heap.size (.slice g a.length f) (.slice j a.length i) (.slice l d.length k))):=((M.grown (aQ _ w.heap.size 0 _) (λL c=>by cases c;exact T6 _)).grown (aQ _ w.heap.size 1 _) (λL c=>by cases c;exact T6 _)).grown (aQ _ w.heap.size 2 _) (λL c=>by cases c;exact T6 _);have a0:X ((gS e w.heap.size (.slice g a.length f) (.slice j a.length i) (.slice l d.length k)).heap[w.heap.size]? =I (.cells #[.slice g a.length f,.slice j a.length i,.slice l d.length k] 105 (0,0))):=qP _ _ _ p;obtain⟨⟨bj,bl,bm⟩,bc,bd,be⟩:=fJ p;have al:=af Q;have ap:=af N;have aw:=af W;have ar:=af R;have a1:=af P;have az:=af Y;clear M p hF O n Q N W R P Y U V T G D H t;obtain⟨⟨aa,ab,ad⟩,-⟩:=fJ a0.o;unfold gS at aa ab ad;go_wp2;simp[VR,UX,Tryz.results63,go_sem,aa,ab,ad];exact⟨ao.o,.inl ⟨a,J,d,_,_,_,rfl,al.o,ap.o,aw.o,ar.o,av.o,a1.o,ae.o,az.o⟩⟩
def we(t:ByteArray):(t.toList==[83,84,82,65])=Z↔bytesOf t=[83,84,82,65]:=by
 rw[beq_iff_eq,XJ];unfold bytesOf;constructor
 ·intro d;rw[d];rfl
 ·intro d;have e:t.data.toList.map UInt8.toNat=[(83:UInt8),84,82,65].map UInt8.toNat:=by rw[d];rfl
  have g:∀(c a:List UInt8),c.map UInt8.toNat=a.map UInt8.toNat->c=a:=by
   intro c
   induction c with
   |nil=>intro a b;cases a with|nil=>rfl|cons _ _=>simp at b
   |cons j i f=>
    intro a b;cases a with
    |nil=>simp at b
    |cons k h=>
     simp only[Xw,Xj] at b;rw[UInt8.toNat_inj.1 b.1,f h b.2]
  exact g _ _ e
def PD{s:ByteArray}(c:4<=s.size):bytesOf (s.extract 0 4)=[83,84,82,65]↔∃b,bytesOf s=[83,84,82,65]++b:=by
 rw[dy,List.drop_zero];constructor
 ·intro a;exact⟨(bytesOf s).drop 4,by rw[<-a];exact(Ww 4 _).symm⟩
 ·rintro⟨b,a⟩;rw[a];simp
def P3{s:ByteArray}(d:4<=s.size):bytesOf (s.extract (s.size-4) s.size)=[83,84,82,65]↔∃b,bytesOf s=b++[83,84,82,65]:=by
 rw[dy];constructor
 ·intro a;refine⟨(bytesOf s).take (s.size-4),?_⟩;rw[<-a,UO (l:=(bytesOf s).drop (s.size-4)) (by rw[WZ,aj];omega)];exact(Ww _ _).symm
 ·rintro⟨b,a⟩;have c:=congrArg XD a;rw[aj] at c;simp at c;rw[a,show s.size-4=b.length by omega,List.drop_left];exact UO (by simp;omega)
def Af(s:ByteArray)(w:F)(f:s.size<=Up):
 UB aI 150 #[.string s,.string ⟨#[83,84,82,65]⟩] w λe w'=>∃bb,e= .returned (.bool bb)/\(bb=Z↔4<=s.size/\∃c,bytesOf s=[83,84,82,65]++c)/\w'=w:=by
 unfold Up at f;by_cases b:4<=s.size
 ·have d:decide ((4:Int)<=(s.size:Int))=Z:=by simp;omega
  have g:(4:Int)<=(s.size:Int):=by omega
  go_enter an.func150,Tryz.ntmps150;go_wp2;go_ret;exact⟨_,rfl,by rw[we,PD b];exact⟨λa=>⟨b,a⟩,λa=>a.2⟩,rfl⟩
 ·have d:decide ((4:Int)<=(s.size:Int))=T5:=by simp;omega
  go_enter an.func150,Tryz.ntmps150;go_wp2;go_ret;exact⟨T5,rfl,⟨λa=>(by simp at a),λa=>absurd a.1 b⟩,rfl⟩
def Ai(s:ByteArray)(w:F)(f:s.size<=Up):
 UB aI 151 #[.string s,.string ⟨#[83,84,82,65]⟩] w λe w'=>∃bb,e= .returned (.bool bb)/\(bb=Z↔4<=s.size/\∃c,bytesOf s=c++[83,84,82,65])/\w'=w:=by
 unfold Up at f;by_cases b:4<=s.size
 ·have d:decide ((4:Int)<=(s.size:Int))=Z:=by simp;omega
  have g:(4:Int)<=(s.size:Int):=by omega
  have h:Vb ((s.size:Int)-4)=((s.size-4:Nat):Int):=by unfold Vb;omega
  have i:((s.size-4:Nat):Int)<=(s.size:Int):=by omega
  have j:((s.size:Int)-4).toNat=s.size-4:=by omega
  go_enter an.func151,Tryz.ntmps151;go_wp2;go_ret;exact⟨_,rfl,by rw[we,P3 b];exact⟨λa=>⟨b,a⟩,λa=>a.2⟩,rfl⟩
 ·have d:decide ((4:Int)<=(s.size:Int))=T5:=by simp;omega
  go_enter an.func151,Tryz.ntmps151;go_wp2;go_ret;exact⟨T5,rfl,⟨λa=>(by simp at a),λa=>absurd a.1 b⟩,rfl⟩
def Qq (s:ByteArray)(e:Xa):Prop:=∃(b:ByteArray) (a:Bool),e= .returned (.tuple #[.string b,.bool a])/\((a=Z/\bytesOf s=[83,84,82,65]++bytesOf b)\/(a=T5/\b=s/\∀c,bytesOf s≠[83,84,82,65]++c))
def Qs (s:ByteArray)(e:Xa):Prop:=∃(b:ByteArray) (a:Bool),e= .returned (.tuple #[.string b,.bool a])/\((a=Z/\bytesOf s=bytesOf b++[83,84,82,65])\/(a=T5/\b=s/\∀c,bytesOf s≠c++[83,84,82,65]))
def wT(s:ByteArray)(w:F)(g:s.size<=Up):
 UB aI 126 #[.string s,.string ⟨#[83,84,82,65]⟩] w λe w'=>Qq s e/\w'=w:=by
 have k:=g;unfold Up at k;go_enter an.func126,Tryz.ntmps126
 go_wp2_with fail
 refine(Af s _ g).mono ?_;rintro e m ⟨j,rfl,a,rfl⟩;cases j
 ·have h:X (∀b,bytesOf s≠[83,84,82,65]++b):=λb c=>by
   have d:4<=s.size:=by
    have:=congrArg XD c;rw[aj] at this;simp at this;omega
   exact absurd (a.2 ⟨d,b,c⟩) (by simp)
  clear a;go_wp2
  go_ret2
  exact⟨⟨s,T5,rfl,.inr ⟨rfl,rfl,h.o⟩⟩,rfl⟩
 ·have d:=(a.1 Y).1;have i:=af ((a.1 Y).2);have l:(4:Int)<=(s.size:Int):=by omega
  clear a;go_wp2
  go_ret2
  refine⟨⟨s.extract 4 s.size,Z,rfl,.inl ⟨rfl,?_⟩⟩,rfl⟩;obtain⟨b,f⟩:=i.o;rw[dy,f,UO (by rw[WZ,<-f,aj];omega)];simp
def wU(s:ByteArray)(w:F)(h:s.size<=Up):
 UB aI 127 #[.string s,.string ⟨#[83,84,82,65]⟩] w λe w'=>Qs s e/\w'=w:=by
 have l:=h;unfold Up at l;go_enter an.func127,Tryz.ntmps127
 go_wp2_with fail
 refine(Ai s _ h).mono ?_;rintro e q ⟨k,rfl,b,rfl⟩;cases k
 ·have i:X (∀a,bytesOf s≠a++[83,84,82,65]):=λa c=>by
   have d:4<=s.size:=by
    have:=congrArg XD c;rw[aj] at this;simp at this;omega
   exact absurd (b.2 ⟨d,a,c⟩) (by simp)
  clear b;go_wp2
  go_ret2
  exact⟨⟨s,T5,rfl,.inr ⟨rfl,rfl,i.o⟩⟩,rfl⟩
 ·have d:=(b.1 Y).1;have j:=af ((b.1 Y).2);have m:(4:Int)<=(s.size:Int):=by omega
  have n:Vb ((s.size:Int)-4)=((s.size-4:Nat):Int):=by unfold Vb;omega
  have o:((s.size-4:Nat):Int)<=(s.size:Int):=by omega
  have p:((s.size:Int)-4).toNat=s.size-4:=by omega
  clear b;go_wp2
  go_ret2
  refine⟨⟨s.extract 0 (s.size-4),Z,rfl,.inl ⟨rfl,?_⟩⟩,rfl⟩;obtain⟨a,f⟩:=j.o;have g:=congrArg XD f;rw[aj] at g;simp at g;rw[dy,f,List.drop_zero,show s.size-4-0=a.length by omega,List.take_left]
def Aa(s:ByteArray)(w:F)(d:s.size<=Up):
 UB aI 89 #[.string s,.string ⟨#[83,84,82,65]⟩] w λe w'=>Qq s e/\w'=w:=by
 go_enter an.func89,Tryz.ntmps89
 go_wp2_with fail
 refine(wT s _ d).mono ?_;rintro e g ⟨⟨f,b,rfl,c⟩,rfl⟩;have a:=af c;go_wp2
 go_ret2
 exact⟨⟨f,b,rfl,a.o⟩,rfl⟩
def rD(s:ByteArray)(w:F)(d:s.size<=Up):
 UB aI 90 #[.string s,.string ⟨#[83,84,82,65]⟩] w λe w'=>Qs s e/\w'=w:=by
 go_enter an.func90,Tryz.ntmps90
 go_wp2_with fail
 refine(wU s _ d).mono ?_;rintro e g ⟨⟨f,b,rfl,c⟩,rfl⟩;have a:=af c;go_wp2
 go_ret2
 exact⟨⟨f,b,rfl,a.o⟩,rfl⟩
def sg (s:ByteArray):Nat->Nat
 |0=>0
 |k+1=>sg s k+256^k*(bytesOf s).getD k 0
def sR(s:ByteArray)(k:Nat):(bytesOf s).getD k 0<256:=by
 by_cases a:k<s.size
 ·rw[Uh,sK s k a];exact s[k].toNat_lt
 ·rw[Uh,List.getElem?_eq_none (by rw[aj];omega)];simp
theorem xq(s:ByteArray):∀k,sg s k<256^k
 |0=>by simp[sg]
 |k+1=>by
  have a:=xq s k;have b:=sR s k;have c:256^k*(bytesOf s).getD k 0<=256^k*255:=Nat.mul_le_mul_left _ (by omega);rw[sg,Nat.pow_succ];omega
def Rv(j:Nat):(256:Nat)^j=2^(8*j):=by rw[Nat.pow_mul]
def Py(a c j:Nat)(e:j<=3)(b:a<256^j)(hc:c<256):bits .or .u64 (a:Int) (Wl.wrap ((c:Int)*2^(8*j)))=((a+256^j*c:Nat):Int):=by
 have i:(256:Nat)^3=16777216:=by decide
 have g:256^j<=256^3:=Nat.pow_le_pow_right (by omega) e;have k:2^(8*j)*c<18446744073709551616:=by
  rw[<-Rv];have:=Ws g (show c<=255 by omega);omega
 have d:(c:Int)*2^(8*j)=((2^(8*j)*c:Nat):Int):=by push_cast;rw[Int.mul_comm]
 have h:Wl.wrap ((c:Int)*2^(8*j))=((2^(8*j)*c:Nat):Int):=by rw[d,wrap_u64];omega
 have f:=(bits_nat .u64 64 (by decide) vj a (2^(8*j)*c) (by omega) (by omega)).2;rw[h,f,Nat.or_comm,<-Nat.two_pow_add_eq_or_of_lt (by rw[<-Rv];exact b) c,Nat.add_comm,Rv]
def y8(s:ByteArray)(w:F)(h:s.size=4):
 UB aI 91 #[.string s] w λe w'=>e= .returned (.int .u64 (sg s 4:Int))/\w'=w:=by
 go_enter an.func91,Tryz.ntmps91
 go_wp2_with fail
 go_loopw [3,5] (λg b wr=>∃a:Nat,a<=4/\b= .int .i64 (a:Int)/\g= .int .u64 (sg s a:Int)/\wr=w) (λ_ b _=>4-(US b).toNat)
 case atStart=>exact⟨0,by omega,rfl,rfl,rfl⟩
 case round=>
  obtain⟨a,i,rfl,rfl,rfl⟩:=hrel;by_cases k:a<4
  ·have f:a<s.size:=by omega
   have j:(a:Int)<(s.size:Int):=by omega
   have c:X (s[a].toNat=(bytesOf s).getD a 0):=by show _=_;rw[Uh,sK s a f];rfl
   have d:s[a].toNat<256:=s[a].toNat_lt;have l:=Py (sg s a) s[a].toNat a (by omega) (xq s a) d;have m:Wl.wrap (s[a].toNat:Int)=(s[a].toNat:Int):=by rw[wrap_u64];omega
   go_wp2_with fail
   refine⟨⟨a+1,by omega,by go_num,?_,trivial⟩,by simp[US];omega⟩;rw[sg,<-c.o]
   push_cast
   rfl
  ·obtain rfl:a=4:=by omega
   go_wp2;go_ret;exact⟨rfl,rfl⟩
def AW(E:ByteArray)(h:E.size=4):iz (sg E 4)=bytesOf E:=by
 have f:(bytesOf E).length=4:=by rw[aj,h]
 have b:=sR E 0;have c:=sR E 1;have d:=sR E 2;have e:=sR E 3;simp only[sg];generalize bytesOf E=a at*
 match a,f with
 | [g,i,j,k],_=>
  simp at b c d e;simp[iz];omega
def JI(E:ByteArray)(n:Nat)(e:n<=65536)(h:bytesOf E=iz n):sg E 4=n:=by
 have c:E.size=4:=by rw[<-aj,h];rfl
 have b:=AW E c;have a:iz (sg E 4)=iz n:=by rw[b,h]
 have d:=xq E 4;unfold iz at a;simp at a;have:(256:Nat)^4=4294967296:=by decide
 omega
def SZ (s:ByteArray)(e:Xa):Prop:=
 (∃a b:ByteArray,e= .returned (.tuple #[.string a,.string b,.bool Z])/\Cut s (bytesOf a) (bytesOf b))\/(e= .returned (.tuple #[.string ⟨#[]⟩,.string ⟨#[]⟩,.bool T5])/\∀a b,¬Cut s a b)
def OI(s:ByteArray)(w:F)(v:s.size<=Up):
 UB aI 61 #[.string s] w λe w'=>SZ s e/\aP w w':=by
 have K:=v;unfold Up at K;by_cases T:65536<s.size
 ·have H:decide ((65536:Int)<(s.size:Int))=Z:=by simp;omega
  have i:X (∀c a,¬Cut s c a):=λc a f=>by have:=f.1;omega
  go_enter an.func61,Tryz.ntmps61;go_wp2;simp[VR,UX,Tryz.results61,go_sem];exact⟨.inr ⟨rfl,i.o⟩,Uo _ _⟩
 ·have H:decide ((65536:Int)<(s.size:Int))=T5:=by simp;omega
  go_enter an.func61,Tryz.ntmps61
  go_wp2_with fail
  refine(Aa s _ v).mono ?_;rintro e av ⟨⟨o,D,rfl,n⟩,rfl⟩;rcases n with⟨rfl,n⟩|⟨rfl,rfl,n⟩;rotate_left
  ·have i:X (∀c a,¬Cut o c a):=λc a f=>n _ f.2;clear n
   go_wp2_with fail
   refine(rD o _ v).mono ?_;rintro e A ⟨⟨d,D,rfl,h⟩,rfl⟩;clear h;go_wp2;simp[VR,UX,Tryz.results61,go_sem];exact⟨.inr ⟨rfl,i.o⟩,Uo _ _⟩
  ·have Y:o.size+4=s.size:=by
    have:=congrArg XD n;rw[aj,T8,aj] at this;simp at this;omega
   have M:o.size<=Up:=by unfold Up;omega
   have r:=af n;clear n
   go_wp2_with fail
   refine(rD o _ M).mono ?_;rintro e A ⟨⟨d,D,rfl,h⟩,rfl⟩;rcases h with⟨rfl,h⟩|⟨rfl,rfl,h⟩;rotate_left
   ·have i:X (∀c a,¬Cut s c a):=λc a f=>by
     have j:=f.2;rw[r.o] at j;have l:=List.append_cancel_left (show[83,84,82,65]++bytesOf _=[83,84,82,65]++_ from j);exact h (c++(a++iz a.length)) (by rw[l];simp[dM])
    clear h;go_wp2;simp[VR,UX,Tryz.results61,go_sem];exact⟨.inr ⟨rfl,i.o⟩,Uo _ _⟩
   ·have aa:d.size+4=o.size:=by
     have:=congrArg XD h;rw[aj,T8,aj] at this;simp at this;omega
    have p:X (∀c a,Cut s c a->bytesOf d=c++(a++iz a.length)):=λc a f=>by
     have j:=f.2;rw[r.o] at j;have l:=List.append_cancel_left (show[83,84,82,65]++bytesOf _=[83,84,82,65]++_ from j);rw[h] at l;have z:bytesOf d++[83,84,82,65]=(c++(a++iz a.length))++[83,84,82,65]:=by rw[l];simp[dM]
     exact List.append_cancel_right z
    have t:X (∀c a,bytesOf d=c++(a++iz a.length)->Cut s c a):=λc a f=>by
     refine⟨by omega,?_⟩;rw[r.o,h,f];simp[dM]
    clear h r;by_cases z:d.size<4
    ·have I:decide ((d.size:Int)-4<0)=Z:=by simp;omega
     have N:Vb ((d.size:Int)-4)=(d.size:Int)-4:=by unfold Vb;omega
     have i:X (∀c a,¬Cut s c a):=λc a f=>by
      have:=congrArg XD (p.o c a f);rw[aj] at this;simp[iz] at this;omega
     clear p t;go_wp2;simp[VR,UX,Tryz.results61,go_sem];exact⟨.inr ⟨rfl,i.o⟩,Uo _ _⟩
    ·obtain⟨b,L⟩:∃b,d.size=b+4:=⟨d.size-4,by omega⟩;have I:decide ((b:Int)<0)=T5:=by simp
     have N:Vb ((d.size:Int)-4)=(b:Int):=by unfold Vb;omega
     have Q:(b:Int)<=(d.size:Int):=by omega
     have R:(d.size:Int)-4=(b:Int):=by omega
     obtain⟨g,u⟩:∃g,g=d.extract b (b+4):=⟨_,rfl⟩;have q:g.size=4:=by rw[u,ByteArray.size_extract];omega
     have y:X (bytesOf d=(bytesOf d).take b++bytesOf g):=by
      show _=_;rw[u,dy,UO (l:=(bytesOf d).drop b) (by rw[WZ,aj];omega),Ww]
     have C:X (UB aI 91 #[.string (d.extract b (b+4))] A λe w'=>e= .returned (.int .u64 (sg g 4:Int))/\w'=A):=by rw[<-u];exact y8 g _ q
     have B:=af (AW g q);have P:=af (xq g 4);have x:X (∀c a,Cut s c a->sg g 4=a.length/\a.length<=b):=λc a f=>by
      have E:=p.o c a f;have j:=y.o;have J:=congrArg XD E;rw[aj] at J;simp[iz] at J;have l:(bytesOf d).take b++bytesOf g=(c++a)++iz a.length:=by rw[<-j,E,UC]
      have G:=(List.append_inj' l (by rw[aj,q];rfl)).2;exact⟨JI g _ (by omega) G,by omega⟩
     clear u;generalize sg g 4=k at*
     go_wp2_with fail
     refine C.o.mono ?_;rintro e aw ⟨rfl,rfl⟩;have ar:Wl.wrap (b:Int)=(b:Int):=by rw[wrap_u64];omega
     have ad:=af L;have ab:=af q;have ao:b<=65536:=by omega
     have ae:X (s.size<=65536):=by show _<=_;omega
     have ap:(b:Int)<=(d.size:Int):=by omega
     clear C N R Q I Y aa M L q H K v T z;by_cases S:b<k
     ·have U:(b:Int)<(k:Int):=by omega
      have i:X (∀c a,¬Cut s c a):=λc a f=>by have:=x.o c a f;omega
      clear p t x;go_wp2;simp[VR,UX,Tryz.results61,go_sem];exact⟨.inr ⟨rfl,i.o⟩,Uo _ _⟩
     ·have U:decide ((b:Int)<(k:Int))=T5:=by simp;omega
      obtain⟨m,W⟩:∃m,b=m+k:=⟨b-k,by omega⟩;have au:(b:Int)-(k:Int)=(m:Int):=by omega
      have G:(m:Int)<=(b:Int):=by omega
      have al:(m:Int)<=(d.size:Int):=by omega
      have O:X (Cut s (bytesOf (d.extract 0 m)) (bytesOf (d.extract m b))):=by
       refine t.o _ _ ?_;have V:(bytesOf (d.extract m b)).length=k:=by rw[aj,ByteArray.size_extract];omega
       rw[V,B.o];have j:=y.o;rw[dy,dy,List.drop_zero,<-UC];have l:((bytesOf d).take (m-0))++((bytesOf d).drop m).take (b-m)=(bytesOf d).take b:=by
        rw[show b=m+(b-m) by omega,List.take_add,show m+(b-m)-m=b-m by omega];rfl
       rw[l];exact j
      have am:k<=65536:=by omega
      clear p t x y B P W S
      go_upto_region 12 with fail
      go_quiet (fail)
      go_wp2;simp[VR,UX,Tryz.results61,go_sem];exact⟨.inl ⟨_,_,rfl,O.o⟩,below_drewN (Uo _ _) _⟩
def TR (w:F)(s z:ByteArray)(e:Xa)(w':F):Prop:=
 aP w w'/\((∃(b:List (bK×Int)) (a:List Bd) (f:List (Bd×U)) (g h i:U),e= .returned (.tuple #[.agg #[g,h,i],.bool Z])/\xd b a/\f.map Uw=a/\bytesOf s=qD b a/\bytesOf z=bQ a/\cN w' w.heap.size b f g h i/\(∀d c,xd d c->bytesOf s=qD d c->bytesOf z=bQ c->d=b/\c=a))\/
  (e= .returned (.tuple #[.agg #[aO,aO,aO],.bool T5])/\∀b a,xd b a->bytesOf s=qD b a->bytesOf z≠bQ a))
def AJ{w w4:F}{x y z v:U}(q:Nat)(hL:w4.heap[w.heap.size]? =I (.cells #[x,y,z] 105 (0,0)))(a:w4.heap[w.heap.size+1]? =I (.cells #[v] 4 (0,0))):
 CallsD aI 92 #[.pointer (I ⟨w.heap.size,0,K⟩),.pointer (I ⟨w.heap.size+1,0,K⟩)] (.panicking (eC q)) w4 λe b w'=>
  e= .returned (.tuple #[])/\b= .panicking [{v:=.iface 205 (.agg #[.int .i64 (q:Int)]),recovered:=Z}]/\w'=(gS (w4.alloc (.cells oz 105)) w.heap.size aO aO aO).setCell ⟨w.heap.size+1,0,K⟩ (.bool T5):=
 ue _ _ _ _ _ _ _ _ [] w4 (by omega) hL a
def sB{w w4:F}{x y z v:U}(a b c u:U)(hL:w4.heap[w.heap.size]? =I (.cells #[x,y,z] 105 (0,0)))(g:w4.heap[w.heap.size+1]? =I (.cells #[v] 4 (0,0)))(f:aP w w4):
 let W:=(gS w4 w.heap.size a b c).setCell ⟨w.heap.size+1,0,K⟩ u
 (aM W w.heap.size 0 a/\aM W w.heap.size 1 b/\aM W w.heap.size 2 c)/\aM W (w.heap.size+1) 0 u/\aP w W:=by
 have d:=qP a b c hL;have e:(gS w4 w.heap.size a b c).heap[w.heap.size+1]? =I (.cells #[v] 4 (0,0)):=by rw[kG _ _ _ (by omega)];exact g
 refine⟨(fJ (t:=105) (by rw[Ut _ _ _ _ (by simp)];exact d)).1,(dD (sX u e)).1,?_⟩;exact(mM _ _ _ f (T6 _) (T6 _)).setCell (Nat.le_succ _) _
def Hi(cb:Nat)(s z:ByteArray)(w:F)(b5:s.size<=65536)(b6:z.size<=65536)(ab:w.heap[cb]? =I (.cells #[.string z] 9 (0,0))):
 UB aI 62 #[.string s,.func (.func 63) #[] #[.pointer (I ⟨cb,0,K⟩)]] w (TR w s z):=by
 have b4:cb<w.heap.size:=Ud ab;have a8:s.size<=Up:=by unfold Up;omega
 have ad:=af ab;clear ab;have cf:∀(ap:Fn) (first al:Array U) (w:F),(Instr.makeFunc ap first al).run aI w= .ok (.func ap first al) w:=λ_ _ _ _=>rfl
 go_enter_defers an.func62,Tryz.ntmps62
 go_wp2_with (go_at_call 65;refine(nL s _).mono ?_;rintro q bc ⟨rfl,rfl⟩)
 have M:(((w.alloc (.cells #[aO,aO,aO] 105)).alloc (.cells #[.bool T5] 4)).alloc (b9 s 0)).heap[w.heap.size]? =I (.cells #[aO,aO,aO] 105 (0,0)):=CR _ _ _ _;have L:(((w.alloc (.cells #[aO,aO,aO] 105)).alloc (.cells #[.bool T5] 4)).alloc (b9 s 0)).heap[w.heap.size+1]? =I (.cells #[.bool T5] 4 (0,0)):=CS _ _ _ _;have aa:(((w.alloc (.cells #[aO,aO,aO] 105)).alloc (.cells #[.bool T5] 4)).alloc (b9 s 0)).heap[w.heap.size+1+1]? =I (b9 s 0):=CU _ _ _ _;have a4:(((w.alloc (.cells #[aO,aO,aO] 105)).alloc (.cells #[.bool T5] 4)).alloc (b9 s 0)).heap.size=w.heap.size+3:=by simp
 have A:aP w (((w.alloc (.cells #[aO,aO,aO] 105)).alloc (.cells #[.bool T5] 4)).alloc (b9 s 0)):=(((Uo _ _).alloc (T6 _) _).alloc (by simp) _).alloc (by simp;omega) _;generalize (((w.alloc (.cells #[aO,aO,aO] 105)).alloc (.cells #[.bool T5] 4)).alloc (b9 s 0))=P at*;refine(J0 (w.heap.size+1+1) cb s z P b5 b6 aa ((A.block cb b4).trans ad.o)).mono ?_;rintro q h ⟨o,⟨a,i,b,bv,bx,bA,rfl,a7,a0,a9,cd,a2,a5,hF,ba⟩|⟨ch,rfl,a1⟩⟩
 ·have l:h.heap[w.heap.size]? =I (.cells #[aO,aO,aO] 105 (0,0)):=Kp.block o M (by omega);have v:h.heap[w.heap.size+1]? =I (.cells #[.bool T5] 4 (0,0)):=Kp.block o L (by omega);have H:aP w h:=A.trans ((o.below (by omega)).mono (by omega));have W:cN h w.heap.size a b bv bx bA:=hF.base (by omega);obtain⟨c,ac,e,d,g,f,rfl,rfl,rfl⟩:=W.Ia;have N:X (cN (gS h w.heap.size (.slice c a.length ac) (.slice e a.length d) (.slice g b.length f)) w.heap.size a b (.slice c a.length ac) (.slice e a.length d) (.slice g b.length f)):=W.gS _ _ _ l;have az:(gS h w.heap.size (.slice c a.length ac) (.slice e a.length d) (.slice g b.length f)).heap[w.heap.size]? =I (.cells #[.slice c a.length ac,.slice e a.length d,.slice g b.length f] 105 (0,0)):=qP _ _ _ l;have av:(gS h w.heap.size (.slice c a.length ac) (.slice e a.length d) (.slice g b.length f)).heap[w.heap.size+1]? =I (.cells #[.bool T5] 4 (0,0)):=by rw[kG _ _ _ (by omega)];exact v
  have a3:(gS h w.heap.size (.slice c a.length ac) (.slice e a.length d) (.slice g b.length f)).heap[w.heap.size+1+1]? =I (b9 s (qD a i).length):=by rw[kG _ _ _ (by omega)];exact a2
  have au:aP w (gS h w.heap.size (.slice c a.length ac) (.slice e a.length d) (.slice g b.length f)):=mM _ _ _ H (T6 _) (T6 _);obtain⟨⟨be,bi,bj⟩,ao,r,t⟩:=fJ l;have br:=af a7;have bs:=af a0;have bt:=af a9;have bu:=af a5;have ae:X (∀n j,xd n j->bytesOf s=qD n j->bytesOf z=bQ j->n=a/\j=i):=λn j y u T=>ba n j y (eN u.symm) T;have E:=af az;have D:=af av;have C:=af au;have G:=af a3;clear M L aa a4 A l v H W hF o a2 a7 a0 a9 a5 ba az av a3 au ad;clear P
  go_upto_region 4 with fail
  unfold gS at N E D C G;generalize ((h.setCell ⟨w.heap.size,0,K⟩ (.slice c a.length ac)).setCell ⟨w.heap.size,1,K⟩ (.slice e a.length d)).setCell ⟨w.heap.size,2,K⟩ (.slice g b.length f)=k at*;clear be bi bj ao r t;by_cases a6:(qD a i).length<s.size
  ·have O:X (∀a i,xd a i->bytesOf s=qD a i->bytesOf z≠bQ i):=λn j y u T=>by
    obtain⟨am,bB⟩:=ae.o n j y u T;have:=congrArg XD u;rw[aj,am,bB] at this;omega
   go_wp2_with (go_at_call 93;refine(BW (w.heap.size+1+1) _ s _ a8 a6 G.o).mono ?_;rintro q bc ⟨rfl,m,rfl⟩)
   have p:(k.drewN m).heap[w.heap.size]? =I (.cells #[.slice c a.length ac,.slice e a.length d,.slice g b.length f] 105 (0,0)):=E.o;have x:(k.drewN m).heap[w.heap.size+1]? =I (.cells #[.bool T5] 4 (0,0)):=D.o;have J:aP w (k.drewN m):=below_drewN C.o m;generalize k.drewN m=B at*;obtain⟨⟨r,t,Q⟩,R,S⟩:=sB aO aO aO (.bool T5) (w4:=B.alloc (.cells oz 105)) (by rw[UN _ _ _ (Ud p)];exact p) (by rw[UN _ _ _ (Ud x)];exact x) (J.alloc (by have:=Ud p;omega) _);refine leaves_cons (f:=92) (args:= #[.pointer (I ⟨w.heap.size,0,K⟩),.pointer (I ⟨w.heap.size+1,0,K⟩)]) (by simp) (by simp[go_sem]) ?_;refine(AJ _ p x).mono ?_;rintro q bb bd ⟨rfl,rfl,rfl⟩;simp[Leaves,settle,UX,Tryz.results62,go_sem,r,t,Q,R];exact⟨S,.inr ⟨rfl,O.o⟩⟩
  ·have bm:X (bytesOf s=qD a i):=zG bt.o (by rw[aj];omega)
   go_upto_region 5 with(go_at_call 93;refine(FX (w.heap.size+1+1) _ s _ a8 a6 G.o).mono ?_;rintro q bc ⟨rfl,m,rfl⟩)
   have p:(k.drewN m).heap[w.heap.size]? =I (.cells #[.slice c a.length ac,.slice e a.length d,.slice g b.length f] 105 (0,0)):=E.o;have x:(k.drewN m).heap[w.heap.size+1]? =I (.cells #[.bool T5] 4 (0,0)):=D.o;have J:aP w (k.drewN m):=below_drewN C.o m;have aw:cN (k.drewN m) w.heap.size a b (.slice c a.length ac) (.slice e a.length d) (.slice g b.length f):=N.o.below (below_drewN (Uo _ _) _);generalize k.drewN m=B at*;obtain⟨⟨b0,b1,b2⟩,b3,ar⟩:=sB (.slice c a.length ac) (.slice e a.length d) (.slice g b.length f) (.bool Z) p x J;have bl:=af ar;have V:(gS B w.heap.size (.slice c a.length ac) (.slice e a.length d) (.slice g b.length f)).heap[w.heap.size+1]? =I (.cells #[.bool T5] 4 (0,0)):=by rw[kG _ _ _ (by omega)];exact x
   have bo:X (cN ((gS B w.heap.size (.slice c a.length ac) (.slice e a.length d) (.slice g b.length f)).setCell ⟨w.heap.size+1,0,K⟩ (.bool Z)) w.heap.size a b (.slice c a.length ac) (.slice e a.length d) (.slice g b.length f)):=(aw.gS _ _ _ p).put V (.inr (.inl Y)) _ _;obtain⟨⟨be,bi,bj⟩,ao,r,t⟩:=fJ p;obtain⟨cc,am⟩:=dD V;clear ar aw J N E D C G V;unfold gS at*;go_wp2;generalize (((B.setCell ⟨w.heap.size,0,K⟩ (.slice c a.length ac)).setCell ⟨w.heap.size,1,K⟩ (.slice e a.length d)).setCell ⟨w.heap.size,2,K⟩ (.slice g b.length f)).setCell ⟨w.heap.size+1,0,K⟩ (.bool Z)=ca at*;refine leaves_cons (f:=92) (args:= #[.pointer (I ⟨w.heap.size,0,K⟩),.pointer (I ⟨w.heap.size+1,0,K⟩)]) (by simp) (by simp[go_sem]) ?_;refine(Dt ⟨w.heap.size,0,K⟩ ⟨w.heap.size+1,0,K⟩ _).mono ?_;rintro q bb bd ⟨rfl,rfl,rfl⟩;simp[Leaves,settle,UX,Tryz.results62,go_sem,b0,b1,b2,b3];exact⟨bl.o,.inl ⟨a,i,b,_,_,_,rfl,br.o,bs.o,bm.o,bu.o,bo.o,ae.o⟩⟩
 ·have l:h.heap[w.heap.size]? =I (.cells #[aO,aO,aO] 105 (0,0)):=Kp.block o M (by omega);have v:h.heap[w.heap.size+1]? =I (.cells #[.bool T5] 4 (0,0)):=Kp.block o L (by omega);have H:aP w h:=A.trans ((o.below (by omega)).mono (by omega));have O:X (∀a i,xd a i->bytesOf s=qD a i->bytesOf z≠bQ i):=λn j y u=>a1 n j y (eN u.symm);clear M L aa a4 A o a1;clear P;obtain⟨⟨r,t,Q⟩,R,S⟩:=sB aO aO aO (.bool T5) (w4:=h.alloc (.cells oz 105)) (by rw[UN _ _ _ (Ud l)];exact l) (by rw[UN _ _ _ (Ud v)];exact v) (H.alloc (by have:=Ud l;omega) _);refine leaves_cons (f:=92) (args:= #[.pointer (I ⟨w.heap.size,0,K⟩),.pointer (I ⟨w.heap.size+1,0,K⟩)]) (by simp) (by simp[go_sem]) ?_;refine(AJ _ l v).mono ?_;rintro q bb bd ⟨rfl,rfl,rfl⟩;simp[Leaves,settle,UX,Tryz.results62,go_sem,r,t,Q,R];exact⟨S,.inr ⟨rfl,O.o⟩⟩
def ic (v low:aD):Bool:= !low.null&&decide (fo v low<0)
def ia (v high:aD):Bool:= !high.null&&decide (0<fo v high)
def vE(v low:aD)(w:F):UB aI 114 #[v.agg,low.agg] w λe w'=>e= .returned (.bool (ic v low))/\aP w w':=by
 have g:=λi=>jH v low i;obtain⟨f,a,b⟩:=low;unfold aD.agg;have d:X (aP w ((w.alloc (.cells (gY v) 59)).alloc (.cells #[.bool f,.int .i64 a,.string b] 59))):=((Uo _ _).alloc (T6 _) _).alloc (by simp) _;cases f
 ·have c:ic v ⟨T5,a,b⟩=decide (fo v ⟨T5,a,b⟩<0):=by simp[ic]
  rw[c];go_enter an.func114,Tryz.ntmps114
  go_wp2_with (go_at_call 125;refine(g _).mono ?_;rintro e w' ⟨rfl,j⟩;have h:X (aP w w'):=d.o.trans (j.mono (by simp;omega)))
  go_ret;exact⟨rfl,h.o⟩
 ·have c:ic v ⟨Z,a,b⟩=T5:=by simp[ic]
  rw[c];go_enter an.func114,Tryz.ntmps114;go_wp2;go_ret;exact⟨rfl,d.o⟩
def vD(v low:aD)(w:F):UB aI 115 #[v.agg,low.agg] w λe w'=>e= .returned (.bool (ia v low))/\aP w w':=by
 have g:=λi=>jH v low i;obtain⟨f,a,b⟩:=low;unfold aD.agg;have d:X (aP w ((w.alloc (.cells (gY v) 59)).alloc (.cells #[.bool f,.int .i64 a,.string b] 59))):=((Uo _ _).alloc (T6 _) _).alloc (by simp) _;cases f
 ·have c:ia v ⟨T5,a,b⟩=decide (0<fo v ⟨T5,a,b⟩):=by simp[ia]
  rw[c];go_enter an.func115,Tryz.ntmps115
  go_wp2_with (go_at_call 125;refine(g _).mono ?_;rintro e w' ⟨rfl,j⟩;have h:X (aP w w'):=d.o.trans (j.mono (by simp;omega)))
  go_ret;exact⟨rfl,h.o⟩
 ·have c:ia v ⟨Z,a,b⟩=T5:=by simp[ia]
  rw[c];go_enter an.func115,Tryz.ntmps115;go_wp2;go_ret;exact⟨rfl,d.o⟩
def qv (a b c d e:U)(sk:Bool):U:=.agg #[a,b,c,d,e,.bool sk]
def Ae(h:Option UJ)(n cap:Nat)(b c d e:U)(sk:Bool)(k:Int)(w:F):UB aI 106 #[qv (.slice h n cap) b c d e sk,.int .i64 k] w λf w'=>f= .returned (.bool (decide (0<=k)&&decide (k<(n:Int))))/\aP w w':=by
 unfold qv;have g:X (aP w (w.alloc (.cells #[.slice h n cap,b,c,d,e,.bool sk] 115))):=(Uo _ _).alloc (T6 _) _;by_cases i:0<=k
 ·have a:decide (0<=k)=Z:=by simpa using i
  rw[a];go_enter an.func106,Tryz.ntmps106;go_wp2;go_ret;exact⟨rfl,g.o⟩
 ·have a:decide (0<=k)=T5:=by simpa using i
  rw[a];go_enter an.func106,Tryz.ntmps106;go_wp2;go_ret;exact⟨rfl,g.o⟩
structure cE where
 col:Int
 low:aD
 high:aD
def si (x:cE):List U:=[.int .i64 x.col,.bool x.low.null,.int .i64 x.low.n,.string x.low.s,.bool x.high.null,.int .i64 x.high.n,.string x.high.s]
def dK (l:List cE):List U:=l.flatMap si
structure dA(w:F)(ao:Option UJ)(b off:Nat)(l:List cE):Prop where
 addr:0<l.length->ao=I ⟨b,off,K⟩
 lt:0<l.length->b<w.heap.size
 c0:∀j (h:j<l.length),aM w b (off+j*7) (.int .i64 l[j].col)
 c1:∀j (h:j<l.length),aM w b (off+j*7+1) (.bool l[j].low.null)
 c2:∀j (h:j<l.length),aM w b (off+j*7+2) (.int .i64 l[j].low.n)
 c3:∀j (h:j<l.length),aM w b (off+j*7+3) (.string l[j].low.s)
 c4:∀j (h:j<l.length),aM w b (off+j*7+4) (.bool l[j].high.null)
 c5:∀j (h:j<l.length),aM w b (off+j*7+5) (.int .i64 l[j].high.n)
 c6:∀j (h:j<l.length),aM w b (off+j*7+6) (.string l[j].high.s)
def dA.kept{w w':F}{f:Option UJ}{b off:Nat}{l:List cE}(h:dA w f b off l)(j:w.heap.size<=w'.heap.size)(i:0<l.length->w'.heap[b]? =w.heap[b]?):dA w' f b off l:=by
 have d:∀a,a<l.length->∀e,w'.cell? ⟨b,e,K⟩=w.cell? ⟨b,e,K⟩:=λa c e=>by unfold Ur;rw[i (by omega)]
 exact⟨h.addr,λg=>Uc (h.lt g) j,λa c=>(d a c _).trans (h.c0 a c),λa c=>(d a c _).trans (h.c1 a c),λa c=>(d a c _).trans (h.c2 a c),λa c=>(d a c _).trans (h.c3 a c),λa c=>(d a c _).trans (h.c4 a c),λa c=>(d a c _).trans (h.c5 a c),λa c=>(d a c _).trans (h.c6 a c)⟩
def dA.below{w w':F}{a:Option UJ}{b off:Nat}{l:List cE}(h:dA w a b off l)(c:aP w w'):dA w' a b off l:=h.kept c.size λd=>c.block b (h.lt d)
theorem n9:∀(l:List cE) (j:Nat) (h:j<l.length) (i:Nat) (v:U),(si l[j])[i]? =I v->(dK l)[j*7+i]? =I v
 | [],j,h,i,v,a=>by simp at h
 |x::l,0,h,i,v,a=>by
  simp only[List.getElem_cons_zero] at a;simp only[dK,WR,Nat.zero_mul,UT];exact Vw (Uz.1 a).1▸a
 |x::l,j+1,h,i,v,a=>by
  simp only[List.getElem_cons_succ] at a;have:=n9 l j (by simpa using h) i v a;have b:(j+1)*7+i=j*7+i+7:=by omega
  rw[b];simpa [dK,si] using this
def rH(l:List cE):(dK l).length=l.length*7:=by
 induction l with
 |nil=>rfl
 |cons b l a=>simp only[dK,WR,T8,VI,si,XH] at a ⊢;omega
def dA.D9{w:F}{b off:Nat}{l:List cE}(e:b<w.heap.size)(hc:∀i v,(dK l)[i]? =I v->aM w b (off+i) v):dA w (I ⟨b,off,K⟩) b off l:=by
 have d:∀a (c:a<l.length) i v,(si l[a])[i]? =I v->aM w b (off+a*7+i) v:=λa c i v f=>by
  have:=hc _ _ (n9 l a c i v f);rw[Nat.add_assoc];exact this
 exact⟨λ_=>rfl,λ_=>e,λa c=>d a c 0 _ Y,λa c=>d a c 1 _ Y,λa c=>d a c 2 _ Y,λa c=>d a c 3 _ Y,λa c=>d a c 4 _ Y,λa c=>d a c 5 _ Y,λa c=>d a c 6 _ Y⟩
structure sG(w:F)(lb m:Nat)(c:Int)(p:Nat)(v:aD):Prop where
 ex:∃j g n cap:Nat,c=(j:Int)/\j<m/\lb<w.heap.size/\aM w lb j (.slice (I ⟨g,0,K⟩) n cap)/\p<n/\g<w.heap.size/\aM w g (p*3) (.bool v.null)/\aM w g (p*3+1) (.int .i64 v.n)/\aM w g (p*3+2) (.string v.s)
def sG.below{w w':F}{lb m:Nat}{c:Int}{p:Nat}{v:aD}(h:sG w lb m c p v)(a:aP w w'):sG w' lb m c p v:=by
 obtain⟨e,b,r,f,g,i,j,k,l,d,n,o,q⟩:=h.ex;have s:=a.size;exact⟨e,b,r,f,g,i,by omega,(a.cell (p:=⟨lb,e,K⟩) j).trans k,l,by omega,(a.cell (p:=⟨b,p*3,K⟩) d).trans n,(a.cell (p:=⟨b,p*3+1,K⟩) d).trans o,(a.cell (p:=⟨b,p*3+2,K⟩) d).trans q⟩
def sb (v:aD)(r:cE):Bool:= !(v.null||ic v r.low||ia v r.high)
def iT(w:F)(o:Obj):(w.alloc o).heap[w.heap.size]? =I o:=by
 show(w.heap.push o)[w.heap.size]? =I o;simp
def jL{W:F}{g:Nat}{a b c d e f h:U}{t:Ug}(i:W.heap[g]? =I (.cells #[a,b,c,d,e,f,h] t (0,0))):aM W g 0 a/\aM W g 1 b/\aM W g 2 c/\aM W g 3 d/\aM W g 4 e/\aM W g 5 f/\aM W g 6 h:=by
 unfold Ur;simp[i]
def yD(rs:List cE)(val:Int->aD)(p lb m bm:Nat)(a b c d:U)(ro:Option UJ)(rb bh aN:Nat)(sk:Bool)(w:F)(bj:rs.length<=Up)(q:dA w ro rb bh rs)(be:∀r∈rs,sG w lb m r.col p (val r.col)):
 UB aI 118 #[qv a b c d (.slice ro rs.length aN) sk,.slice (I ⟨lb,0,K⟩) m bm,.int .i64 (p:Int)] w λe w'=>∃bb,e= .returned (.bool bb)/\(bb=Z↔∀i (h:i<rs.length),sb (val rs[i].col) rs[i]=Z)/\aP w w':=by
 unfold qv;unfold Up at bj;have a3:=af q;have a1:=af be;go_enter an.func118,Tryz.ntmps118
 go_wp2_with fail
 go_loopw [13] (λi wr=>∃g:Nat,g<=rs.length/\i= .int .i64 g/\(∀i (h:i<rs.length),i<g->sb (val rs[i].col) rs[i]=Z)/\aP w wr) (λi _=>rs.length-(US i).toNat)
 case atStart=>exact⟨0,UE _,rfl,λcv _ h=>by omega,(Uo _ _).alloc (T6 _) _⟩
 case round=>
  obtain⟨g,cl,rfl,bc,J⟩:=hrel;have aa:=af bc;have ab:=af J;have bl:=J.size;by_cases u:g<rs.length
  ·have q:=a3.o.below J;obtain rfl:=q.addr (by omega);have bo:=q.c0 g u;have br:=q.c1 g u;have bs:=q.c2 g u;have bt:=q.c3 g u;have bu:=q.c4 g u;have bv:=q.c5 g u;have bx:=q.c6 g u;obtain⟨C,P,cn,b6,ae,ca,a6,a7,cb,O,a8,a9,ba⟩:=((a1.o rs[g] (Ui u)).below J).ex;have M:X (sb (val rs[g].col) rs[g]=T5->¬∀i (h:i<rs.length),sb (val rs[i].col) rs[i]=Z):=λh bd=>by
    have:=bd g u;rw[h] at this;cases this
   have a4:X (sb (val rs[g].col) rs[g]=Z->∀i (h:i<rs.length),i<g+1->sb (val rs[i].col) rs[i]=Z):=λh i bi ci=>by
    by_cases e:i=g
    ·subst e;exact h
    ·exact aa.o i bi (by omega)
   generalize rs[g]=a0 at*;generalize val a0.col=v at*;obtain⟨cx,l,k⟩:=a0;dsimp only at ae bo br bs bt bu bv bx;subst ae
   go_upto_region 4 with fail
   have bA:=jL (iT wr (.cells #[.int .i64 (C:Int),.bool l.null,.int .i64 l.n,.string l.s,.bool k.null,.int .i64 k.n,.string k.s] 61));obtain⟨co,bB,b0,b1,b2,b3,b4⟩:=bA;have n:aP wr (wr.alloc (.cells #[.int .i64 (C:Int),.bool l.null,.int .i64 l.n,.string l.s,.bool k.null,.int .i64 k.n,.string k.s] 61)):=(Uo _ _).alloc (T6 _) _;have cc:=(n.cell (p:=⟨lb,C,K⟩) a6).trans a7;have cd:=(n.cell (p:=⟨P,p*3,K⟩) O).trans a8;have cf:=(n.cell (p:=⟨P,p*3+1,K⟩) O).trans a9;have ch:=(n.cell (p:=⟨P,p*3+2,K⟩) O).trans ba;have ad:=af (ab.o.trans (n.mono bl));have E:wr.heap.size<(wr.alloc (.cells #[.int .i64 (C:Int),.bool l.null,.int .i64 l.n,.string l.s,.bool k.null,.int .i64 k.n,.string k.s] 61)).heap.size:=by simp
   generalize wr.alloc (.cells #[.int .i64 (C:Int),.bool l.null,.int .i64 l.n,.string l.s,.bool k.null,.int .i64 k.n,.string k.s] 61)=s at*;generalize wr.heap.size=j at*;have ck:(C:Int)<(m:Int):=by omega
   go_upto_region 5 with fail
   obtain⟨H,R,S⟩:=qy s (.bool v.null) (.int .i64 v.n) (.string v.s) 59;have n:aP s (s.alloc (.cells (gY v) 59)):=(Uo _ _).alloc (T6 _) _;have cp:=(n.cell (p:=⟨j,1,K⟩) E).trans bB;have cs:=(n.cell (p:=⟨j,2,K⟩) E).trans b0;have cu:=(n.cell (p:=⟨j,3,K⟩) E).trans b1;have T:=(n.cell (p:=⟨j,4,K⟩) E).trans b2;have V:=(n.cell (p:=⟨j,5,K⟩) E).trans b3;have W:=(n.cell (p:=⟨j,6,K⟩) E).trans b4;have A:X (aP w (s.alloc (.cells (gY v) 59))):=ad.o.trans (n.mono (by have:=ad.o.size;omega));have x:j<(s.alloc (.cells (gY v) 59)).heap.size:=by simp;omega
   have y:s.heap.size<(s.alloc (.cells (gY v) 59)).heap.size:=by simp
   generalize s.alloc (.cells (gY v) 59)=b5 at*;generalize s.heap.size=t at*;have z:=λN=>vE v l N;have D:=λN=>vD v k N;unfold aD.agg at z D;have o:sb v ⟨(C:Int),l,k⟩= !(v.null||ic v l||ia v k):=rfl;cases ao:v.null
   ·rw[ao] at H z D o;cases am:ic v l
    ·rw[am] at z o;cases al:ia v k
     ·rw[al] at D o;have a5:=af (a4.o o)
      go_wp2_with (first|(go_at_call 114;refine(z _).mono ?_;rintro e w' ⟨rfl,f⟩;have B:X (aP w w'):=A.o.trans (f.mono (by have:=A.o.size;omega));have ap:=(f.cell (p:=⟨t,0,K⟩) y).trans H;have ar:=(f.cell (p:=⟨t,1,K⟩) y).trans R;have au:=(f.cell (p:=⟨t,2,K⟩) y).trans S;have av:=(f.cell (p:=⟨j,4,K⟩) x).trans T;have aw:=(f.cell (p:=⟨j,5,K⟩) x).trans V;have az:=(f.cell (p:=⟨j,6,K⟩) x).trans W)|(go_at_call 115;refine(D _).mono ?_;rintro e Y ⟨rfl,Q⟩;have L:X (aP w Y):=B.o.trans (Q.mono (by have:=B.o.size;omega))))
      go_roundw
      case rel=>exact⟨g+1,by omega,by go_num,a5.o,L.o⟩
      case measure=>simp[US];omega
     ·rw[al] at D o;have G:=af (M.o o)
      go_wp2_with (first|(go_at_call 114;refine(z _).mono ?_;rintro e w' ⟨rfl,f⟩;have B:X (aP w w'):=A.o.trans (f.mono (by have:=A.o.size;omega));have ap:=(f.cell (p:=⟨t,0,K⟩) y).trans H;have ar:=(f.cell (p:=⟨t,1,K⟩) y).trans R;have au:=(f.cell (p:=⟨t,2,K⟩) y).trans S;have av:=(f.cell (p:=⟨j,4,K⟩) x).trans T;have aw:=(f.cell (p:=⟨j,5,K⟩) x).trans V;have az:=(f.cell (p:=⟨j,6,K⟩) x).trans W)|(go_at_call 115;refine(D _).mono ?_;rintro e Y ⟨rfl,Q⟩;have L:X (aP w Y):=B.o.trans (Q.mono (by have:=B.o.size;omega))))
      go_ret;exact⟨T5,rfl,by simp only[UA,false_iff];exact G.o,L.o⟩
    ·rw[am] at z o;have G:=af (M.o o)
     go_wp2_with (go_at_call 114;refine(z _).mono ?_;rintro e w' ⟨rfl,f⟩;have B:X (aP w w'):=A.o.trans (f.mono (by have:=A.o.size;omega));have ap:=(f.cell (p:=⟨t,0,K⟩) y).trans H;have ar:=(f.cell (p:=⟨t,1,K⟩) y).trans R;have au:=(f.cell (p:=⟨t,2,K⟩) y).trans S;have av:=(f.cell (p:=⟨j,4,K⟩) x).trans T;have aw:=(f.cell (p:=⟨j,5,K⟩) x).trans V;have az:=(f.cell (p:=⟨j,6,K⟩) x).trans W)
     go_ret;exact⟨T5,rfl,by simp only[UA,false_iff];exact G.o,B.o⟩
   ·rw[ao] at H o;have G:=af (M.o o);go_wp2;go_ret;exact⟨T5,rfl,by simp only[UA,false_iff];exact G.o,A.o⟩
  ·have a2:X (∀i (h:i<rs.length),sb (val rs[i].col) rs[i]=Z):=λi h=>aa.o i h (by omega);go_wp2;go_ret;exact⟨Z,rfl,by simp only[true_iff];exact a2.o,ab.o⟩
def Bc(ah:List Int)(val:Int->aD)(p lb m ae:Nat)(a b c f:U)(co:Option UJ)(cb bE aJ:Nat)(sk:Bool)(w:F)(a4:ah.length<=1000)(M:0<ah.length->co=I ⟨cb,bE,K⟩)(O:0<ah.length->cb<w.heap.size)(q:∀j,j<ah.length->aM w cb (bE+j) (.int .i64 (ah.getD j 0)))(P:∀k∈ah,sG w lb m k p (val k)):
 UB aI 119 #[qv a b c (.slice co ah.length aJ) f sk,.slice (I ⟨lb,0,K⟩) m ae,.int .i64 (p:Int)] w λe w'=>aP w w'/\∃v,e= .returned v/\w'.ownsRow w.heap.size 59 3 v ah.length (aG (ah.map val)):=by
 unfold qv;obtain⟨u,r,Z,t,aa⟩:=Ve an.mI;have D:=af M;have G:=af O;have E:=af q;have C:=af P;have B:X (aP w (w.alloc (.cells #[a,b,c,.slice co ah.length aJ,f,.bool sk] 115))):=(Uo _ _).alloc (T6 _) _;have a7:(w.alloc (.cells #[a,b,c,.slice co ah.length aJ,f,.bool sk] 115)).heap.size=w.heap.size+1:=by simp
 go_enter an.func119,Tryz.ntmps119
 go_wp2_with (at_make;refine wpList_make_own _ Y _ _ 43 Y (w.heap.size+1) 59 u _ 3 an.underlying43 r Z t .i64 .i64 _ ah.length Y Y Y (by rw[aa];omega) (by unfold Up;omega) (by simp) ?_;intro y V S;have o:=(Uo (w.heap.size+1) (w.alloc (.cells #[a,b,c,.slice co ah.length aJ,f,.bool sk] 115))).grown S (by simp) (by simp);have a6:aM y w.heap.size 3 (.slice co ah.length aJ):=(o.cell (p:=⟨w.heap.size,3,K⟩) (by simp)).trans (by unfold Ur;rw[iT];rfl))
 have z:X (aP w y):=B.o.trans (o.mono (by omega))
 go_loopw [7,17] (λad l wr=>∃k:Nat,k<=ah.length/\l= .int .i64 (k:Int)/\ad= .slice (I ⟨w.heap.size+1,0,K⟩) k ah.length/\wr.ownsRow (w.heap.size+1) 59 3 (.slice (I ⟨w.heap.size+1,0,K⟩) k ah.length) k (aG ((ah.take k).map val))/\aP w wr) (λ_ l _=>ah.length-(US l).toNat)
 case atStart=>exact⟨0,UE _,rfl,rfl,by simpa [aG] using V,z.o⟩
 case round=>
  obtain⟨k,a3,rfl,rfl,h,d⟩:=hrel;have n:=af d;have W:=d.size;have a2:=(h.lt (w.heap.size+1) Y).2;by_cases g:k<ah.length
  ·obtain rfl:=D.o (by omega);have N:=G.o (by omega);have x:aM wr cb (bE+k) (.int .i64 (ah.getD k 0)):=(d.cell (p:=⟨cb,bE+k,K⟩) N).trans (E.o k g);have R:ah.getD k 0=ah[k]:=by rw[Uh,Ul g];rfl
   rw[R] at x;obtain⟨ab,L,al,ao,J,ap,ar,au,av,aw,az,a0,a1⟩:=((C.o ah[k] (Ui g)).below d).ex;have H:X (aG ((ah.take k).map val)++[.bool (val ah[k]).null,.int .i64 (val ah[k]).n,.string (val ah[k]).s]=aG ((ah.take (k+1)).map val)):=by
    show _=_;rw[Um g,U0,Wp,eW]
   have q:(ab:Int)<(m:Int):=by omega
   have a5:(p:Int)<(al:Int):=by omega
   generalize a8:val ah[k]=i at*;rw[J] at x
   go_wp2_with (at_builtin;refine wpList_append_fits _ Y _ _ 43 Y (w.heap.size+1) 59 u 3 an.underlying43 r t (w.heap.size+1) k ah.length _ Y (h.alloc _) ⟨wr.heap.size,0,K⟩ 1 1 [.bool i.null,.int .i64 i.n,.string i.s] Y Y (by exact jq _ _ _ _ _) (fB i) (by omega) ?_;intro am s T)
   have A:X (aP w am):=(n.o.alloc W _).grown T (by simp;omega) (by intro L Q;simp at Q;omega);rw[H.o] at s;go_wp2
   go_roundw
   case rel=>exact⟨k+1,by omega,by go_num,rfl,s,A.o⟩
   case measure=>simp[US];omega
  ·obtain rfl:k=ah.length:=by omega
   rw[Vf] at h;go_wp2;go_ret;exact⟨n.o,_,rfl,bL h (by omega)⟩
def an.Sp:(aI.info? 4).map (λi=>(i.zero,i.size,i.bytes))=I (I (.bool T5),1,1):=by kernel_rfl
def aY (n:Nat)(l:List Int):List Bool:=(UK n).map fun(a:Nat)=>l.any λb=>b==(a:Int)
def xP (l:List Bool):List U:=l.map WN
def jj(n:Nat)(l:List Int):(aY n l).length=n:=by simp[aY]
def vG(n:Nat)(l:List Int)(j:Nat):(xP (aY n l)).set j (.bool Z)=xP (aY n (l++[(j:Int)])):=by
 apply List.ext_getElem?;intro c;simp only[xP,aY,List.getElem?_set,UG,List.length_range,List.getElem?_map,List.any_append];by_cases b:j=c
 ·subst b;by_cases a:j<n
  ·simp[a]
  ·simp[a]
 ·rcases Vy c n with a|a
  ·have d:((j:Int)==(c:Int))=T5:=by simpa using λa=>b (by omega)
   simp[b,a,d]
  ·simp[b,a]
def Ev{W:F}{g:Nat}{a:List U}{t:Ug}(h:W.heap[g]? =I (.cells a.toArray t (0,0))){j:Nat}{v:U}(b:a[j]? =I v):aM W g j v/\W.frozen? ⟨g,j,K⟩=T5:=by
 constructor
 ·unfold Ur;simp only[h];simpa using b
 ·unfold UQ;simp only[h];simp
def Ix{W:F}{g:Nat}{a:List U}{t:Ug}(h:W.heap[g]? =I (.cells a.toArray t (0,0)))(j:Nat)(v:U):(W.setCell ⟨g,j,K⟩ v).heap[g]? =I (.cells (a.set j v).toArray t (0,0)):=by
 have:=Uq W g j _ _ v h;rw[this];simp
def oU(n:Nat)(ah:List Int)(rs:List cE)(s:Option UJ)(q:Nat)(b c:U)(co:Option UJ)(cb bE aJ:Nat)(ro:Option UJ)(rb bh aN:Nat)(sk:Bool)(w:F)(bt:n<=1000)(a8:ah.length<=Up)(a9:rs.length<=Up)
 (W:0<ah.length->co=I ⟨cb,bE,K⟩) (ab:0<ah.length->cb<w.heap.size) (aa:∀j,j<ah.length->aM w cb (bE+j) (.int .i64 (ah.getD j 0))) (m:dA w ro rb bh rs) (al:∀k∈ah,0<=k/\k<(n:Int)) (am:∀r∈rs,0<=r.col/\r.col<(n:Int)):
 UB aI 76 #[qv (.slice s n q) b c (.slice co ah.length aJ) (.slice ro rs.length aN) sk] w λe w'=>aP w w'/\∃g,e= .returned (.slice (I ⟨g,0,K⟩) n n)/\w.heap.size<=g/\w'.heap[g]? =I (.cells (xP (aY n (ah++rs.map cE.col))).toArray 4 (0,0)):=by
 unfold qv;obtain⟨bj,a6,bd,be,bi⟩:=Ve an.Sp;unfold Up at a8 a9;have E:=af W;have H:=af ab;have G:=af aa;have A:=af m;have J:=af al;have z:=af am;have V:X (aP w (w.alloc (.cells #[.slice s n q,b,c,.slice co ah.length aJ,.slice ro rs.length aN,.bool sk] 115))):=(Uo _ _).alloc (T6 _) _;clear W ab aa m al am;go_enter an.func76,Tryz.ntmps76
 go_wp2_with (at_make;refine wpList_make_full _ Y _ _ 160 Y (w.heap.size+1) 4 bj (.bool T5) 1 an.underlying160 a6 bd be .i64 .i64 _ _ n Y Y Y Y (by rw[bi];omega) (by unfold Up;omega) (by simp) ?_;intro C B ae;have o:=(Uo (w.heap.size+1) (w.alloc (.cells #[.slice s n q,b,c,.slice co ah.length aJ,.slice ro rs.length aN,.bool sk] 115))).grown ae (by simp) (by simp);have ba:aM C w.heap.size 3 (.slice co ah.length aJ):=(o.cell (p:=⟨w.heap.size,3,K⟩) (by simp)).trans (by unfold Ur;rw[iT];rfl))
 have S:X (aP w C):=V.o.trans (o.mono (by omega));have t:C.heap[w.heap.size]? =I (.cells #[.slice s n q,b,c,.slice co ah.length aJ,.slice ro rs.length aN,.bool sk] 115 (0,0)):=(o.block w.heap.size (by omega)).trans (iT _ _);have p:X (C.heap[w.heap.size+1]? =I (.cells (xP (aY n [])).toArray 4 (0,0))):=by
  have e:(madeCells (WN T5).cells (n*1)).toList=xP (aY n []):=by
   show(madeCells #[.bool T5] (n*1)).toList=_;rw[toList_madeCells_one];refine List.ext_getElem (by simp[xP,jj]) λj br bs=>?_;simp[xP,aY]
  rw[e] at B;have bc:(w.alloc (.cells #[.slice s n q,b,c,.slice co ah.length aJ,.slice ro rs.length aN,.bool sk] 115)).heap.size=w.heap.size+1:=by simp
  rw[bc] at B;exact zY B
 have T:=af t;clear ae o V ba B t
 go_loopw [16] (λu wr=>∃k:Nat,k<=ah.length/\u= .int .i64 (k:Int)/\wr.heap[w.heap.size+1]? =I (.cells (xP (aY n (ah.take k))).toArray 4 (0,0))/\wr.heap[w.heap.size]? =I (.cells #[.slice s n q,b,c,.slice co ah.length aJ,.slice ro rs.length aN,.bool sk] 115 (0,0))/\aP w wr) (λu _=>ah.length-(US u).toNat)
 case atStart=>exact⟨0,UE _,rfl,p.o,T.o,S.o⟩
 case round=>
  clear p S T;obtain⟨k,a7,rfl,l,t,i⟩:=hrel;have y:=af i;have P:=i.size;by_cases h:k<ah.length
  ·obtain rfl:=E.o (by omega);have a4:=H.o (by omega);have R:aM wr cb (bE+k) (.int .i64 (ah.getD k 0)):=(i.cell (p:=⟨cb,bE+k,K⟩) a4).trans (G.o k h);have ad:ah.getD k 0=ah[k]:=by rw[Uh,Ul h];rfl
   rw[ad] at R;obtain⟨v,Q⟩:=J.o ah[k] (Ui h);obtain⟨a,x⟩:=WB v;rw[x] at R Q;have N:a<n:=by omega
   obtain⟨a2,a3⟩:=Ev l (j:=a) (v:=.bool ((ah.take k).any λk=>k==(a:Int))) (by simp[xP,aY,N]);have L:X ((wr.setCell ⟨w.heap.size+1,a,K⟩ (.bool Z)).heap[w.heap.size+1]? =I (.cells (xP (aY n (ah.take (k+1)))).toArray 4 (0,0))):=by
    show _=_;rw[Ix l,vG,Um h,x]
   have a1:X ((wr.setCell ⟨w.heap.size+1,a,K⟩ (.bool Z)).heap[w.heap.size]? =I (.cells #[.slice s n q,b,c,.slice (I ⟨cb,bE,K⟩) ah.length aJ,.slice ro rs.length aN,.bool sk] 115 (0,0))):=by
    show _=_;rw[Ut _ _ _ _ (by simp)];exact t
   have D:X (aP w (wr.setCell ⟨w.heap.size+1,a,K⟩ (.bool Z))):=i.setCell (by show w.heap.size<=w.heap.size+1;omega) _;clear i ad v E H G J z A l t x;go_wp2
   go_roundw
   case rel=>exact⟨k+1,by omega,by go_num,L.o,a1.o,D.o⟩
   case measure=>simp[US];omega
  ·obtain rfl:k=ah.length:=by omega
   rw[Vf] at l;have bb:aM wr w.heap.size 4 (.slice ro rs.length aN):=by unfold Ur;rw[t];rfl
   have p:=af l;clear i l t E H G J
   go_wp2_with fail
   clear bb
   go_loopw [27] (λu a0=>∃k:Nat,k<=rs.length/\u= .int .i64 (k:Int)/\a0.heap[w.heap.size+1]? =I (.cells (xP (aY n (ah++(rs.take k).map cE.col))).toArray 4 (0,0))/\aP w a0) (λu _=>rs.length-(US u).toNat)
   case atStart=>exact⟨0,UE _,rfl,by simpa using p.o,y.o⟩
   case round=>
    clear p y P;obtain⟨k,a7,rfl,l,i⟩:=hrel;have y:=af i;have P:=i.size;by_cases h:k<rs.length
    ·have m:=A.o.below i;obtain rfl:=m.addr (by omega);have ao:=m.c0 k h;have ap:=m.c1 k h;have ar:=m.c2 k h;have au:=m.c3 k h;have av:=m.c4 k h;have aw:=m.c5 k h;have az:=m.c6 k h;obtain⟨v,Q⟩:=z.o rs[k] (Ui h);have M:X ((rs.take (k+1)).map cE.col=(rs.take k).map cE.col++[rs[k].col]):=by
      show _=_;rw[Um h,U0,Wp]
     generalize rs[k]=bl at*;obtain⟨bu,f,d⟩:=bl;dsimp only at ao ap ar au av aw az v Q M;obtain⟨a,x⟩:=WB v;subst x;have N:a<n:=by omega
     have a5:w.heap.size+1<wr.heap.size:=Ud l;have o:aP wr (wr.alloc (.cells #[.int .i64 (a:Int),.bool f.null,.int .i64 f.n,.string f.s,.bool d.null,.int .i64 d.n,.string d.s] 61)):=(Uo _ _).alloc (T6 _) _;have O:=(o.block (w.heap.size+1) a5).trans l;obtain⟨a2,a3⟩:=Ev O (j:=a) (v:=.bool ((ah++(rs.take k).map cE.col).any λk=>k==(a:Int))) (by simp[xP,aY,N]);have L:X (((wr.alloc (.cells #[.int .i64 (a:Int),.bool f.null,.int .i64 f.n,.string f.s,.bool d.null,.int .i64 d.n,.string d.s] 61)).setCell ⟨w.heap.size+1,a,K⟩ (.bool Z)).heap[w.heap.size+1]? =I (.cells (xP (aY n (ah++(rs.take (k+1)).map cE.col))).toArray 4 (0,0))):=by
      show _=_;rw[Ix O,vG,M.o,UC]
     have D:X (aP w ((wr.alloc (.cells #[.int .i64 (a:Int),.bool f.null,.int .i64 f.n,.string f.s,.bool d.null,.int .i64 d.n,.string d.s] 61)).setCell ⟨w.heap.size+1,a,K⟩ (.bool Z))):=(i.trans (o.mono P)).setCell (by show w.heap.size<=w.heap.size+1;omega) _;have R:(wr.alloc (.cells #[.int .i64 (a:Int),.bool f.null,.int .i64 f.n,.string f.s,.bool d.null,.int .i64 d.n,.string d.s] 61)).cell? ⟨wr.heap.size,0,K⟩=I (.int .i64 (a:Int)):=(jL (iT wr _)).1;clear i m A z l O M v o
     go_upto_region 10 with fail
     clear ao ap ar au av aw az;generalize wr.alloc (.cells #[.int .i64 (a:Int),.bool f.null,.int .i64 f.n,.string f.s,.bool d.null,.int .i64 d.n,.string d.s] 61)=bm at*;generalize wr.heap.size=bo at*;go_wp2
     go_roundw
     case rel=>exact⟨k+1,by omega,by go_num,L.o,D.o⟩
     case measure=>simp[US];omega
    ·obtain rfl:k=rs.length:=by omega
     rw[Vf] at l;have p:=af l;clear i l A z;go_wp2;go_ret;exact⟨y.o,w.heap.size+1,rfl,by omega,p.o⟩
structure zT(w:F)(cb n:Nat)(c:Int)(b:lA):Prop where
 ex:∃j:Nat,c=(j:Int)/\j<n/\cb<w.heap.size/\aM w cb (j*8+1) (.bool b.there)/\aM w cb (j*8+1+1) (.bool b.least.null)/\aM w cb (j*8+1+2) (.int .i64 b.least.n)/\aM w cb (j*8+1+3) (.string b.least.s)/\aM w cb (j*8+1+4) (.bool b.most.null)/\aM w cb (j*8+1+5) (.int .i64 b.most.n)/\aM w cb (j*8+1+6) (.string b.most.s)
def zT.below{w w':F}{cb n:Nat}{c:Int}{b:lA}(h:zT w cb n c b)(e:aP w w'):zT w' cb n c b:=by
 obtain⟨r,f,i,j,k,l,m,o,p,q,g⟩:=h.ex;have s:=e.size;have a:∀d,w'.cell? ⟨cb,d,K⟩=w.cell? ⟨cb,d,K⟩:=λd=>e.cell (p:=⟨cb,d,K⟩) j;exact⟨r,f,i,by omega,(a _).trans k,(a _).trans l,(a _).trans m,(a _).trans o,(a _).trans p,(a _).trans q,(a _).trans g⟩
def wL (b:lA)(r:cE):Bool:=b.there&&(ic b.most r.low||ia b.least r.high)
def nI(rs:List cE)(eX:Int->lA)(q:Int)(cb n aJ:Nat)(a b c d:U)(ro:Option UJ)(rb bh aN:Nat)(sk:Bool)(w:F)(c2:rs.length<=Up)(p:dA w ro rb bh rs)(bj:∀r∈rs,zT w cb n r.col (eX r.col)):
 UB aI 77 #[qv a b c d (.slice ro rs.length aN) sk,.agg #[.int .i64 q,.slice (I ⟨cb,0,K⟩) n aJ]] w λe w'=>∃bb,e= .returned (.bool bb)/\(bb=T5↔∀i (h:i<rs.length),wL (eX rs[i].col) rs[i]=T5)/\aP w w':=by
 unfold qv;unfold Up at c2;have am:=af p;have al:=af bj;have a4:X (aP w ((w.alloc (.cells #[a,b,c,d,.slice ro rs.length aN,.bool sk] 115)).alloc (.cells #[.int .i64 q,.slice (I ⟨cb,0,K⟩) n aJ] 139))):=((Uo _ _).alloc (T6 _) _).alloc (by simp) _;have M:X (((w.alloc (.cells #[a,b,c,d,.slice ro rs.length aN,.bool sk] 115)).alloc (.cells #[.int .i64 q,.slice (I ⟨cb,0,K⟩) n aJ] 139)).heap[w.heap.size+1]? =I (.cells #[.int .i64 q,.slice (I ⟨cb,0,K⟩) n aJ] 139 (0,0))):=by
  have:=iT (w.alloc (.cells #[a,b,c,d,.slice ro rs.length aN,.bool sk] 115)) (.cells #[.int .i64 q,.slice (I ⟨cb,0,K⟩) n aJ] 139 (0,0));have c3:(w.alloc (.cells #[a,b,c,d,.slice ro rs.length aN,.bool sk] 115)).heap.size=w.heap.size+1:=by simp
  rw[c3] at this;exact this
 clear p bj;go_enter an.func77,Tryz.ntmps77
 go_wp2_with fail
 go_loopw [11] (λi wr=>∃g:Nat,g<=rs.length/\i= .int .i64 g/\(∀i (h:i<rs.length),i<g->wL (eX rs[i].col) rs[i]=T5)/\wr.heap[w.heap.size+1]? =I (.cells #[.int .i64 q,.slice (I ⟨cb,0,K⟩) n aJ] 139 (0,0))/\aP w wr) (λi _=>rs.length-(US i).toNat)
 case atStart=>exact⟨0,UE _,rfl,λdf _ h=>by omega,M.o,a4.o⟩
 case round=>
  clear M a4;obtain⟨g,c7,rfl,bi,W,P⟩:=hrel;have T:=af bi;have aa:=af P;have M:=af W;have bl:=P.size;have cx:=Ud W;clear bi;by_cases u:g<rs.length
  ·have p:=am.o.below P;obtain rfl:=p.addr (by omega);have bm:=p.c0 g u;have bo:=p.c1 g u;have br:=p.c2 g u;have bs:=p.c3 g u;have bt:=p.c4 g u;have bu:=p.c5 g u;have bv:=p.c6 g u;obtain⟨A,a5,ck,a7,a8,a9,ba,bc,bd,be,a6⟩:=((al.o rs[g] (Ui u)).below P).ex;have N:X (wL (eX rs[g].col) rs[g]=Z->¬∀i (h:i<rs.length),wL (eX rs[i].col) rs[i]=T5):=λh cR=>by
    have:=cR g u;rw[h] at this;cases this
   have O:X (wL (eX rs[g].col) rs[g]=T5->∀i (h:i<rs.length),i<g+1->wL (eX rs[i].col) rs[i]=T5):=λh i c1 c6=>by
    by_cases e:i=g
    ·subst e;exact h
    ·exact T.o i c1 (by omega)
   clear p P T am al W;generalize rs[g]=cf at*;generalize eX cf.col=v at*;obtain⟨dk,k,j⟩:=cf;dsimp only at a5 bm bo br bs bt bu bv;subst a5
   go_upto_region 4 with fail
   obtain⟨c4,bx,bA,bB,b0,b1,b2⟩:=jL (iT wr (.cells #[.int .i64 (A:Int),.bool k.null,.int .i64 k.n,.string k.s,.bool j.null,.int .i64 j.n,.string j.s] 61));have m:aP wr (wr.alloc (.cells #[.int .i64 (A:Int),.bool k.null,.int .i64 k.n,.string k.s,.bool j.null,.int .i64 j.n,.string j.s] 61)):=(Uo _ _).alloc (T6 _) _;have z:∀Y v,aM wr cb Y v->(wr.alloc (.cells #[.int .i64 (A:Int),.bool k.null,.int .i64 k.n,.string k.s,.bool j.null,.int .i64 j.n,.string j.s] 61)).cell? ⟨cb,Y,K⟩=I v:=λY v h=>(m.cell (p:=⟨cb,Y,K⟩) a7).trans h;have cn:=z _ _ a8;have co:=z _ _ a9;have cp:=z _ _ ba;have cs:=z _ _ bc;have cu:=z _ _ bd;have cv:=z _ _ be;have cl:=z _ _ a6;have au:=(m.block _ cx).trans M.o;have ci:(wr.alloc (.cells #[.int .i64 (A:Int),.bool k.null,.int .i64 k.n,.string k.s,.bool j.null,.int .i64 j.n,.string j.s] 61)).cell? ⟨w.heap.size+1,1,K⟩=I (.slice (I ⟨cb,0,K⟩) n aJ):=by unfold Ur;rw[au];rfl
   have ab:=af au;have ae:=af (aa.o.trans (m.mono bl));have H:wr.heap.size<(wr.alloc (.cells #[.int .i64 (A:Int),.bool k.null,.int .i64 k.n,.string k.s,.bool j.null,.int .i64 j.n,.string j.s] 61)).heap.size:=by simp
   clear m bm bo br bs bt bu bv a8 a9 ba bc bd be a6 a7 z au M aa bl;generalize wr.alloc (.cells #[.int .i64 (A:Int),.bool k.null,.int .i64 k.n,.string k.s,.bool j.null,.int .i64 j.n,.string j.s] 61)=s at*;generalize wr.heap.size=l at*;have c0:(A:Int)<(n:Int):=by omega
   go_upto_region 5 with fail
   obtain⟨b3,av,aw,az,c8,c9,da⟩:=jL (iT s (.cells #[.bool v.there,.bool v.least.null,.int .i64 v.least.n,.string v.least.s,.bool v.most.null,.int .i64 v.most.n,.string v.most.s] 141));have m:aP s (s.alloc (.cells #[.bool v.there,.bool v.least.null,.int .i64 v.least.n,.string v.least.s,.bool v.most.null,.int .i64 v.most.n,.string v.most.s] 141)):=(Uo _ _).alloc (T6 _) _;have db:=(m.cell (p:=⟨l,1,K⟩) H).trans bx;have dc:=(m.cell (p:=⟨l,2,K⟩) H).trans bA;have dd:=(m.cell (p:=⟨l,3,K⟩) H).trans bB;have a0:=(m.cell (p:=⟨l,4,K⟩) H).trans b0;have a1:=(m.cell (p:=⟨l,5,K⟩) H).trans b1;have a2:=(m.cell (p:=⟨l,6,K⟩) H).trans b2;have D:X (aP w (s.alloc (.cells #[.bool v.there,.bool v.least.null,.int .i64 v.least.n,.string v.least.s,.bool v.most.null,.int .i64 v.most.n,.string v.most.s] 141))):=ae.o.trans (m.mono (by have:=ae.o.size;omega));have C:X ((s.alloc (.cells #[.bool v.there,.bool v.least.null,.int .i64 v.least.n,.string v.least.s,.bool v.most.null,.int .i64 v.most.n,.string v.most.s] 141)).heap[w.heap.size+1]? =I (.cells #[.int .i64 q,.slice (I ⟨cb,0,K⟩) n aJ] 139 (0,0))):=(m.block _ (Ud ab.o)).trans ab.o;have x:l<(s.alloc (.cells #[.bool v.there,.bool v.least.null,.int .i64 v.least.n,.string v.least.s,.bool v.most.null,.int .i64 v.most.n,.string v.most.s] 141)).heap.size:=by simp;omega
   have y:s.heap.size<(s.alloc (.cells #[.bool v.there,.bool v.least.null,.int .i64 v.least.n,.string v.least.s,.bool v.most.null,.int .i64 v.most.n,.string v.most.s] 141)).heap.size:=by simp
   clear m c4 bx bA bB b0 b1 b2 cn co cp cs cu cv cl ae ab H c0 ck ci;generalize s.alloc (.cells #[.bool v.there,.bool v.least.null,.int .i64 v.least.n,.string v.least.s,.bool v.most.null,.int .i64 v.most.n,.string v.most.s] 141)=c5 at*;generalize s.heap.size=t at*;have B:=λar=>vE v.most k ar;have J:=λar=>vD v.least j ar;unfold aD.agg at B J;have o:wL v ⟨(A:Int),k,j⟩=(v.there&&(ic v.most k||ia v.least j)):=rfl;cases Q:v.there
   ·rw[Q] at b3 o;have ap:=af (O.o o);clear N O o Q B J;go_wp2
    go_roundw
    case rel=>exact⟨g+1,by omega,by go_num,ap.o,C.o,D.o⟩
    case measure=>simp[US];omega
   ·rw[Q] at b3 o;cases R:ic v.most k
    ·rw[R] at B o;cases V:ia v.least j
     ·rw[V] at J o;have ap:=af (O.o o);clear N O o R V Q
      go_wp2_with (first|(go_at_call 114;refine(B _).mono ?_;rintro e w' ⟨rfl,f⟩;have E:X (aP w w'):=D.o.trans (f.mono (by have:=D.o.size;omega));have b4:=(f.cell (p:=⟨t,1,K⟩) y).trans av;have b5:=(f.cell (p:=⟨t,2,K⟩) y).trans aw;have b6:=(f.cell (p:=⟨t,3,K⟩) y).trans az;have ca:=(f.cell (p:=⟨l,4,K⟩) x).trans a0;have cc:=(f.cell (p:=⟨l,5,K⟩) x).trans a1;have cd:=(f.cell (p:=⟨l,6,K⟩) x).trans a2;have L:X (w'.heap[w.heap.size+1]? =I (.cells #[.int .i64 q,.slice (I ⟨cb,0,K⟩) n aJ] 139 (0,0))):=(f.block _ (Ud C.o)).trans C.o;clear f)|(go_at_call 115;refine(J _).mono ?_;rintro e S ⟨rfl,G⟩;have ad:X (aP w S):=E.o.trans (G.mono (by have:=E.o.size;omega));have a3:X (S.heap[w.heap.size+1]? =I (.cells #[.int .i64 q,.slice (I ⟨cb,0,K⟩) n aJ] 139 (0,0))):=(G.block _ (Ud L.o)).trans L.o;clear G))
      go_roundw
      case rel=>exact⟨g+1,by omega,by go_num,ap.o,a3.o,ad.o⟩
      case measure=>simp[US];omega
     ·rw[V] at J o;have ao:=af (N.o o);clear N O o R V Q
      go_wp2_with (first|(go_at_call 114;refine(B _).mono ?_;rintro e w' ⟨rfl,f⟩;have E:X (aP w w'):=D.o.trans (f.mono (by have:=D.o.size;omega));have b4:=(f.cell (p:=⟨t,1,K⟩) y).trans av;have b5:=(f.cell (p:=⟨t,2,K⟩) y).trans aw;have b6:=(f.cell (p:=⟨t,3,K⟩) y).trans az;have ca:=(f.cell (p:=⟨l,4,K⟩) x).trans a0;have cc:=(f.cell (p:=⟨l,5,K⟩) x).trans a1;have cd:=(f.cell (p:=⟨l,6,K⟩) x).trans a2;have L:X (w'.heap[w.heap.size+1]? =I (.cells #[.int .i64 q,.slice (I ⟨cb,0,K⟩) n aJ] 139 (0,0))):=(f.block _ (Ud C.o)).trans C.o;clear f)|(go_at_call 115;refine(J _).mono ?_;rintro e S ⟨rfl,G⟩;have ad:X (aP w S):=E.o.trans (G.mono (by have:=E.o.size;omega));have a3:X (S.heap[w.heap.size+1]? =I (.cells #[.int .i64 q,.slice (I ⟨cb,0,K⟩) n aJ] 139 (0,0))):=(G.block _ (Ud L.o)).trans L.o;clear G))
      go_ret;exact⟨Z,rfl,by simp only[Bool.true_eq_false,false_iff];exact ao.o,ad.o⟩
    ·rw[R] at B o;have ao:=af (N.o o);clear N O o R Q
     go_wp2_with (go_at_call 114;refine(B _).mono ?_;rintro e w' ⟨rfl,f⟩;have E:X (aP w w'):=D.o.trans (f.mono (by have:=D.o.size;omega));have b4:=(f.cell (p:=⟨t,1,K⟩) y).trans av;have b5:=(f.cell (p:=⟨t,2,K⟩) y).trans aw;have b6:=(f.cell (p:=⟨t,3,K⟩) y).trans az;have ca:=(f.cell (p:=⟨l,4,K⟩) x).trans a0;have cc:=(f.cell (p:=⟨l,5,K⟩) x).trans a1;have cd:=(f.cell (p:=⟨l,6,K⟩) x).trans a2;have L:X (w'.heap[w.heap.size+1]? =I (.cells #[.int .i64 q,.slice (I ⟨cb,0,K⟩) n aJ] 139 (0,0))):=(f.block _ (Ud C.o)).trans C.o;clear f)
     go_ret;exact⟨Z,rfl,by simp only[Bool.true_eq_false,false_iff];exact ao.o,E.o⟩
  ·have ch:X (∀i (h:i<rs.length),wL (eX rs[i].col) rs[i]=T5):=λi h=>T.o i h (by omega);clear T P am al W M;go_wp2;go_ret;exact⟨T5,rfl,by simp only[true_iff];exact ch.o,aa.o⟩
end Ec
namespace Cc
open Go Go.Conc
open Go.RowKit (Below)
open Ec (aD aG cE dA sG sb qv)
def m6 (W w:F)(b:Nat):Prop:=∀a,w.heap[b]? =I a->bn aI a->W.heap[b]? =I a
abbrev dx:=Nat×List aD
structure Cons(P0 P:Ue)(Post:U->F->Prop)(l:Nat)(J:List dx->(Nat->Prop)->F->Prop)(Go:List dx->Bool):Prop where
 j7:∀pre M W W',J pre M W->(∀b,M b->W'.heap[b]? =W.heap[b]?)->W.heap.size<=W'.heap.size->J pre M W'
 bound:∀pre M W,J pre M W->∀b,M b->b<W.heap.size
 round:∀pre M W (nm:Nat) (row:List aD) v,J pre M W->pre.length<2000->nm<=1000000->row.length<=1000->W.ownsRow 0 59 3 v row.length (aG row)->(∀g,v.ownBlock=I g->¬M g)->Fs P0 P Post l #[.int .i64 (nm:Int),v] W λu W'=>u= .bool (Go (pre++[(nm,row)]))/\∃M',J (pre++[(nm,row)]) M' W'/\(∀b,b<W.heap.size->¬M b->I b≠v.ownBlock->W'.heap[b]? =W.heap[b]?)/\∀b,M' b->M b\/I b=v.ownBlock\/W.heap.size<=b
def feed (Go:List dx->Bool):List dx->List dx->List dx×Bool
 |pre,[]=>(pre,Z)
 |pre,a::b=>if Go (pre++[a]) then feed Go (pre++[a]) b else(pre++[a],T5)
def eA (ji:Nat->Bool)(a:Nat->List aD)(first:Nat):Nat->Nat->List dx
 |p,0=>[]
 |p,b+1=>if ji p then(first+p,a p)::eA ji a first (p+1) b else eA ji a first (p+1) b
structure SO(W:F)(ah:List Int)(rs:List cE)(co:Option UJ)(cb bE:Nat)(ro:Option UJ)(rb bh:Nat)(lb m N:Nat)(val:Int->Nat->aD):Prop where
 ca:0<ah.length->co=I ⟨cb,bE,K⟩
 cl:0<ah.length->cb<W.heap.size
 cc:∀j,j<ah.length->aM W cb (bE+j) (.int .i64 (ah.getD j 0))
 nr:dA W ro rb bh rs
 lc:∀p,p<N->∀k,(k∈ah\/∃r∈rs,r.col=k)->sG W lb m k p (val k p)
structure Kept(w0 w:F)(M0 M own:Nat->Prop):Prop where
 keep:∀b,b<w0.heap.size->¬M0 b->own b/\w.heap[b]? =w0.heap[b]?
 ext:∀b,M b->M0 b\/w0.heap.size<=b
 rj:∀b,M b->own b
 size:w0.heap.size<=w.heap.size
 tape:w.tape=w0.tape
 os:w.os=w0.os
 output:w.output=w0.output
def Kept.rel{w0 w w':F}{M0 e own own':Nat->Prop}(h:Kept w0 w M0 e own)(c:RelB own w w')(f:∀b,own b->own' b):Kept w0 w' M0 e own':=
 ⟨λb a d=>⟨f b (h.keep b a d).1,(c.at_ b (h.keep b a d).1).trans (h.keep b a d).2⟩,h.ext,λb a=>f b (h.rj b a),Ux h.size c.size,c.tape.trans h.tape,c.os.trans h.os,c.output.trans h.output⟩
def ix (fn:WC):WU:=match fn.body with
 |some (.seq _ (.seq (.seq _ (.block _ (.loop a))) _))=>a
 |_=>.skip
def qE (fn:WC):WU:=match fn.body with
 |some (.seq _ (.seq _ a))=>a
 |_=>.skip
structure Fp(J:List dx->(Nat->Prop)->F->Prop)(w0 w:F)(M0 M own:Nat->Prop)(q:Array U)(lists:U)(l first N p qb:Nat)(pre:List dx)(a:V5):Prop where
 kn:Knows a 33 [(13,.int .i64 (p:Int)),(12,.int .i64 (N:Int)),(5,.pointer (I ⟨qb,0,K⟩)),(4,.func (.yield l) #[] #[]),(2,.int .i64 (first:Int)),(1,lists)]
 df:a.defers=[]
 j:J pre M w
 kept:Kept w0 w M0 M own
 bd:∀b,own b->b<w.heap.size
 oq:own qb
 nq:¬M qb
 lq:w0.heap.size<=qb
 hq:w.heap[qb]? =I (.cells q 115 (0,0))
def RX:(Tryz.f118.name == "runtime.NumGoroutine")=T5:=by kernel_rfl
def SL:(Tryz.f119.name == "runtime.NumGoroutine")=T5:=by kernel_rfl
def uH:(T9.info? 115).map (·.size)=I 6:=by kernel_rfl
def xk (fn:WC):Array Vu:=match ix fn with
 | .seq _ (.seq _ (.seq (.block _ (.seq _ (.seq (.region _ a _) _))) _))=>a
 |_=> #[]
def mH (fn:WC):List WM:=match ix fn with
 | .seq _ (.seq _ (.seq (.block _ (.seq _ (.seq _ a))) b))=>[.code a,.inBlock 1,.code b,.inLoop (ix fn),.inBlock 0,.code (qE fn)]
 |_=>[]
def OT:(mH Wy).all (yz aI)=Z:=by kernel_rfl
def Mj:yz aI (.inRegion (xk Wy) [])=Z:=by kernel_rfl
def B2{a:V5}{l:List Nat}(b:a.defers=[]):eM aI ((base 79).at a (.inRegion (xk Wy) l::mH Wy)) []:=
 dI Y b (by rw[List.all_cons,OT,Bool.and_true];exact Mj)
end Cc
namespace Cc
open Go Go.Conc
open Go.RowKit (Below)
open Ec (aD aG cE dA sG sb qv yD Bc)
section
variable {Post:U->F->Prop}{J:List dx->(Nat->Prop)->F->Prop}{Go:List dx->Bool}{w0 w:F}{M0 M own:Nat->Prop}{l first N p qb:Nat}{pre:List dx}{a:V5}{cs:List Us}{ah:List Int}{rs:List cE}{co:Option UJ}{cb bE aJ:Nat}{ro:Option UJ}{rb bh aN lb m mc:Nat}{val:Int->Nat->aD}{a0 b0 c0:U}{sk:Bool}{c:Us}
def Kept.same{W:F}(h:Kept w0 w M0 M own)(g:∀b o,own b->w.heap[b]? =I o->bn aI o->W.heap[b]? =I o)(j:w.heap.size<=W.heap.size):(∀b,b<w0.heap.size->¬M0 b->m6 W w0 b)/\w0.heap.size<=W.heap.size:=
 ⟨λb d e o i f=>g b o (h.keep b d e).1 ((h.keep b d e).2.trans i) f,Ux h.size j⟩
def Cf{W' w':F}{base:Nat}{e:Ug}{d:Nat}{v:U}{n:Nat}{f:List U}(r:Un W' w')(h:W'.ownsRow base e d v n f):w'.ownsRow base e d v n f:=by
 obtain⟨b,h|⟨j,g,i,rfl,k,o,q⟩⟩:=h
 ·exact⟨b,.inl h⟩
 ·exact⟨b,.inr ⟨j,g,i,rfl,k,r.row.1 o,q⟩⟩
def jV{W W':F}{base:Nat}{e:Ug}{j:Nat}{v:U}{n:Nat}{k:List U}(h:W.ownsRow base e j v n k){b:Nat}(t:b<=base)(s:∀g,v.ownBlock=I g->base<=g->g<W.heap.size->W'.heap[g]? =W.heap[g]?):W'.ownsRow b e j v n k:=by
 obtain⟨i,h|⟨g,o,q,rfl,d,f,r⟩⟩:=h
 ·exact⟨i,.inl h⟩
 ·exact⟨i,.inr ⟨g,o,q,rfl,Ux t d,(s g Y d (Ua.1 f).1).trans f,r⟩⟩
def tc{W:F}{base:Nat}{e:Ug}{i:Nat}{v:U}{n:Nat}{j:List U}(h:W.ownsRow base e i v n j){g:Nat}(b:v.ownBlock=I g):base<=g/\g<W.heap.size:=by
 obtain⟨s,⟨rfl,_⟩|⟨q,k,o,rfl,d,f,r⟩⟩:=h
 ·cases b
 ·cases b;exact⟨d,(Ua.1 f).1⟩
def xI{a:V5}{x y:U6}{u v:U}(h1:a.eval x=u)(b:a.eval y=v): #[x,y].map a.eval=#[u,v]:=by simp[h1,b]
def BF{a:V5}{x y z:U6}{u v t:U}(h1:a.eval x=u)(b:a.eval y=v)(d:a.eval z=t): #[x,y,z].map a.eval=#[u,v,t]:=by simp[h1,b,d]
def DT(C:Cons aI T9 Post l J Go)(hF:∀W,(∀b,b<w0.heap.size->¬M0 b->m6 W w0 b)->w0.heap.size<=W.heap.size->SO W ah rs co cb bE ro rb bh lb m N val)(a1:p<N)(bc:pre.length<2000)(bB:first+N<=1000000)(hc:ah.length<=1000)(bo:rs.length<=Up)
 (d:Knows a 33 [(11,.int .i64 (p:Int)),(13,.int .i64 (p:Int)),(12,.int .i64 (N:Int)),(5,.pointer (I ⟨qb,0,K⟩)),(4,.func (.yield l) #[] #[]),(2,.int .i64 (first:Int)),(1,.slice (I ⟨lb,0,K⟩) m mc)]) (H:a.defers=[]) (U:J pre M w) (R:Kept w0 w M0 M own) (a9:∀b,own b->b<w.heap.size) (V:own qb) (az:¬M qb) (b3:w0.heap.size<=qb) (a2:w.heap[qb]? =I (.cells #[a0,b0,c0,.slice co ah.length aJ,.slice ro rs.length aN,.bool sk] 115 (0,0)))
 (bi:∀own' w' a',(¬∀i (h:i<rs.length),sb (val rs[i].col p) rs[i]=Z)->Knows a' 33 [(31,.bool T5),(13,.int .i64 (p:Int)),(12,.int .i64 (N:Int)),(5,.pointer (I ⟨qb,0,K⟩)),(4,.func (.yield l) #[] #[]),(2,.int .i64 (first:Int)),(1,.slice (I ⟨lb,0,K⟩) m mc)]->a'.defers=[]->J pre M w'->Kept w0 w' M0 M own'->(∀b,own' b->b<w'.heap.size)->own' qb->w'.heap[qb]? =I (.cells #[a0,b0,c0,.slice co ah.length aJ,.slice ro rs.length aN,.bool sk] 115 (0,0))->Xe aI T9 Post own' ((base 79).at a' (mH Wy)) cs w')
 (bu:∀own' n w' a',(∀i (h:i<rs.length),sb (val rs[i].col p) rs[i]=Z)->Knows a' 33 [(31,.bool (!Go (pre++[(first+p,ah.map λk=>val k p)]))),(13,.int .i64 (p:Int)),(12,.int .i64 (N:Int)),(5,.pointer (I ⟨qb,0,K⟩)),(4,.func (.yield l) #[] #[]),(2,.int .i64 (first:Int)),(1,.slice (I ⟨lb,0,K⟩) m mc)]->a'.defers=[]->J (pre++[(first+p,ah.map λk=>val k p)]) n w'->Kept w0 w' M0 n own'->(∀b,own' b->b<w'.heap.size)->own' qb->¬n qb->w'.heap[qb]? =I (.cells #[a0,b0,c0,.slice co ah.length aJ,.slice ro rs.length aN,.bool sk] 115 (0,0))->Xe aI T9 Post own' ((base 79).at a' (mH Wy)) cs w'):
 Xe aI T9 Post own ((base 79).at a (.code (.region 4 (xk Wy) T5)::mH Wy)) cs w:=by
 have e:=iq aI T9 Post;have a3:∀W:F,W.heap[qb]? =I (.cells #[a0,b0,c0,.slice co ah.length aJ,.slice ro rs.length aN,.bool sk] 115 (0,0))->W.rangeAt qb 0 [a0,b0,c0,.slice co ah.length aJ,.slice ro rs.length aN,.bool sk]:=λW G b5 v U=>by
  unfold Ur;simp only[G];rw[UT];simpa using U
 refine bq e [0,1,2,3,4,5,6,7,8,9,10,11,12,13,14,15] Y ?_;refine q9 e d Y (qv a0 b0 c0 (.slice co ah.length aJ) (.slice ro rs.length aN) sk) (fh (cs:=[a0,b0,c0,.slice co ah.length aJ,.slice ro rs.length aN,.bool sk]) Y (d.of Y) WE Y uH (.inr V) (a3 w a2)) λd=>?_;refine cG e d λd=>?_;refine cG e d λd=>?_;refine C4 (R:=λW j o=>∃s,j= .returned (.bool s)/\(s=Z↔∀i (h:i<rs.length),sb (val rs[i].col p) rs[i]=Z)) cU Y Y Y Y (BF (d.of Y) (d.of Y) (d.of Y)) Tryz.func118 RX Y (jW Y Y Y).symm (B2 (by simp only[put_defers];exact H)) (λW G ab=>?_) λv r W o G ab bx ae b1 hrel=>?_
 ·have t:=hF W (R.same G ab).1 (R.same G ab).2;refine(yD rs (λk=>val k p) p lb m mc a0 b0 c0 (.slice co ah.length aJ) ro rb bh aN sk W bo t.nr (λa4 br=>t.lc p a1 a4.col (.inr ⟨a4,br,rfl⟩))).mono λj o h=>?_;obtain⟨s,rfl,E,z⟩:=h;exact⟨z,_,rfl,s,rfl,E⟩
 ·obtain⟨s,a8,au⟩:=ae;cases a8;have u:=R.rel (own':=grown own W.heap.size r.heap.size) hrel (λb h=>.inl h);have av:=C.j7 _ _ _ r U (λb f=>hrel.at_ b (R.rj b f)) hrel.size;have aa:=(hrel.at_ qb V).trans a2;have Q:∀b,grown own W.heap.size r.heap.size b->b<r.heap.size:=λb f=>f.elim (λh=>Uc (a9 b h) hrel.size) (λh=>h.2);have L:grown own W.heap.size r.heap.size qb:=.inl V;replace d:=d.put (d:=19) (by decide) (.bool s);generalize grown own W.heap.size r.heap.size=al at*;refine cG e d λd=>?_;cases s with
  |false=>
   refine sM e d λd=>?_;refine sM e d λd=>?_;refine sM e d λd=>?_;refine sM e d λd=>?_;refine sM e d λd=>?_;refine sM e d λd=>?_;refine sM e d λd=>?_;refine sM e d λd=>?_;refine sM e d λd=>?_;refine sM e d λd=>?_;refine dB e d Y (.bool T5) (yK Y (d.of Y) Y) λd=>?_;refine ak e ?_;refine bi al r _ (λh=>by have:=au.2 h;cases this) ((((((d.nil.cons (d.slot 1 _ rfl)).cons (d.slot 2 _ rfl)).cons (d.slot 4 _ rfl)).cons (d.slot 5 _ rfl)).cons (d.slot 12 _ rfl)).cons (d.slot 13 _ rfl) |>.cons (d.slot 31 _ rfl)) (by simp only[put_defers];exact H) av u Q L aa
  |true=>
   have bd:=au.1 Y;refine mB e (by decide) Y (d.want (d:=20) (want:=Z) (b:=Z) Y Y Y (by decide)) _ (cg Y (d.of Y)) ?_;replace d:=d.put (d:=21) (by decide) (.func (.yield l) #[] #[]);refine mB e (by decide) Y (d.want (d:=20) (want:=Z) (b:=Z) Y Y Y (by decide)) _ (cg Y (d.of Y)) ?_;replace d:=d.put (d:=22) (by decide) (.int .i64 (first:Int));refine mB e (by decide) Y (d.want (d:=20) (want:=Z) (b:=Z) Y Y Y (by decide)) _ (cg Y (d.of Y)) ?_;replace d:=d.put (d:=23) (by decide) (.int .i64 (p:Int));refine mB e (by decide) Y (d.want (d:=20) (want:=Z) (b:=Z) Y Y Y (by decide)) _ (nN Y (d.of Y) (d.of Y) (by omega)) ?_;replace d:=d.put (d:=24) (by decide) (.int .i64 ((first+p:Nat):Int));refine ov e (by decide) Y (d.want (d:=20) (want:=Z) (b:=Z) Y Y Y (by decide)) _ (fh (cs:=[a0,b0,c0,.slice co ah.length aJ,.slice ro rs.length aN,.bool sk]) Y (d.of Y) WE Y uH (.inr L) (a3 r aa)) ?_;replace d:=d.put (d:=25) (by decide) (qv a0 b0 c0 (.slice co ah.length aJ) (.slice ro rs.length aN) sk);refine mB e (by decide) Y (d.want (d:=20) (want:=Z) (b:=Z) Y Y Y (by decide)) _ (cg Y (d.of Y)) ?_;replace d:=d.put (d:=26) (by decide) (.slice (I ⟨lb,0,K⟩) m mc);refine mB e (by decide) Y (d.want (d:=20) (want:=Z) (b:=Z) Y Y Y (by decide)) _ (cg Y (d.of Y)) ?_;replace d:=d.put (d:=27) (by decide) (.int .i64 (p:Int));refine C4 (R:=λW j o=>∃v,j= .returned v/\o.ownsRow W.heap.size 59 3 v ah.length (aG (ah.map λk=>val k p))) cU Y Y (d.want (d:=20) (want:=Z) (b:=Z) Y Y Y (by decide)) Y (BF (d.of Y) (d.of Y) (d.of Y)) Tryz.func119 SL Y (jW Y Y Y).symm (B2 (by simp only[put_defers];exact H)) (λy T ad=>?_) λv S y bv T ad bA ae a7 B=>?_
   ·have t:=hF y (u.same T ad).1 (u.same T ad).2;refine(Bc ah (λk=>val k p) p lb m mc a0 b0 c0 (.slice ro rs.length aN) co cb bE aJ sk y hc t.ca t.cl t.cc (λk bb=>t.lc p a1 k (.inl bb))).mono λj o h=>?_;obtain⟨E,v,rfl,z⟩:=h;exact⟨E,v,rfl,v,rfl,z⟩
   ·obtain⟨cd,bt,bj⟩:=ae;cases bt;have q:=u.rel (own':=grown al y.heap.size S.heap.size) B (λb h=>.inl h);have ba:=C.j7 _ _ _ S av (λb f=>B.at_ b (u.rj b f)) B.size;have bm:=(B.at_ qb L).trans aa;have b2:∀b,grown al y.heap.size S.heap.size b->b<S.heap.size:=λb f=>f.elim (λh=>Uc (Q b h) B.size) (λh=>h.2);have X:=Cf a7 bj;have b4:=Q qb L;replace d:=d.put (d:=28) (by decide) v;refine Qg (l:=l) (vs:= #[.int .i64 ((first+p:Nat):Int),v]) (R:=λam a5 o=>a5= .bool (Go (pre++[(first+p,ah.map λk=>val k p)]))/\∃n,J (pre++[(first+p,ah.map λk=>val k p)]) n o/\(∀b,b<am.heap.size->¬M b->I b≠v.ownBlock->o.heap[b]? =am.heap[b]?)/\∀b,n b->M b\/I b=v.ownBlock\/am.heap.size<=b) cU Y (d.want (d:=20) (want:=Z) (b:=Z) Y Y Y (by decide)) Y (d.of Y) (xI (d.of Y) (d.of Y)) (B2 (by simp only[put_defers];exact H)) (λao g=>?_) λao a5 O g bs D bl=>?_
    ·refine C.round pre M ao (first+p) (ah.map λk=>val k p) v (C.j7 _ _ _ ao ba (λb f=>g.at_ b (q.rj b f)) g.size) bc (by omega) (by rw[UG];exact hc) ?_ λP A x=>?_
     ·rw[UG];exact jV X (UE _) λP E z a6=>g.at_ P (.inr ⟨z,a6⟩)
     ·have E:=(tc X A).1;have z:=Q P (u.rj P x);omega
    ·obtain⟨rfl,n,ap,aw,ar⟩:=bs;have A:∀b,I b=v.ownBlock->y.heap.size<=b:=λb f=>(tc X f.symm).1;have b6:=u.size;have ca:=g.size;have cc:=B.size;refine Xe.go (own:=λb=>b<O.heap.size) ?_ (λb h=>h) bl;replace d:=d.put (d:=29) (by decide) (.bool (Go (pre++[(first+p,ah.map λk=>val k p)])));refine mB e (by decide) Y (d.want (d:=20) (want:=Z) (b:=Z) Y Y Y (by decide)) _ (yJ Y (d.of Y)) ?_;replace d:=d.put (d:=30) (by decide) (.bool (!Go (pre++[(first+p,ah.map λk=>val k p)])));refine dB e d Y (.bool (!Go (pre++[(first+p,ah.map λk=>val k p)]))) (yL Y (d.of Y) (d.of Y)) λd=>?_;refine ak e ?_;refine bu (λb=>b<O.heap.size) n O _ bd ((((((d.nil.cons (d.slot 1 _ Y)).cons (d.slot 2 _ Y)).cons (d.slot 4 _ Y)).cons (d.slot 5 _ Y)).cons (d.slot 12 _ Y)).cons (d.slot 13 _ Y) |>.cons (d.slot 31 _ Y)) (by simp only[put_defers];exact H) ap ⟨λb f x=>?_,λb f=>?_,λb f=>C.bound _ _ _ ap b f,?_,D.tape.trans (g.tape.trans q.tape),D.os.trans (g.os.trans q.os),D.output.trans (g.output.trans q.output)⟩ (λb h=>h) ?_ (λx=>?_) ?_
     ·have be:¬M b:=λh=>(q.ext b h).elim x (λh=>by omega);refine⟨by have:=D.size;show b<O.heap.size;omega,?_⟩;rw[aw b (by omega) be (λj=>by have:=A b j;omega),g.at_ b (q.keep b f x).1];exact(q.keep b f x).2
     ·rcases ar b f with h|h|h
      ·exact q.ext b h
      ·exact .inr (by have:=A b h;omega)
      ·exact .inr (by omega)
     ·have:=D.size;omega
     ·have:=D.size;show qb<O.heap.size;omega
     ·rcases ar qb x with h|h|h
      ·exact az h
      ·have:=A qb h;omega
      ·omega
     ·rw[aw qb (by omega) az (λj=>by have:=A qb j;omega),g.at_ qb (.inl L)];exact bm
end
end Cc
namespace Rl
def Zk (v:U):Prop:=∀(G:mi) (a:aU G),ay a v v
def Ff{v:U}(h:Zk v):∀c∈v.cells,Zk c:=by
 intro c b G e;have:=(h G e).cells;obtain⟨d,a,rfl⟩:=Array.mem_iff_getElem.1 b;exact this.2 d a a
def C5{cs:Array U}(h:∀c∈cs,Zk c):Zk (.agg cs):=λG b=>.agg Y λe a d=>h _ (Array.getElem_mem a) G b
def Zi (i:Xg):Prop:=∀v,i.zero=I v->Zk v
theorem AZ{α i:Type}{f:α->i->Option (ForInStep i)}(e:i->Prop)(j:∀a b s,e b->f a b=I s->∀c,(s= .yield c\/s= .done c)->e c):∀(l:List α) (b r:i),e b->forIn l b f=I r->e r
 | [],b,r,g,d=>by simp at d;rw[<-d];exact g
 |a::l,b,r,g,d=>by
  rw[List.forIn_cons] at d;cases h:f a b with
  |none=>rw[h] at d;cases d
  |some s=>
   rw[h] at d;cases s with
   |done c=>simp at d;rw[<-d];exact j a b _ g h c (.inr Y)
   |yield c=>exact AZ e j l c r (j a b _ g h c (.inl Y)) d
def Ql{o:Option (Array U)}{i:Xg}(g:Zi i)(j:∀e,o=I e->∀c∈e,Zk c){b:Prop} [Decidable b]{e:Array U}
 (h:(if b then K else o.bind λa=>i.zero.bind λz=>I (a++z.cells))=I e):∀c∈e,Zk c:=by
 split at h
 ·cases h
 ·obtain⟨a,f,h⟩:=UR.1 h;obtain⟨z,k,h⟩:=UR.1 h;cases h;intro c d;rcases Array.mem_append.1 d with d|d
  ·exact j a f c d
  ·exact Ff (g z k) c d
def TH (c:Array Field×Nat×Nat×Nat×Nat×Bool×Bool×Option (Array U)×String):Prop:=∀a,c.2.2.2.2.2.2.2.1=I a->∀b∈a,Zk b
def K9{info:Ug->Option Xg}(k:∀t i,info t=I i->Zi i)(g:Array Field)(r:Xg)(h:Made.reckonStruct info g=I r):Zi r:=by
 unfold Made.reckonStruct at h;simp only[bind,UR,pure] at h;obtain⟨o,d,h⟩:=h;have j:TH o:=by
  rw[<-Array.forIn_toList] at d;refine AZ TH ?_ _ _ _ ?_ d
  ·intro f q s m a e hc;obtain⟨i,l,a⟩:=UR.1 a
   split at a
   ·cases a
   ·split at a
    ·cases a
    ·split at a<;>(obtain⟨tag,p,a⟩:=UR.1 a;split at a<;>(cases a;rcases hc with hc|hc<;>cases hc;exact λc b=>Ql (k _ _ l) m b))
  ·intro c b;cases b;intro e hc;simp at hc
 split at h<;>(cases h;intro v n;obtain⟨c,b,rfl⟩:=Wq.1 n;exact C5 (j c b))
def q7{d:TypeDesc}{s:String}{z:U}{c:Bool}{n:Nat}(b:Zk z):Zi (Made.word d s z c n):=by
 intro v a;unfold Made.word at a;cases a;exact b
def K7{info:Ug->Option Xg}(k:∀t i,info t=I i->Zi i)(d:TypeDesc)(r:Xg)(h:Made.reckon info d=I r):Zi r:=by
 unfold Made.reckon at h;simp only[bind,pure] at h
 split at h
 ·obtain⟨i,l,h⟩:=UR.1 h
  split at h
  ·cases h
  ·split at h
   ·cases h
   ·obtain⟨s,b,h⟩:=UR.1 h;cases h;exact q7 λG e=>.cZ
  ·obtain⟨s,b,h⟩:=UR.1 h;cases h;exact q7 λG e=>.cZ
 ·obtain⟨s,b,h⟩:=UR.1 h;obtain⟨g,f,h⟩:=UR.1 h;cases h;exact q7 λG e=>.jU 0 0
 ·obtain⟨s,b,h⟩:=UR.1 h;obtain⟨g,f,h⟩:=UR.1 h;obtain⟨s,b,h⟩:=UR.1 h;obtain⟨g,f,h⟩:=UR.1 h;cases h;exact q7 λG e=>.kD
 ·obtain⟨s,b,h⟩:=UR.1 h;obtain⟨g,f,h⟩:=UR.1 h;cases h;exact q7 λG e=>.iL
 ·obtain⟨s,b,h⟩:=UR.1 h;cases h;exact q7 λG e=>.nilFunc
 ·obtain⟨i,l,h⟩:=UR.1 h;obtain⟨g,f,h⟩:=UR.1 h;cases h;intro v c;simp only at c
  split at c
  ·cases c
  ·split at c
   ·cases c;exact C5 λj a=>by simp at a
   ·obtain⟨n,m,rfl⟩:=Wq.1 c;refine C5 λj a=>?_;simp only[Array.mem_flatten,Array.mem_replicate] at a;obtain⟨o,⟨_,rfl⟩,a⟩:=a;exact Ff (k _ _ l n m) j a
 ·exact K9 k _ _ h
 ·cases h
theorem By{T:Tables}(b:∀(t:Nat) i,T.types[t]? =I i->Zi i):∀(f:Nat) (t:Ug) (i:Xg),Made.infoAt T f t=I i->Zi i
 |0,t,i,a=>by cases a
 |f+1,t,i,a=>by
  unfold Made.infoAt at a
  split at a
  ·exact b _ _ a
  ·obtain⟨c,d,a⟩:=UR.1 a;exact K7 (By b f) c i a
def Qj{T:Tables}(a:∀(t:Nat) i,T.types[t]? =I i->Zi i)(t:Ug)(i:Xg)(h:T.info? t=I i):Zi i:=by
 unfold Tables.info? at h
 split at h
 ·exact a _ _ h
 ·exact By a _ t i h
end Rl
namespace Cc
open Go
def fw:Nat->U->Bool
 |0,_=>T5
 |n+1,v=>match v with
  | .bool _| .int _ _| .string _| .pointer K| .slice K _ _| .map K| .chan K| .nilFunc| .nilIface=>Z
  | .agg a| .tuple a=>a.toList.all (fw n)
  |_=>T5
theorem yO:∀(n:Nat) (v:U),fw n v=Z->Rl.Zk v
 |0,v,a=>by cases a
 |n+1,v,a=>by
  intro G c;unfold fw at a
  split at a
  ·exact .bool _
  ·exact .int _ _
  ·exact .string _
  ·exact .cZ
  ·exact .jU _ _
  ·exact .kD
  ·exact .iL
  ·exact .nilFunc
  ·exact .nilIface
  ·rename_i d;exact Rl.C5 (λb e=>yO n b (Uy.1 a b (by simpa using e))) G c
  ·rename_i d;exact .tuple Y λh f g=>yO n _ (Uy.1 a _ (by simp)) G c
  ·cases a
def Sj:List Nat:=[65,66,83,93,95,97,98,120,123,128,129,130,139,141,152,153,154,155,156,158,161,162,163,164,165,166,167,169,170,171,172,173,174,175,176,177,178]
def LZ:Rl.mi:=⟨1,λf=>Sj.contains f⟩
def Qi:(T9.types.toList.all λi=>match i.zero with|some v=>fw 12 v|none=>Z)=Z:=by kernel_rfl
def IR:T9.globals.size=1:=by kernel_rfl
def RU:(Sj.all λf=>match T9.funcs[f]? with|some fn=>(match fn.body with|some c=>Rl.cC LZ T9 c|none=>T5)|none=>T5)=Z:=by kernel_rfl
def R2:Rl.wE T9 T9:=⟨λ_=>rfl,λ_=>rfl,rfl,λc d v a b=>by
 refine Rl.Qj (T:=T9.toTables) (λc d a v b=>?_) c d a v b;obtain⟨e,rfl⟩:=Ua.1 a;have:=Uy.1 Qi (T9.types[c]) (by simp);rw[b] at this;exact yO _ _ this⟩
def Fa:Rl.nC LZ T9 T9:=by
 intro f e;have:=Uy.1 RU f (by simpa [LZ] using e)
 split at this
 ·rename_i c a
  split at this
  ·rename_i b d;exact⟨c,b,a,a,d,this⟩
  ·cases this
 ·cases this
def Qh:Rl.Alike LZ T9 T9:=⟨R2,λ_=>rfl,λ_=>rfl,rfl,λ_ _ _ _ _ _=>rfl,λ_ _ _ _ _=>rfl,λ_ _ _=>rfl,λ_ _=>rfl,λ_=>rfl,λ_ _=>rfl,IR,IR,λf d=>by
 obtain⟨b,e,a,_,c,_⟩:=Fa f d;refine⟨b,a,by rw[c];rfl,?_⟩;simpa using jF tN a,λ_=>rfl⟩
end Cc
namespace Cc
open Go Go.Conc
open Ec (aD aG)
def Lm (own:Nat->Prop)(w:F)(v:U)(l:List aD):Prop:=
 (v=aO/\l=[])\/∃a c b,v= .slice (I ⟨a,0,K⟩) l.length c/\own a/\w.heap[a]? =I (.cells b 59 (0,0))/\b.toList.take (l.length*3)=aG l
theorem mb:∀(l:List aD) (i:Nat) (h:i<l.length) (j:Nat) (v:U),[WN l[i].null,.int .i64 l[i].n,.string l[i].s][j]? =I v->(aG l)[i*3+j]? =I v
 | [],i,h,j,v,a=>by simp at h
 |x::l,0,h,j,v,a=>by
  simp only[List.getElem_cons_zero] at a;simp only[aG,WR,Nat.zero_mul,UT];exact Vw (Uz.1 a).1▸a
 |x::l,i+1,h,j,v,a=>by
  simp only[List.getElem_cons_succ] at a;have:=mb l i (by simpa using h) j v a;have b:(i+1)*3+j=i*3+j+3:=by omega
  rw[b];simpa [aG] using this
def uM{w:F}{g:Nat}{b:Array U}{l:List aD}(c:w.heap[g]? =I (.cells b 59 (0,0)))(hc:b.toList.take (l.length*3)=aG l){i:Nat}(d:i<l.length):w.rangeAt g (0+i*3) [WN l[i].null,.int .i64 l[i].n,.string l[i].s]:=by
 intro f v e;have a:=mb l i d f v e;rw[<-hc,V8] at a
 split at a
 ·unfold Ur;simp only[c];rw[UT];simpa using a
 ·cases a
def pX (fn:WC):WU:=match fn.body with
 |some (.seq _ (.seq _ (.seq _ (.seq _ (.seq _ (.block _ (.loop a)))))))=>a
 |_=>.skip
def mU:(T9.info? 59).map (·.size)=I 3:=by kernel_rfl
def BD (S:Nat->Prop)(c:Nat)(ds:List Deferred)(l:List aD)(v:U)(i:Nat)(own:Nat->Prop)(w:F)(a:V5):Prop:=
 Knows a 47 [(40,.int .i64 (i:Int)),(39,.int .i64 (l.length:Int)),(38,v),(0,.chan (I c))]/\a.defers=ds/\tP S own w/\Lm own w v l
def Nz{S:Nat->Prop}{c:Nat}{co:Array Bool}{ats:Array Ug}{ty:Ug}{l:List aD}{v:U}{i:Nat}{own:Nat->Prop}{w:F}{a:V5}(h:BD S c [{target:=.builtin .close ats ty co,args:= #[.chan (I c)]}] l v i own w a)(f:l.length<=i):
 pH aI T9 S c own [] (Uf ((baseD 116).at a [.code (pX VG),.inLoop (pX VG),.inBlock 0]) [below T9]) w:=by
 obtain⟨d,e,g,j⟩:=h;have b:=kV aI T9 S c [];refine aS b ?_;refine bq b [0] Y ?_;refine dB b d Y (.bool T5) (jw Y (d.of Y) (d.of Y) (by simp;omega)) λd=>?_;refine ak b ?_;refine aS b ?_;refine dm b T5 (d.of Y) ?_;refine uc b (k':=[]) Y ?_;refine LC b ?_;exact IP Y e Tryz.func116 Y Y
def GJ{S:Nat->Prop}{c:Nat}{ds:List Deferred}{l:List aD}{v:U}{i:Nat}{own:Nat->Prop}{w:F}{a:V5}{x:aD}{r:List aD}(N:l.length<=100000)(h:BD S c ds l v i own w a)(k:l.drop i=x::r)
 (E:∀own' w' a',BD S c ds l v (i+1) own' w' a'->pH aI T9 S c own' (r.map aD.agg) (Uf ((baseD 116).at a' [.code (pX VG),.inLoop (pX VG),.inBlock 0]) [below T9]) w'):
 pH aI T9 S c own ((x::r).map aD.agg) (Uf ((baseD 116).at a [.code (pX VG),.inLoop (pX VG),.inBlock 0]) [below T9]) w:=by
 obtain⟨b,B,j,n⟩:=h;have d:=kV aI T9 S c ((x::r).map aD.agg);have g:i<l.length:=by
  rcases Vy i l.length with h|h
  ·exact h
  ·rw[List.drop_eq_nil_of_le h] at k;cases k
 have J:l[i]=x:=by
  have:=Wo g;rw[k] at this;exact(List.cons.inj this).1.symm
 obtain⟨rfl,rfl⟩|⟨e,y,z,rfl,f,q,u⟩:=n
 ·simp at g
 have t:=uM q u g;rw[J] at t;refine aS d ?_;refine bq d [0] Y ?_;refine dB d b Y (.bool Z) (jw Y (b.of Y) (b.of Y) (by simp;omega)) λb=>?_;refine ak d ?_;refine aS d ?_;refine dm d Z (b.of Y) ?_;refine ig d ?_;refine aS d ?_;refine gA d ?_;refine aS d ?_;refine bq d [0,1,2,3] Y ?_;refine dB d b Y (.pointer (I ⟨e,0+i*3,K⟩)) (fG Y (b.of Y) (b.of Y) Wz Tryz.sizeOf59 g) λb=>?_;refine q9 d b Y (.agg #[WN x.null,.int .i64 x.n,.string x.s]) (fh (cs:=[WN x.null,.int .i64 x.n,.string x.s]) Y (b.of Y) Tryz.underlying59 Y mU (.inr f) t) λb=>?_;refine mA d j (by decide) Y Y (.cells #[.bool T5,.int .i64 0,.string ⟨#[]⟩] 59) trivial (λL=>.pointer (I ⟨L,0,K⟩)) (sY Y Tryz.zeroValue59) λo P G H hrel A=>?_;replace b:=b.put (d:=11) (by decide) (.pointer (I ⟨o,0,K⟩));have s:=j.new G H;have C:e≠o:=by have:=j e (.inr f);omega
 refine r8 d s (by decide) Y Y (.inr Y) (.cells (gY x) 59) trivial (kY (n:=o) (off:=0) (v:=.agg #[WN x.null,.int .i64 x.n,.string x.s]) Y (b.of Y) (b.of Y) mU (λc p=>by simp[WH] at p;rcases p with rfl|rfl|rfl<;>rfl) (Or.inr (Or.inr rfl)) A (T6 3)) λM m=>?_;replace b:=b.none Vk;have D:=s.set m;refine ak d ?_;refine bq d [0,1,2] Y ?_;refine cG d b λb=>?_;refine ov d (by decide) Y Y _ (fh (cs:=[WN x.null,.int .i64 x.n,.string x.s]) Y (b.of Y) Tryz.underlying59 Y mU (.inr (.inr Y)) (λO v n=>by
  unfold Ur;rw[m.set];simpa [WH] using n)) ?_
 replace b:=b.put (d:=45) (by decide) (.agg #[WN x.null,.int .i64 x.n,.string x.s]);refine RM (v:=x.agg) (by decide) Y Y Y (b.of Y) (b.of Y) ?_;replace b:=b.none Vk;have d:=kV aI T9 S c (r.map aD.agg);refine ak d ?_;refine iI d ?_;refine bq d [0,1] Y ?_;refine dB d b Y (.int .i64 ((i+1:Nat):Int)) (nN (j:=1) Y (b.of Y) Y (by omega)) λb=>?_;refine cG d b λb=>?_;refine ak d ?_;refine kU d ?_;refine E _ M _ ⟨(((b.nil.cons (b.slot 0 _ Y)).cons (b.slot 38 _ Y)).cons (b.slot 39 _ Y)).cons (b.slot 40 _ Y),by simp only[put_defers];exact B,D,.inr ⟨e,y,z,rfl,.inl f,?_,u⟩⟩;rw[m.at_ e (.inr (.inl f)) C,hrel.at_ e (.inr f)];exact q
def Kx{S:Nat->Prop}{c:Nat}{co:Array Bool}{ats:Array Ug}{ty:Ug}{l:List aD}{v:U}(g:l.length<=100000):∀(r:List aD) (i:Nat),l.drop i=r->∀(own:Nat->Prop) (w:F) (a:V5),BD S c [{target:=.builtin .close ats ty co,args:= #[.chan (I c)]}] l v i own w a->
 pH aI T9 S c own (r.map aD.agg) (Uf ((baseD 116).at a [.code (pX VG),.inLoop (pX VG),.inBlock 0]) [below T9]) w:=by
 intro r
 induction r with
 |nil=>exact λi d own w a b=>Nz b (List.drop_eq_nil_iff.1 d)
 |cons n r j=>
  intro i d own w a b;refine GJ g b d λk m e f=>j (i+1) ?_ k m e f;have h:i<l.length:=by
   rcases Vy i l.length with b|b
   ·exact b
   ·rw[List.drop_eq_nil_of_le b] at d;cases d
  have:=Wo h;rw[d] at this;exact(List.cons.inj this).2.symm
end Cc
namespace Cc
open Go Go.Conc
open Ec (aD aG sE xC jB eN)
open Rl (mi aU eJ ay bg dJ)
def pi (s:ByteArray)(k e cn:Int)(vs:List aD):Prop:=
 (∃a:Nat,cn=(a:Int)/\a<=100/\jB cn k e=0/\sE s k e a vs)\/(vs=[]/\(jB cn k e≠0\/∃a:Nat,cn=(a:Int)/\xC s k e a))
def FP{s:ByteArray}{k e:Int}{n:Nat}{l b:List aD}(h:sE s k e n l)(a:sE s k e n b):b=l:=h.IL b a.len a.ok (eN a.eq)
def pi.Sw{s:ByteArray}{k e cn:Int}{vs l:List aD}{n:Nat}(h:pi s k e cn vs)(i:cn=(n:Int))(c:jB cn k e=0)(a:sE s k e n l):vs=l:=by
 rcases h with⟨b,d,_,_,g⟩|⟨rfl,h|⟨b,d,f⟩⟩
 ·have:b=n:=by omega
  subst this;exact FP a g
 ·exact absurd c h
 ·have:b=n:=by omega
  subst this;exact absurd a.eq (f l a.len a.ok)
def pi.Sv{s:ByteArray}{k e cn:Int}{vs:List aD}{n:Nat}(h:pi s k e cn vs)(f:cn=(n:Int))(b:xC s k e n):vs=[]:=by
 rcases h with⟨c,d,_,_,a⟩|⟨rfl,_⟩
 ·have:c=n:=by omega
  subst this;exact absurd a.eq (b vs a.len a.ok)
 ·rfl
def pi.Ri{s:ByteArray}{k e cn:Int}{vs:List aD}(h:pi s k e cn vs)(a:jB cn k e≠0):vs=[]:=by
 rcases h with⟨f,c,_,b,d⟩|⟨rfl,_⟩
 ·exact absurd b a
 ·rfl
def pi.len{s:ByteArray}{k e cn:Int}{vs:List aD}(h:pi s k e cn vs):(vs.length:Int)=cn\/vs=[]:=by
 rcases h with⟨d,a,_,c,b⟩|⟨rfl,_⟩
 ·exact .inl (by rw[b.len,a])
 ·exact .inr Y
def pi.le{s:ByteArray}{k e cn:Int}{vs:List aD}(h:pi s k e cn vs):vs.length<=100:=by
 rcases h with⟨f,c,a,d,b⟩|⟨rfl,_⟩
 ·rw[b.len];exact a
 ·simp
section
variable {G:mi}{σ:aU G}{own:Nat->Prop}{wl w:F}
def Me:U->Bool
 | .bool _| .int _ _| .string _=>Z
 |_=>T5
def DS{v a:U}(h:ay σ v a)(b:Me v=Z):a=v:=by
 cases h using ay.ind<;>first|rfl|cases b
def E6(l:List aD):∀x∈aG l,Me x=Z:=by
 intro x b;obtain⟨v,_,a⟩:=List.mem_flatMap.1 b;simp only[VM,XQ,or_false] at a;rcases a with rfl|rfl|rfl<;>rfl
def PT{v r:U}{l:List aD}{base:Nat}(q:ay σ v r)(J:eJ σ 0 wl w)(E:∀b b',σ.f b=I b'->own b')(D:wl.ownsRow base 59 3 v l.length (aG l)):Lm own w r l:=by
 obtain⟨K,⟨rfl,B⟩|⟨i,t,f,rfl,_,A,C,_,H,p⟩⟩:=D
 ·cases q using ay.ind;exact .inl ⟨rfl,We.1 B⟩
 ·cases q using ay.ind with
  |sl y=>
   rename_i s;obtain⟨e,j,k⟩:=y;obtain⟨d,N,O⟩:=s;simp only at e j k;subst j k;obtain⟨L,M,h,u,x⟩:=J.at_ i d e;rw[A] at h;cases h;cases x using dJ.ind with
   |cells m=>
    rename_i g;refine .inr ⟨d,t,g,rfl,E i d e,u,?_⟩;rw[<-p];apply List.ext_getElem?;intro a;rw[V8,V8]
    split
    ·rename_i n;have c:a<f.size:=by
      rw[H];exact Uc n (Nat.mul_le_mul_right 3 C)
     have o:a<g.size:=by rw[<-m.1];exact c
     have F:=m.2 a c o;have z:Me f[a]=Z:=by
      refine E6 l _ ?_;rw[<-p];refine List.mem_iff_getElem?.2 ⟨a,?_⟩;rw[V8,if_pos n];simp[c]
     have:=DS F z;simp[c,o,this]
    ·rfl
end
def gC (fn:WC):Array Vu:=match fn.body with
 |some (.seq _ (.seq _ (.seq (.region _ a _) _)))=>a
 |_=> #[]
def xg (fn:WC):WU:=match fn.body with
 |some (.seq _ (.seq _ (.seq _ a)))=>a
 |_=>.skip
def cy{P:Ue}{a:V5}{o:Vu}{v:U}{S own:Nat->Prop}{w:F}(h:∀c,(UH a.eval o).run P c= .ok (.value v) c/\(UH a.eval o).events P c #[]=#[]):∀c,RelB (λb=>S b\/own b) w c->(UH a.eval o).run P c= .ok (.value v) c/\∀e∈(UH a.eval o).events P c #[],EvW S own e:=λc _=>⟨(h c).1,λe d=>by rw[(h c).2] at d;simp at d⟩
def Ky{S:Nat->Prop}{c:Nat}{co:Array Bool}{ats:Array Ug}{ty:Ug}{vs:List aD}{v:U}{E:Int}{own:Nat->Prop}{w:F}{a:V5}{l0:List (Nat×U)}(b:Knows a 47 ((8,v)::(9,.int .i64 E)::(0,.chan (I c))::l0))(g:a.defers=[{target:=.builtin .close ats ty co,args:= #[.chan (I c)]}])(k:tP S own w)(l:vs.length<=100000)
 (h:(E≠0/\vs=[])\/(E=0/\Lm own w v vs)):pH aI T9 S c own (vs.map aD.agg) (Uf ((baseD 116).at a [.code (xg VG)]) [below T9]) w:=by
 have d:=kV aI T9 S c (vs.map aD.agg);refine aS d ?_;refine aS d ?_;refine bq d [0,1] Y ?_;refine cG d b λb=>?_;rcases h with⟨j,rfl⟩|⟨rfl,i⟩
 ·refine dB d b Y (.bool Z) (qJ Y (b.of Y) Y (by simpa using j)) λb=>?_;refine ak d ?_;refine dm d Z (b.of Y) ?_;refine pK d ?_;exact IP Y (by simp only[put_defers];exact g) Tryz.func116 Y Y
 ·refine dB d b Y (.bool T5) (qJ Y (b.of Y) Y Y) λb=>?_;refine ak d ?_;refine dm d T5 (b.of Y) ?_;refine ig d ?_;refine aS d ?_;refine bq d [0,1,2] Y ?_;refine cG d b λb=>?_;have m:∃f e,v= .slice f vs.length e:=by
   rcases i with⟨rfl,rfl⟩|⟨o,e,n,rfl,_⟩
   ·exact⟨K,0,rfl⟩
   ·exact⟨_,e,rfl⟩
  obtain⟨f,e,rfl⟩:=m;refine dB d b Y (.int .i64 (vs.length:Int)) (sj Y (b.of Y) Wz) λb=>?_;refine dB d b Y (.int .i64 ((0:Nat):Int)) (cg Y Y) λb=>?_;refine ak d ?_;refine gA d ?_;refine ud d ?_;exact Kx l vs 0 Y _ w _ ⟨(((b.nil.cons (b.slot 0 _ Y)).cons (b.slot 38 _ Y)).cons (b.slot 39 _ Y)).cons (b.slot 40 _ Y),by simp only[put_defers];exact g,k,i⟩
end Cc
namespace Cc
open Go Go.Conc
open Ec (aD aG sE xC jB pJ)
open Rl (mi aU eJ ay bg dJ)
def oZ (cn:Int)(cb n cap:Nat):U:=.agg #[.int .i64 cn,.slice (I ⟨cb,0,K⟩) n cap]
def o5 (kb b ck eb a ce:Nat)(x:U):U:=.agg #[.slice (I ⟨kb,0,K⟩) b ck,.slice (I ⟨eb,0,K⟩) a ce,x]
structure tR(S:Nat->Prop)(w:F)(s:ByteArray)(k e:Int)(cb n kb nk eb ne col:Nat):Prop where
 sc:S cb
 sk:S kb
 se:S eb
 n:col<n
 nk:col<nk
 ne:col<ne
 cc:aM w cb (0+col*8+0) (.string s)
 ck:aM w kb (0+col*2+1) (.int .i64 k)
 ce:aM w eb (0+col*1) (.int .i64 e)
def tR.rel{S:Nat->Prop}{w w':F}{s:ByteArray}{k e:Int}{cb n kb d eb c col:Nat}(h:tR S w s k e cb n kb d eb c col)(g:∀b,S b->w'.heap[b]? =w.heap[b]?):tR S w' s k e cb n kb d eb c col:=by
 have e:∀(b a:Nat),S b->w'.cell? ⟨b,a,K⟩=w.cell? ⟨b,a,K⟩:=λb a f=>by unfold Ur;rw[g b f]
 exact⟨h.sc,h.sk,h.se,h.n,h.nk,h.ne,(e _ _ h.sc).trans h.cc,(e _ _ h.sk).trans h.ck,(e _ _ h.se).trans h.ce⟩
def Iz (b1 b2:Nat)(cn:Int)(cb n cap kb b ck eb a ce col:Nat)(s:ByteArray)(k e:Int):List (Nat×U):=
 [(14,.pointer (I ⟨b1,0+1,K⟩)),(15,.slice (I ⟨cb,0,K⟩) n cap),(16,.int .i64 (col:Int)),(17,.pointer (I ⟨cb,0+col*8,K⟩)),(18,.pointer (I ⟨cb,0+col*8+0,K⟩)),(19,.string s),
  (20,.pointer (I ⟨b2,0+0,K⟩)),(21,.slice (I ⟨kb,0,K⟩) b ck),(22,.int .i64 (col:Int)),(23,.pointer (I ⟨kb,0+col*2,K⟩)),(24,.pointer (I ⟨kb,0+col*2+1,K⟩)),(25,.int .i64 k),
  (26,.pointer (I ⟨b2,0+1,K⟩)),(27,.slice (I ⟨eb,0,K⟩) a ce),(28,.int .i64 (col:Int)),(29,.pointer (I ⟨eb,0+col*1,K⟩)),(30,.int .i64 e),(31,.pointer (I ⟨b1,0+0,K⟩)),(32,.int .i64 cn)]
def LY:List Nat:=[14,15,16,17,18,19,20,21,22,23,24,25,26,27,28,29,30,31,32]
def Nx (u:U)(E:Int):List (Nat×U):=[(33,.tuple #[u,.int .i64 E]),(13,.tuple #[u,.int .i64 E]),(34,u),(35,.int .i64 E),(8,u),(9,.int .i64 E)]
def DI:gD (gC VG) (λi=>decide (i<19)) 19 47 LY=Z:=by kernel_rfl
def L0:gD (gC VG) (λ_=>Z) 25 47 ([33,13,34,35,8,9]++LY)=Z:=by kernel_rfl
def OK:((UK (gC VG).size).all λi=> !(λi=>decide (i<19)) i||match je (gC VG) i with|some d=> !([33,13,34,35,8,9]:List Nat).contains d|none=>Z)=Z:=by kernel_rfl
def L1:((UK (gC VG).size).all λi=> !(λi=>decide (i<=19)) i||i==19||(under (gC VG) (gC VG).size (match (gC VG)[19]? with
 |some o=>(o.after.toList.filter λe=>Vn .any e).map (·.on)
 |none=>[])).contains i)=Z:=by kernel_rfl
def qZ:T9.follows .mixedOrders=Z:=by kernel_rfl
def Of:(Tryz.f139.name == "runtime.NumGoroutine")=T5:=by kernel_rfl
def R3:(VG.name == "runtime.NumGoroutine")=T5:=by kernel_rfl
def EG{S:Nat->Prop}{c:Nat}{co:Array Bool}{ats:Array Ug}{ty:Ug}{vs:List aD}{u:U}{E:Int}{own:Nat->Prop}{w:F}{a0:V5}{l l0:List (Nat×U)}(m:Knows a0 47 l0)(n:l0.lookup 0=I (.chan (I c)))(v:l.lookup 0=K)(p:a0.defers=[{target:=.builtin .close ats ty co,args:= #[.chan (I c)]}])(r:tP S own w)(s:vs.length<=100000)(x:l.map (·.1)=LY)
 (h:(E≠0/\vs=[])\/(E=0/\Lm own w u vs)) (g t:Nat) (f:Array Bool) (a:V5) (q:cH (gC VG) (λ_=>Z) a0 (fill a0 (Nx u E++l)) f a) (j:∀i,(λi=>decide (i<=19)) i=Z->f.getD i T5=Z) (y:E4 f<=g):
 pH aI T9 S c own (vs.map aD.agg) (Uf ((baseD 116).at a [.inRegion (gC VG) (U9 .any (gC VG) g t f []),.code (xg VG)]) [below T9]) w:=by
 have k:=kV aI T9 S c (vs.map aD.agg);have o:gD (gC VG) (λ_=>Z) 25 47 ((Nx u E++l).map (·.1))=Z:=by
  rw[U0,x];exact L0
 refine kL (Dn:=λi=>decide (i<=19)) (u:=25) k (by decide) m o ?_ ?_ ?_ g t f a q j y
 ·intro b i e _ j B d;have z:19<i:=by simpa using j
  have A:i<25:=(Ua.1 d).1;have:i=20\/i=21\/i=22\/i=23\/i=24:=by omega
  rcases this with rfl|rfl|rfl|rfl|rfl
  ·cases(show I _=I e from d);exact⟨_,rfl,.inl ⟨rfl,cy (cg Y (b.of Y))⟩⟩
  ·cases(show I _=I e from d);exact⟨_,rfl,.inl ⟨rfl,cy (kF Y (b.of Y) Y)⟩⟩
  ·cases(show I _=I e from d);exact⟨_,rfl,.inl ⟨rfl,cy (kF Y (b.of Y) Y)⟩⟩
  ·cases(show I _=I e from d);exact⟨_,rfl,.inl ⟨rfl,cy (kE Y (b.of Y))⟩⟩
  ·cases(show I _=I e from d);exact⟨_,rfl,.inl ⟨rfl,cy (kE Y (b.of Y))⟩⟩
 ·intro e d;exact absurd (Ua.1 d).1 (by decide)
 ·intro _ b;refine ak k ?_;refine Ky (l0:=[]) (v:=u) (E:=E) (((b.nil.cons (b.slot 0 _ ?_)).cons (b.slot 9 _ Y)).cons (b.slot 8 _ Y)) (by rw[ey];exact p) r s h;rw[UC,List.lookup_append,List.lookup_append,v,n];rfl
def S4 (s:ByteArray)(k e cn:Int)(w:F)(f:Xa)(w':F):Prop:=aP w w'/\
 ((jB cn k e≠0/\f= .returned (.tuple #[aO,.int .i64 (jB cn k e)]))\/
  (∃a:Nat,cn=(a:Int)/\a<=100/\jB cn k e=0/\Ec.bI k e=Z/\((∃v b,f= .returned (.tuple #[v,.int .i64 0])/\w'.ownsRow w.heap.size 59 3 v b.length (aG b)/\sE s k e a b)\/(f= .returned (.tuple #[aO,.int .i64 3])/\xC s k e a))))
def u7{G:mi}{σ:aU G}{u g:U}{E:Int}(h:ay σ (.tuple #[u,.int .i64 E]) g):∃f,g= .tuple #[f,.int .i64 E]/\ay σ u f:=by
 cases h using ay.ind with
 |tuple a e ihz=>
  rename_i k;have c:=e 0 (by simp) (by rw[<-a];simp);have d:=e 1 (by simp) (by rw[<-a];simp);simp only[List.getElem_toArray,List.getElem_cons_zero,List.getElem_cons_succ] at c d;refine⟨k[0]'(by rw[<-a];simp),?_,c⟩;have i:=DS d Y;congr 1;refine Array.ext (a.symm.trans Y) λb l j=>?_;have:b=0\/b=1:=by have:b<2:=j;omega
  rcases this with rfl|rfl
  ·rfl
  ·simpa using i
def Kw{S:Nat->Prop}{c:Nat}{co:Array Bool}{ats:Array Ug}{ty:Ug}{vs:List aD}{own:Nat->Prop}{w:F}{a0:V5}{l0:List (Nat×U)}{s:ByteArray}{k e cn:Int}{b1 b2 cb n cap kb K ck eb J ce col:Nat}(r:pi s k e cn vs)(a1:s.size<=Up)
 (x:Knows a0 47 l0) (ap:l0.lookup 0=I (.chan (I c))) (B:a0.defers=[{target:=.builtin .close ats ty co,args:= #[.chan (I c)]}]) (am:Hu S own w) (au:1<=w.heap.size)
 (o:Vu) (q:(gC VG)[19]? =I o) (y t:Nat) (u:Array Bool) (a:V5) (D:cH (gC VG) (λi=>decide (i<19)) a0 (fill a0 (Iz b1 b2 cn cb n cap kb K ck eb J ce col s k e)) u a) (G:19∈UZ .any (gC VG) u) (bb:E4 u<=y+1) (p:∀s'∈o.looksAt (gC VG),aW a s'=aW (fill a0 (Iz b1 b2 cn cb n cap kb K ck eb J ce col s k e)) s'):
 pH aI T9 S c own (vs.map aD.agg) (Uf ((baseD 116).at a [.inRegion (gC VG) (19::U9 .any (gC VG) y t (u.setIfInBounds 19 Z) []),.code (xg VG)]) [below T9]) w:=by
 have al:=kV aI T9 S c (vs.map aD.agg);cases(show I _=I o from q);have m:=x.fill (Iz b1 b2 cn cb n cap kb K ck eb J ce col s k e) Y;have V:a.eval (.tmp 19)= .string s:=(p 19 (by decide)).trans (m.slot 19 _ Y);have W:a.eval (.tmp 25)= .int .i64 k:=(p 25 (by decide)).trans (m.slot 25 _ Y);have X:a.eval (.tmp 30)= .int .i64 e:=(p 30 (by decide)).trans (m.slot 30 _ Y);have aa:a.eval (.tmp 32)= .int .i64 cn:=(p 32 (by decide)).trans (m.slot 32 _ Y);refine HJ al (by decide) q Y Y Tryz.func139 Of Y ?_;have ao:(#[Operand.tmp 19,.tmp 25,.tmp 30,.tmp 32].map a.eval)=#[.string s,.int .i64 k,.int .i64 e,.int .i64 cn]:=by simp only[List.map_toArray,Xw,List.map_nil,V,W,X,aa]
 rw[ao];have a5:bg (QD LZ) #[.string s,.int .i64 k,.int .i64 e,.int .i64 cn] #[.string s,.int .i64 k,.int .i64 e,.int .i64 cn]:=by
  refine⟨rfl,λi ad a9=>?_⟩;have:i=0\/i=1\/i=2\/i=3:=by have:i<4:=ad;omega
  rcases this with rfl|rfl|rfl|rfl
  ·exact .string _
  ·exact .int _ _
  ·exact .int _ _
  ·exact .int _ _
 refine KW (R:=λf g=>∃L,S4 s k e cn L f g) cU Qh Fa Y (jW Y Y Y).symm a5 (λf g z=>?_) (os:=w.os) (λa8=>(pJ s k e cn _ a1).mono λf g z=>⟨_,z⟩) am au λbi v a7 be Q g A H ae a2 N hrel=>?_
 ·obtain⟨L,_,⟨_,rfl⟩|⟨_,_,_,_,_,⟨_,_,rfl,_⟩|⟨rfl,_⟩⟩⟩:=z<;>exact⟨_,rfl⟩
 ·obtain⟨a8,R,L,ba,A⟩:=A;have a6:∃d b,a7= .tuple #[d,.int .i64 b]/\((b≠0/\vs=[])\/(b=0/\Lm Q g d vs)):=by
   rcases A with⟨P,j⟩|⟨bd,O,_,ab,_,⟨d,bc,j,a3,C⟩|⟨j,C⟩⟩
   ·cases j;obtain⟨l,rfl,_⟩:=u7 H;exact⟨l,_,rfl,.inl ⟨P,r.Ri P⟩⟩
   ·cases j;obtain⟨l,rfl,a4⟩:=u7 H;have T:=r.Sw O ab C;subst T;exact⟨l,_,rfl,.inr ⟨rfl,PT a4 ae a2 a3⟩⟩
   ·cases j;obtain⟨l,rfl,_⟩:=u7 H;exact⟨l,_,rfl,.inl ⟨by decide,r.Sv O C⟩⟩
  obtain⟨d,b,rfl,aw⟩:=a6;rw[XG,q];have ar:=D.Ic (l2:=Nx d b) (La:=λ_=>Z) (n:=47) (v:=.tuple #[d,.int .i64 b]) G q x.size DI Y (λ_ _=>rfl) Y OK (λR B=>by cases B;rfl);have av:tP S Q g:=λM h=>by
   rcases h with h|h
   ·exact(N.sh M h).1
   ·exact N.bd M h
  refine EG x ap Y B av (Ux r.le (by decide)) Y aw y t _ _ ar (gF D G L1 (λi E=>by
   have:i<=19:=by simpa using E
   show i<25;omega)) ?_
  obtain⟨_,_,E,az,_⟩:=mem_ready G;have:=qX (by rw[D.size];exact E) az;omega
end Cc
namespace Cc
open Go Go.Conc
open Ec (aD)
def TK(v0 v1 v2 a:U)(m:Nat)(f:4<=m):Knows ⟨#[v0,v1,v2,a]++U3 (m-4) Vk,[]⟩ m [(0,v0),(1,v1),(2,v2),(3,a)]:=by
 have b:∀c v,(#[v0,v1,v2,a]:Array U)[c]? =I v->aW ⟨#[v0,v1,v2,a]++U3 (m-4) Vk,[]⟩ c=v:=λc v d=>by
  unfold aW;rw[UD,Array.getElem?_append_left (Ua.1 d).1,d];rfl
 refine Knows.cons (Knows.cons (Knows.cons (Knows.cons (l:=[]) ⟨?_,λs v e=>by simp at e⟩ (b 3 a Y)) (b 2 v2 Y)) (b 1 v1 Y)) (b 0 v0 Y);simp;omega
def EH{S:Nat->Prop}{c:Nat}{co:Array Bool}{ats:Array Ug}{ty:Ug}{vs:List aD}{own:Nat->Prop}{w:F}{a0:V5}{s:ByteArray}{k e cn:Int}{b1 b2 cb n cap kb i ck eb h ce col:Nat}{x:U}{l0:List (Nat×U)}(J:pi s k e cn vs)(D:s.size<=Up)
 (l:Knows a0 47 ((0,.chan (I c))::(3,.int .i64 (col:Int))::(5,.pointer (I ⟨b1,0,K⟩))::(6,.pointer (I ⟨b2,0,K⟩))::l0)) (z:a0.defers=[{target:=.builtin .close ats ty co,args:= #[.chan (I c)]}]) (y:Hu S own w) (B:1<=w.heap.size)
 (h1:own b1) (p:own b2) (L:w.heap[b1]? =I (.cells #[.int .i64 cn,.slice (I ⟨cb,0,K⟩) n cap] 139 (0,0))) (M:w.heap[b2]? =I (.cells #[.slice (I ⟨kb,0,K⟩) i ck,.slice (I ⟨eb,0,K⟩) h ce,x] 105 (0,0))) (g:tR S w s k e cb n kb i eb h col):
 pH aI T9 S c own (vs.map aD.agg) (Uf ((baseD 116).at a0 [.code (.region 2 (gC VG) Z),.code (xg VG)]) [below T9]) w:=by
 have q:=kV aI T9 S c (vs.map aD.agg);have m:∀a v,(#[VY .i64 cn,.slice (I ⟨cb,0,K⟩) n cap]:Array U)[a]? =I v->aM w b1 a v:=λa v j=>by unfold Ur;simp only[L];exact j
 have o:∀a v,(#[Vg (I ⟨kb,0,K⟩) i ck,.slice (I ⟨eb,0,K⟩) h ce,x]:Array U)[a]? =I v->aM w b2 a v:=λa v j=>by unfold Ur;simp only[M];exact j
 refine qB (Ph:=λd=>decide (d<19)) (l:=Iz b1 b2 cn cb n cap kb i ck eb h ce col s k e) q qZ ?_;refine kL (u:=19) q (by decide) l DI ?_ ?_ ?_
 ·intro b d a G _ _ f;have P:d<19:=by simpa using G
  have:d=0\/d=1\/d=2\/d=3\/d=4\/d=5\/d=6\/d=7\/d=8\/d=9\/d=10\/d=11\/d=12\/d=13\/d=14\/d=15\/d=16\/d=17\/d=18:=by omega
  rcases this with rfl|rfl|rfl|rfl|rfl|rfl|rfl|rfl|rfl|rfl|rfl|rfl|rfl|rfl|rfl|rfl|rfl|rfl|rfl
  ·cases(show I _=I a from f);exact⟨_,rfl,.inl ⟨rfl,cy (di Y (b.of Y) V7 Y Tryz.sizeOf137 Y)⟩⟩
  ·cases(show I _=I a from f);exact⟨_,rfl,.inl ⟨rfl,bY Y (b.of Y) Tryz.isAgg137 (.inr h1) (m 1 _ Y)⟩⟩
  ·cases(show I _=I a from f);exact⟨_,rfl,.inl ⟨rfl,cy (cg Y (b.of Y))⟩⟩
  ·cases(show I _=I a from f);exact⟨_,rfl,.inl ⟨rfl,cy (fG Y (b.of Y) (b.of Y) Tryz.underlying137 Tryz.sizeOf143 g.n)⟩⟩
  ·cases(show I _=I a from f);exact⟨_,rfl,.inl ⟨rfl,cy (di Y (b.of Y) Tryz.underlying143 Y Tryz.sizeOf9 Y)⟩⟩
  ·cases(show I _=I a from f);exact⟨_,rfl,.inl ⟨rfl,bY Y (b.of Y) Tryz.isAgg9 (.inl g.sc) g.cc⟩⟩
  ·cases(show I _=I a from f);exact⟨_,rfl,.inl ⟨rfl,cy (di Y (b.of Y) Tryz.underlying105 Y Tryz.sizeOf44 Y)⟩⟩
  ·cases(show I _=I a from f);exact⟨_,rfl,.inl ⟨rfl,bY Y (b.of Y) Tryz.isAgg44 (.inr p) (o 0 _ Y)⟩⟩
  ·cases(show I _=I a from f);exact⟨_,rfl,.inl ⟨rfl,cy (cg Y (b.of Y))⟩⟩
  ·cases(show I _=I a from f);exact⟨_,rfl,.inl ⟨rfl,cy (fG Y (b.of Y) (b.of Y) Tryz.underlying44 Tryz.sizeOf63 g.nk)⟩⟩
  ·cases(show I _=I a from f);exact⟨_,rfl,.inl ⟨rfl,cy (di Y (b.of Y) Tryz.underlying63 Y X5 Y)⟩⟩
  ·cases(show I _=I a from f);exact⟨_,rfl,.inl ⟨rfl,bY Y (b.of Y) Yv (.inl g.sk) g.ck⟩⟩
  ·cases(show I _=I a from f);exact⟨_,rfl,.inl ⟨rfl,cy (di Y (b.of Y) Tryz.underlying105 Y Tryz.sizeOf22 Y)⟩⟩
  ·cases(show I _=I a from f);exact⟨_,rfl,.inl ⟨rfl,bY Y (b.of Y) Tryz.isAgg22 (.inr p) (o 1 _ Y)⟩⟩
  ·cases(show I _=I a from f);exact⟨_,rfl,.inl ⟨rfl,cy (cg Y (b.of Y))⟩⟩
  ·cases(show I _=I a from f);exact⟨_,rfl,.inl ⟨rfl,cy (fG Y (b.of Y) (b.of Y) Tryz.underlying22 X5 g.ne)⟩⟩
  ·cases(show I _=I a from f);exact⟨_,rfl,.inl ⟨rfl,bY Y (b.of Y) Yv (.inl g.se) g.ce⟩⟩
  ·cases(show I _=I a from f);exact⟨_,rfl,.inl ⟨rfl,cy (di Y (b.of Y) V7 Y X5 Y)⟩⟩
  ·cases(show I _=I a from f);exact⟨_,rfl,.inl ⟨rfl,bY Y (b.of Y) Yv (.inr h1) (m 0 _ Y)⟩⟩
 ·intro a f t O N r A H E C _;exact Kw J D l Y z y B a f t O N r A H E C
 ·intro u;exact absurd (u 24 (by decide)) (by decide)
def Ny{S:Nat->Prop}{c:Nat}{vs:List aD}{w:F}{s:ByteArray}{k e cn:Int}{cb n cap kb h ck eb g ce col:Nat}{x:U}(E:pi s k e cn vs)(C:s.size<=Up)(m:Hu S (λ_=>False) w)(B:tR S w s k e cb n kb h eb g col):
 pH aI T9 S c (λ_=>False) (vs.map aD.agg) (born T9 (dcall 116 #[.chan (I c),oZ cn cb n cap,o5 kb h ck eb g ce x,.int .i64 (col:Int)])) w:=by
 have a:=kV aI T9 S c (vs.map aD.agg);refine N9 Tryz.func116 R3 Y ?_;have b:=TK (.chan (I c)) (oZ cn cb n cap) (o5 kb h ck eb g ce x) (.int .i64 (col:Int)) 47 (by decide);have o:tP S (λ_=>False) w:=λd f=>f.elim (λu=>(m.sh d u).1) Yq;refine aS a ?_;refine bq a [0,1] Y ?_;refine mA a o (by decide) Y Y (.cells #[.int .i64 cn,.slice (I ⟨cb,0,K⟩) n cap] 139) trivial (λn=>.pointer (I ⟨n,0,K⟩)) (uD (v:=oZ cn cb n cap) Y (b.of Y)) λi J z G D v=>?_;replace b:=b.put (d:=5) (by decide) (.pointer (I ⟨i,0,K⟩));have p:=o.new z G;refine mA a p (by decide) Y Y (.cells #[.slice (I ⟨kb,0,K⟩) h ck,.slice (I ⟨eb,0,K⟩) g ce,x] 105) trivial (λn=>.pointer (I ⟨n,0,K⟩)) (uD (v:=o5 kb h ck eb g ce x) Y (b.of Y)) λl L A H r y=>?_;replace b:=b.put (d:=6) (by decide) (.pointer (I ⟨l,0,K⟩));have q:=p.new A H;refine ak a ?_;refine aS a ?_;refine bq a [0,1] Y ?_;refine cG a b λb=>?_;refine Ov a (by decide) Y Y Y (b.of Y) λt=>?_;refine ak a ?_;refine aS a ?_;refine EH (b1:=i) (b2:=l) (cap:=cap) (ck:=ck) (ce:=ce) (l0:=[]) (col:=col) (x:=x) (ats:= #[212]) (ty:=0) (co:=t) E C ?_ (by simp only[put_defers];rfl) ?_ (by omega) (.inl (.inr rfl)) (.inr rfl) ?_ y (B.rel λd f=>?_)
 ·exact(Knows.defer b _ Vk).four Y Y Y Y
 ·refine⟨λd f=>⟨q d (.inl f),λj=>?_⟩,λd f=>q d (.inr f)⟩;have:=(m.sh d f).1;rcases j with(j|rfl)|rfl
  ·exact j
  ·omega
  ·omega
 ·rw[r.at_ i (.inr (.inr Y))];exact v
 ·rw[r.at_ d (.inl f),D.at_ d (.inl f)]
end Cc
namespace Cc
open Go Go.Conc
open Ec (aD aG)
def xz:∃i,T9.info? 59=I i/\i.zero=I (.agg #[.bool T5,.int .i64 0,.string ⟨#[]⟩])/\i.size=3/\i.bytes=32:=⟨Tryz.t59,by kernel_rfl,rfl,rfl,rfl⟩
def Fe(w:F):(Wn 59).events T9 w #[]=#[]:=by
 obtain⟨e,b,d,_⟩:=xz;simp[Wn,typeInfo,b,d]
def eW(l:List aD)(x:aD):aG (l++[x])=aG l++[.bool x.null,.int .i64 x.n,.string x.s]:=by simp[aG]
structure Row(w:F)(g N:Nat)(pre:List aD):Prop where
 ex:∃cur,w.heap[g]? =I (.cells cur 59 (0,0))/\cur.size=N*3/\cur.toList.take (pre.length*3)=aG pre
 le:pre.length<=N
def Row.same{w w':F}{g N:Nat}{pre:List aD}(h:Row w g N pre)(f:w'.heap[g]? =w.heap[g]?):Row w' g N pre:=by
 obtain⟨b,d,e⟩:=h.ex;exact⟨⟨b,f.trans d,e⟩,h.le⟩
def dn (fn:WC):WU:=match fn.body with
 |some (.seq _ (.seq _ (.seq (.seq _ (.block _ (.loop c))) _)))=>c
 |_=>.skip
def gU (fn:WC):WU:=match fn.body with
 |some (.seq _ (.seq _ (.seq _ c)))=>c
 |_=>.skip
structure BA(S O:Nat->Prop)(c g N:Nat)(pre:List aD)(w:F)(a:V5):Prop where
 kn:Knows a 18 [(9,.chan (I c)),(5,.slice (I ⟨g,0,K⟩) pre.length N)]
 df:a.defers=[]
 inr:tP S O w
 own:O g
 row:Row w g N pre
section
variable {Post:U->F->Prop}{S O:Nat->Prop}{μ:Nat->Option (List U)}{c g N:Nat}{pre:List aD}{w:F}{a:V5}{cs:List Us}{b0:Us}{a0:V5}{k0:List WM}{Cb:Array Vu}{i0:Nat}{Ba:List Nat}{o0:Vu}
def LN(h:BA S O c g N pre w a)(k:μ c=I [])(j:Cb[i0]? =I o0)
 (i:kr aI T9 Post S O (gb μ c K) (Uf (b0.at (a0.put o0.dst (.slice (I ⟨g,0,K⟩) pre.length N)) (.inRegion Cb Ba::k0)) cs) w):
 kr aI T9 Post S O μ (Uf ((base 117).at a [.code (dn XP),.inLoop (dn XP),.inBlock 0,.code (gU XP)]) (b0.at a0 (.inRegion Cb (i0::Ba)::k0)::cs)) w:=by
 obtain⟨d,f,m,l,n⟩:=h;have b:=dR aI T9 Post S μ;refine aS b ?_;refine bq b [0,1] Y ?_;refine Rf (by decide) Y Y Y Tryz.underlying215 Tryz.zeroValue59 Fe (d.of Y) k ?_;replace d:=d.put (d:=10) (by decide) (.tuple #[.agg #[.bool T5,.int .i64 0,.string ⟨#[]⟩],.bool T5]);have b:=dR aI T9 Post S (gb μ c K);refine rf b d λd=>?_;refine ak b ?_;refine aS b ?_;refine dm b T5 (d.of Y) ?_;refine uc b (k':=[.code (gU XP)]) Y ?_;refine aS b ?_;refine bq b [0,1] Y ?_;refine cG b d λd=>?_;refine gW b d λd=>?_;refine ak b ?_;refine pK b ?_;have e:=j5 (P:=T9) Tryz.results117 (d.slot 4 _ Y);exact Ox b Y (by simp only[put_defers];exact f) Tryz.func117 e.1 e.2 j i
def FJ{x:aD}{r:List aD}(h:BA S O c g N pre w a)(av:μ c=I ((x::r).map aD.agg))(Q:pre.length<N)(R:N<=1000000)
 (ae:∀o w' a',BA S o c g N (pre++[x]) w' a'->(∀b,O b->o b)->(∀b,o b->O b\/w.heap.size<=b)->(∀b,S b\/O b->b≠g->w'.heap[b]? =w.heap[b]?)->w.heap.size<=w'.heap.size->w'.tape=w.tape->w'.os=w.os->w'.output=w.output->kr aI T9 Post S o (gb μ c (I (r.map aD.agg))) (Uf ((base 117).at a' [.code (dn XP),.inLoop (dn XP),.inBlock 0,.code (gU XP)]) cs) w'):
 kr aI T9 Post S O μ (Uf ((base 117).at a [.code (dn XP),.inLoop (dn XP),.inBlock 0,.code (gU XP)]) cs) w:=by
 obtain⟨d,aa,s,j,am⟩:=h;obtain⟨⟨p,X,q,ar⟩,a2⟩:=am;obtain⟨H,E,G,n,W⟩:=xz;have e:=dR aI T9 Post S μ;refine aS e ?_;refine bq e [0,1] Y ?_;refine Re (v:=x.agg) (by decide) Y Y Y Tryz.underlying215 Tryz.zeroValue59 Fe (d.of Y) av ?_;replace d:=d.put (d:=10) (by decide) (.tuple #[.agg (gY x),.bool Z]);have e:=dR aI T9 Post S (gb μ c (I (r.map aD.agg)));refine rf e d λd=>?_;refine ak e ?_;refine aS e ?_;refine dm e Z (d.of Y) ?_;refine ig e ?_;refine gA e ?_;refine aS e ?_;refine bq e [0,1,2] Y ?_;refine rf e d λd=>?_;refine mA e s (by decide) Y Y (.cells #[.bool T5,.int .i64 0,.string ⟨#[]⟩] 59) trivial (λy=>.pointer (I ⟨y,0,K⟩)) (sY Y Tryz.zeroValue59) λJ a5 F ao hrel T=>?_;replace d:=d.put (d:=6) (by decide) (.pointer (I ⟨J,0,K⟩));have B:=s.new F ao;refine r8 e B (by decide) Y Y (.inr Y) (.cells (gY x) 59) trivial (kY (n:=J) (off:=0) (v:=.agg #[WN x.null,.int .i64 x.n,.string x.s]) Y (d.of Y) (d.of Y) mU (λc m=>by simp[WH] at m;rcases m with rfl|rfl|rfl<;>rfl) (Or.inr (Or.inr rfl)) T (T6 3)) λaw i=>?_;replace d:=d.none Vk;have C:=B.set i;refine ak e ?_;refine bq e [0,1,2,3,4] Y ?_;refine cG e d λd=>?_;refine ov e (by decide) Y Y _ (fh (cs:=[WN x.null,.int .i64 x.n,.string x.s]) Y (d.of Y) Tryz.underlying59 Y mU (.inr (.inr Y)) (λt v au=>by
  unfold Ur;rw[i.set];simpa [WH] using au)) ?_
 replace d:=d.put (d:=14) (by decide) (.agg #[WN x.null,.int .i64 x.n,.string x.s]);refine mA e C (by decide) Y Y (.cells (gY x) 59) trivial (λy=>.slice (I ⟨y,0,K⟩) 1 1) (JX (v0:=.bool x.null) (v1:=.int .i64 x.n) (v2:=.string x.s) Y (d.of Y) Wz E G n) λz A al ap l U=>?_;replace d:=d.put (d:=15) (by decide) (.slice (I ⟨z,0,K⟩) 1 1);have D:=C.new al ap;have a1:=s g (.inr j);have M:aw.heap[g]? =I (.cells p 59 (0,0)):=by
  rw[i.at_ g (.inr (.inl j)) (by omega),hrel.at_ g (.inr j)];exact X
 have P:A.heap[g]? =I (.cells p 59 (0,0)):=(l.at_ g (.inr (.inl j))).trans M;refine Q0 e D (n:=g) (by decide) Y Y (.inl (.inl j)) (.cells (p.toList.take (pre.length*H.size)++[WN x.null,.int .i64 x.n,.string x.s]++p.toList.drop (pre.length*H.size+3)).toArray 59 (0,0)) trivial (.slice (I ⟨g,0,K⟩) (pre.length+1) N) (JW (news:=[WN x.null,.int .i64 x.n,.string x.s]) Y (d.of Y) (d.of Y) Wz E G P (.inr (.inl (.inl j))) (.inr (.inr Y)) (by rw[n];rfl) (λt a4 ad=>by
  have L:A.cell? (Addr.add ⟨z,0,K⟩ t)=A.cell? ⟨z,0+t,K⟩:=by rw[Xc]
  rw[L];unfold Ur;rw[U,UT];simpa using ad) (λt=>by rw[Xc]) (λc m=>by simp at m;rcases m with rfl|rfl|rfl<;>rfl) (by omega) (by rw[q,n]) R (by rw[W];decide)) λaz k=>?_
 replace d:=d.put (d:=16) (by decide) (.slice (I ⟨g,0,K⟩) (pre.length+1) N);have ab:=D.set k;refine gW e d λd=>?_;refine ak e ?_;refine iI e ?_;refine kU e ?_;have u:(pre++[x]).length=pre.length+1:=by simp
 refine ae _ az _ ⟨?_,by simp only[put_defers];exact aa,ab,.inl (.inl j),⟨⟨_,k.set,?_,?_⟩,by rw[u];exact Q⟩⟩ (λb f=>.inl (.inl f)) (λb f=>?_) (λb f V=>?_) ?_ ?_ ?_ ?_
 ·rw[u];exact(d.nil.cons (d.slot 5 _ Y)).cons (d.slot 9 _ Y)
 ·rw[n] at*;simp[q];omega
 ·rw[n,u,eW,<-ar,Nat.add_mul];rw[List.take_append_of_le_length (by simp[q];omega)];rw[UO (by simp[q];omega)]
 ·rcases f with(f|rfl)|rfl
  ·exact .inl f
  ·exact .inr F
  ·have:=i.size;have:=hrel.size;exact .inr (by omega)
 ·have a3:=s b f;rw[k.at_ b (f.imp (λh=>h) (λh=>.inl (.inl h))) V,l.at_ b (f.imp (λh=>h) (λh=>.inl h)),i.at_ b (f.imp (λh=>h) (λh=>.inl h)) (by omega),hrel.at_ b f]
 ·have:=hrel.size;have:=i.size;have:=l.size;have:=k.size;omega
 ·rw[k.tape,l.tape,i.tape,hrel.tape]
 ·rw[k.os,l.os,i.os,hrel.os]
 ·rw[k.output,l.output,i.output,hrel.output]
def KT(μ:Nat->Option (List U))(c:Nat)(x y:Option (List U)):gb (gb μ c x) c y=gb μ c y:=by
 funext b;unfold gb
 split<;>rfl
structure QK(S O O':Nat->Prop)(g:Nat)(w w':F):Prop where
 sub:∀b,O b->O' b
 new:∀b,O' b->O b\/w.heap.size<=b
 at_:∀b,S b\/O b->b≠g->w'.heap[b]? =w.heap[b]?
 size:w.heap.size<=w'.heap.size
 tape:w'.tape=w.tape
 os:w'.os=w.os
 output:w'.output=w.output
def Jf(z:Cb[i0]? =I o0)(v:N<=1000000):∀(r:List aD) (pre:List aD) (O:Nat->Prop) (w:F) (a:V5) (μ:Nat->Option (List U)),BA S O c g N pre w a->μ c=I (r.map aD.agg)->pre.length+r.length<=N->
 (∀h w',Row w' g N (pre++r)->h g->tP S h w'->QK S O h g w w'->kr aI T9 Post S h (gb μ c K) (Uf (b0.at (a0.put o0.dst (.slice (I ⟨g,0,K⟩) (pre++r).length N)) (.inRegion Cb Ba::k0)) cs) w')->
 kr aI T9 Post S O μ (Uf ((base 117).at a [.code (dn XP),.inLoop (dn XP),.inBlock 0,.code (gU XP)]) (b0.at a0 (.inRegion Cb (i0::Ba)::k0)::cs)) w:=by
 intro r
 induction r with
 |nil=>
  intro pre O w a μ b j l i;refine LN b j z ?_;have:=i O w (by rw[Wr];exact b.row) b.own b.inr ⟨λ_ b=>b,λ_ b=>.inl b,λ_ _ _=>rfl,T6 _,rfl,rfl,rfl⟩;rw[Wr] at this;exact this
 |cons k r A=>
  intro pre O w a μ b j l i;simp only[VI] at l;refine FJ b j (by omega) v λh w' s u o B C p D E G=>?_;refine A (pre++[k]) h w' s _ u (by unfold gb;simp) (by simp;omega) λq H n x y f=>?_;rw[KT];have t:pre++[k]++r=pre++k::r:=by simp
  rw[t] at n ⊢;exact i q H n x y ⟨λd e=>f.sub d (o d e),λd e=>(f.new d e).elim (B d) (λe=>.inr (Ux p e)),λd e m=>(f.at_ d (e.imp (λb=>b) (o d)) m).trans (C d e m),Ux p f.size,f.tape.trans D,f.os.trans E,f.output.trans G⟩
def Ta(v0 v1:U)(m:Nat)(h:2<=m):Knows ⟨#[v0,v1]++U3 (m-2) Vk,[]⟩ m [(0,v0),(1,v1)]:=by
 have e:∀b v,(#[v0,v1]:Array U)[b]? =I v->aW ⟨#[v0,v1]++U3 (m-2) Vk,[]⟩ b=v:=λb v d=>by
  unfold aW;rw[UD,Array.getElem?_append_left (Ua.1 d).1,d];rfl
 refine Knows.cons (Knows.cons (l:=[]) ⟨?_,λs v f=>by simp at f⟩ (e 1 v1 Y)) (e 0 v0 Y);simp;omega
def LM{r:List aD}(v:Cb[i0]? =I o0)(k:tP S O w)(C:μ c=I (r.map aD.agg))(x:r.length<=N)(m:N<=1000000)
 (u:∀j w' g,w.heap.size<=g->Row w' g N r->j g->Lh S O j w w'->kr aI T9 Post S j (gb μ c K) (Uf (b0.at (a0.put o0.dst (.slice (I ⟨g,0,K⟩) r.length N)) (.inRegion Cb Ba::k0)) cs) w'):
 kr aI T9 Post S O μ (Uf (UY T9 117 #[.chan (I c),.int .i64 (N:Int)] .normal) (b0.at a0 (.inRegion Cb (i0::Ba)::k0)::cs)) w:=by
 have b:=dR aI T9 Post S μ;obtain⟨D,s,B,z,o⟩:=xz;rw[enter_at _ Tryz.func117 Y];have d:=Ta (.chan (I c)) (.int .i64 (N:Int)) 18 (by decide);refine aS b ?_;refine bq b [0] Y ?_;refine mZ b d aO λd=>?_;refine ak b ?_;refine aS b ?_;refine bq b [0,1,2] Y ?_;refine cG b d λd=>?_;refine mA b k (by decide) Y Y (.cells (madeCells (Value.agg #[.bool T5,.int .i64 0,.string ⟨#[]⟩]).cells (N*D.size)) 59) trivial (λE=>.slice (I ⟨E,0,K⟩) 0 N) (Ca (L:=0) Y Y (d.of Y) Wz s B (UE _) (by rw[o];omega) (by omega)) λg F l A hrel n=>?_;replace d:=d.put (d:=8) (by decide) (.slice (I ⟨g,0,K⟩) 0 N);refine gW b d λd=>?_;refine ak b ?_;refine aS b ?_;refine aS b ?_;refine bq b [0] Y ?_;refine cG b d λd=>?_;refine ak b ?_;refine gA b ?_;refine ud b ?_;have q:=k.new l A;refine Jf (g:=g) (N:=N) v m r [] _ F _ μ ⟨(d.nil.cons (d.slot 5 _ Y)).cons (d.slot 9 _ Y),by simp only[put_defers],q,.inr Y,⟨⟨_,n,by rw[size_madeCells,z],rfl⟩,UE _⟩⟩ C (by simpa using x) λj w' y p t i=>?_;refine u j w' g l y p ⟨λe f=>i.sub e (.inl f),λe f=>?_,⟨λe f=>?_,?_,i.tape.trans hrel.tape,i.os.trans hrel.os,i.output.trans hrel.output⟩,t⟩
 ·rcases i.new e f with(h|rfl)|h
  ·exact .inl h
  ·exact .inr l
  ·exact .inr (Ux hrel.size h)
 ·have:=k e f;rw[i.at_ e (f.imp (λh=>h) (λh=>.inl h)) (by omega),hrel.at_ e f]
 ·exact Ux hrel.size i.size
end
end Cc
namespace Cc
open Go Go.Conc
open Ec (aD aG)
open Go.RowKit (Below)
structure Fi(S:Nat->Prop)(w0:F)(s:Nat->ByteArray)(k e:Nat->Int)(N cb n kb nk eb ne wb:Nat)(ws:List Bool)(V:Nat->List aD):Prop where
 sz:∀b,S b->b<w0.heap.size
 sin:∀j,ws[j]? =I Z->tR S w0 (s j) (k j) (e j) cb n kb nk eb ne j/\(s j).size<=Up/\pi (s j) (k j) (e j) (N:Int) (V j)
 wl:wb<w0.heap.size
 wc:∀j y,ws[j]? =I y->aM w0 wb (0+j*1) (.bool y)
 nn:N<=1000000
 mm:ws.length<=1000000
 pos:1<=w0.heap.size
def eD (ws:List Bool)(ch:Nat->Nat)(i:Nat):List U:=(UK ws.length).map λb=>if b<i/\ws[b]? =I Z then .chan (I (ch b)) else .chan K
def dQ(ws:List Bool)(ch:Nat->Nat)(i:Nat):(eD ws ch i).length=ws.length:=by simp[eD]
def mD{ws:List Bool}{ch:Nat->Nat}{i j:Nat}(b:j<ws.length):(eD ws ch i)[j]? =I (if j<i/\ws[j]? =I Z then .chan (I (ch j)) else .chan K):=by
 simp[eD,b]
structure q8(S O:Nat->Prop)(w0 w:F)(N cb n cap kb nk ck eb ne ce:Nat)(x:U)(bb fb:Nat):Prop where
 Hy:aP w0 w
 low:∀b,b<w0.heap.size->S b\/O b
 inr:tP S O w
 ri:∀b,S b->¬O b
 ob:O bb
 of:O fb
 lb:w0.heap.size<=bb
 lf:w0.heap.size<=fb
 hb:w.heap[bb]? =I (.cells #[.int .i64 (N:Int),.slice (I ⟨cb,0,K⟩) n cap] 139 (0,0))
 hf:w.heap[fb]? =I (.cells #[.slice (I ⟨kb,0,K⟩) nk ck,.slice (I ⟨eb,0,K⟩) ne ce,x] 105 (0,0))
structure R8(O:Nat->Prop)(w:F)(ws:List Bool)(V:Nat->List aD)(ch:Nat->Nat)(p q:Nat)(μ:Nat->Option (List U)):Prop where
 mu:∀j,p<=j->j<q->ws[j]? =I Z->μ (ch j)=I ((V j).map aD.agg)
 no:∀c,μ c≠K->∃j,p<=j/\j<q/\ws[j]? =I Z/\ch j=c
 inj:∀j j',j<q->j'<q->ws[j]? =I Z->ws[j']? =I Z->ch j=ch j'->j=j'
 lt:∀j,j<q->ws[j]? =I Z->ch j<w.heap.size
section
variable {S O:Nat->Prop}{w0 w w':F}{s:Nat->ByteArray}{k e:Nat->Int}{N cb n cap kb nk ck eb ne ce wb gT:Nat}{x:U}{ws:List Bool}{V:Nat->List aD}{ch:Nat->Nat}{bb fb cQ i:Nat}{μ:Nat->Option (List U)}{a:V5}{Post:U->F->Prop}{cs:List Us}
def q8.rel(h:q8 S O w0 w N cb n cap kb nk ck eb ne ce x bb fb){d:Nat->Prop}(g:∀b,S b\/O b->w0.heap.size<=b->(b=bb\/b=fb)->w'.heap[b]? =w.heap[b]?)(m:∀b,b<w0.heap.size->w'.heap[b]? =w.heap[b]?)(q:w.heap.size<=w'.heap.size)(r:w'.tape=w.tape)(o:w'.os=w.os)(p:w'.output=w.output)(l:tP S d w')(f:∀b,O b->b<w0.heap.size\/b=bb\/b=fb->d b)(j:∀b,S b->¬d b):q8 S d w0 w' N cb n cap kb nk ck eb ne ce x bb fb:=
 ⟨⟨o.trans h.Hy.os,r.trans h.Hy.tape,p.trans h.Hy.output,Ux h.Hy.size q,λb c=>(m b c).trans (h.Hy.block b c)⟩,λb c=>(h.low b c).imp (λh=>h) (λh=>f b h (.inl c)),l,j,f bb h.ob (.inr (.inl Y)),f fb h.of (.inr (.inr Y)),h.lb,h.lf,(g bb (.inr h.ob) h.lb (.inl Y)).trans h.hb,(g fb (.inr h.of) h.lf (.inr Y)).trans h.hf⟩
def q8.new(h:q8 S O w0 w N cb n cap kb nk ck eb ne ce x bb fb){f:Nat}(g:w.heap.size<=f)(l:w'.heap.size=f+1)(d:RelB (λb=>S b\/O b) w w'):q8 S (λb=>O b\/b=f) w0 w' N cb n cap kb nk ck eb ne ce x bb fb:=
 h.rel (λb c _ _=>d.at_ b c) (λb c=>d.at_ b (h.low b c)) d.size d.tape d.os d.output (h.inr.new g l) (λb c _=>.inl c) (λb c j=>j.elim (h.ri b c) (λe=>by have:=h.inr b (.inl c);omega))
def q8.set(h:q8 S O w0 w N cb n cap kb nk ck eb ne ce x bb fb){f:Nat}{l:Obj}(b:zV S O f l w w')(h1:f≠bb)(g:f≠fb)(m:w0.heap.size<=f):q8 S O w0 w' N cb n cap kb nk ck eb ne ce x bb fb:=
 h.rel (λc d _ j=>b.at_ c d (by rcases j with rfl|rfl;exact λe=>h1 e.symm;exact λe=>g e.symm)) (λc d=>b.at_ c (h.low c d) (by omega)) b.size b.tape b.os b.output (h.inr.set b) (λc d _=>d) h.ri
end
def AT (fn:WC):Array Vu:=match dn fn with
 | .seq _ (.seq _ (.seq (.block _ (.seq _ (.seq _ (.cond _ (.seq _ (.region _ b _)) _)))) _))=>b
 |_=> #[]
def S7 (cQ fb bb i c N cb n cap kb nk ck eb ne ce m:Nat)(x:U):List (Nat×U):=
 [(29,.slice (I ⟨cQ,0,K⟩) m m),(30,.int .i64 (i:Int)),(31,.pointer (I ⟨cQ,0+i*1,K⟩)),(32,.chan (I c)),(33,oZ (N:Int) cb n cap),(34,o5 kb nk ck eb ne ce x),(35,.int .i64 (i:Int))]
def S6:List Nat:=[29,30,31,32,33,34,35]
def Ib:gD (AT U2) (λi=>decide (i<7)) 7 73 S6=Z:=by kernel_rfl
def OV:((UK (AT U2).size).all λi=> !(λi=>decide (i<=7)) i||i==7||(under (AT U2) (AT U2).size (match (AT U2)[7]? with
 |some o=>(o.after.toList.filter λe=>Vn .any e).map (·.on)
 |none=>[])).contains i)=Z:=by kernel_rfl
def nV:(T9.info? 139).map (·.size)=I 2:=by kernel_rfl
def AR:(T9.info? 105).map (·.size)=I 3:=by kernel_rfl
def Jc:(T9.info? 193).map (·.size)=I 1:=by kernel_rfl
section
variable {S O:Nat->Prop}{w0 w w':F}{s:Nat->ByteArray}{k e:Nat->Int}{N cb n cap kb nk ck eb ne ce wb gT:Nat}{x:U}{ws:List Bool}{V:Nat->List aD}{ch:Nat->Nat}{bb fb cQ i:Nat}{μ:Nat->Option (List U)}{a:V5}{Post:U->F->Prop}{cs:List Us}
structure IU(S O:Nat->Prop)(w0 w:F)(N cb n cap kb nk ck eb ne ce:Nat)(x:U)(wb gT:Nat)(ws:List Bool)(V:Nat->List aD)(ch:Nat->Nat)(bb fb cQ i:Nat)(μ:Nat->Option (List U))(a:V5):Prop where
 kn:Knows a 73 [(16,.int .i64 (i:Int)),(15,.int .i64 (ws.length:Int)),(8,.slice (I ⟨cQ,0,K⟩) ws.length ws.length),(4,.pointer (I ⟨fb,0,K⟩)),(3,.pointer (I ⟨bb,0,K⟩)),(2,.slice (I ⟨wb,0,K⟩) ws.length gT)]
 df:a.defers=[]
 own:q8 S O w0 w N cb n cap kb nk ck eb ne ce x bb fb
 oc:O cQ
 lc:w0.heap.size<=cQ
 cb:cQ≠bb
 cf:cQ≠fb
 hc:w.heap[cQ]? =I (.cells (eD ws ch i).toArray 193 (0,0))
 TJ:R8 O w ws V ch 0 i μ
def BM(h:ws[i]? ≠I Z):eD ws ch (i+1)=eD ws ch i:=by
 unfold eD;refine List.map_congr_left λb f=>?_;by_cases e:b=i
 ·subst e;simp[h]
 ·have:(b<i+1/\ws[b]? =I Z)↔(b<i/\ws[b]? =I Z):=by
   constructor
   ·rintro⟨d,c⟩;exact⟨by omega,c⟩
   ·rintro⟨d,c⟩;exact⟨by omega,c⟩
  simp only[this]
def Dv(h:ws[i]? =I Z)(c:Nat):(eD ws ch i).take i++[Value.chan (I c)]++(eD ws ch i).drop (i+1)=eD ws (λj=>if j=i then c else ch j) (i+1):=by
 have m:i<ws.length:=(Uz.1 h).1;apply List.ext_getElem?;intro j;rcases Vy j ws.length with b|b
 ·rw[mD b];rcases Nat.lt_trichotomy j i with d|d|d
  ·rw[UC,Vw (by simp[dQ];omega),V8,if_pos d,mD b];have e:(j<i+1/\ws[j]? =I Z)↔(j<i/\ws[j]? =I Z):=⟨λh=>⟨d,h.2⟩,λh=>⟨by omega,h.2⟩⟩;have f:¬j=i:=by omega
   simp only[e,f,if_false]
  ·subst d;rw[UC,Vo (by simp[dQ];omega)];simp[dQ,h,Nat.min_eq_left (Nat.le_of_lt b)]
  ·rw[Vo (by simp[dQ];omega)];have g:i+1+(j-(min i ws.length+1))=j:=by omega
   simp only[T8,Vs,dQ,VI,XH,List.getElem?_drop,g,mD b];have f:¬(j<i):=by omega
   have l:¬(j<i+1):=by omega
   simp only[f,l,false_and,if_false]
 ·rw[List.getElem?_eq_none (by simp[dQ];omega),List.getElem?_eq_none (by rw[dQ];exact b)]
def go_skip(j:Fi S w0 s k e N cb n kb nk eb ne wb ws V)(h:IU S O w0 w N cb n cap kb nk ck eb ne ce x wb gT ws V ch bb fb cQ i μ a)(o:ws[i]? =I T5)
 (G:∀a',IU S O w0 w N cb n cap kb nk ck eb ne ce x wb gT ws V ch bb fb cQ (i+1) μ a'->kr aI T9 Post S O μ (Uf ((base 78).at a' [.code (dn U2),.inLoop (dn U2),.inBlock 0,.code (gU U2)]) cs) w):
 kr aI T9 Post S O μ (Uf ((base 78).at a [.code (dn U2),.inLoop (dn U2),.inBlock 0,.code (gU U2)]) cs) w:=by
 obtain⟨b,D,p,L,H,B,C,F,l⟩:=h;have c:=dR aI T9 Post S μ;have J:i<ws.length:=(Uz.1 o).1;have P:=j.mm;refine aS c ?_;refine bq c [0] Y ?_;refine dB c b Y (.bool Z) (jw Y (b.of Y) (b.of Y) (by simp;omega)) λb=>?_;refine ak c ?_;refine aS c ?_;refine dm c Z (b.of Y) ?_;refine ig c ?_;refine aS c ?_;refine gA c ?_;refine aS c ?_;refine bq c [0,1] Y ?_;refine cG c b λb=>?_;refine gW c b λb=>?_;refine ak c ?_;refine aS c ?_;refine bq c [0,1,2,3] Y ?_;refine cG c b λb=>?_;refine cG c b λb=>?_;refine dB c b Y (.pointer (I ⟨wb,0+i*1,K⟩)) (fG Y (b.of Y) (b.of Y) WG Tryz.sizeOf4 J) λb=>?_;refine q9 c b Y (.bool T5) (bY Y (b.of Y) Tryz.isAgg4 (p.low wb j.wl) ((p.Hy.cell (p:=⟨wb,0+i*1,K⟩) j.wl).trans (j.wc i _ o))) λb=>?_;refine ak c ?_;refine dm c T5 (b.of Y) ?_;refine ig c ?_;refine iI c ?_;refine bq c [0,1] Y ?_;refine dB c b Y (.int .i64 ((i+1:Nat):Int)) (nN (j:=1) Y (b.of Y) Y (by omega)) λb=>?_;refine cG c b λb=>?_;refine ak c ?_;refine kU c ?_;have g:ws[i]? ≠I Z:=by rw[o];simp
 refine G _ ⟨(((((b.nil.cons (b.slot 2 _ Y)).cons (b.slot 3 _ Y)).cons (b.slot 4 _ Y)).cons (b.slot 8 _ Y)).cons (b.slot 15 _ Y)).cons (b.slot 16 _ Y),by simp only[put_defers];exact D,p,L,H,B,C,by rw[BM g];exact F,⟨λd v q f=>?_,λu A=>?_,λd t q M f r E=>?_,λd q f=>?_⟩⟩
 ·exact l.mu d v (by rcases Vy d i with h|h;exact h;have:d=i:=(by omega);subst this;exact absurd f g) f
 ·obtain⟨d,m,y,z⟩:=l.no u A;exact⟨d,m,by omega,z⟩
 ·have m:d≠i:=λe=>g (e▸f);have y:t≠i:=λe=>g (e▸r);exact l.inj d t (by omega) (by omega) f r E
 ·have m:d≠i:=λe=>g (e▸f);exact l.lt d (by omega) f
end
section
variable {S O:Nat->Prop}{w0 w w':F}{s:Nat->ByteArray}{k e:Nat->Int}{N cb n cap kb nk ck eb ne ce wb gT:Nat}{x:U}{ws:List Bool}{V:Nat->List aD}{ch:Nat->Nat}{bb fb cQ i:Nat}{μ:Nat->Option (List U)}{a:V5}{Post:U->F->Prop}{cs:List Us}{kk:List WM}
def go_region{c:Nat}{l0:List (Nat×U)}(t:Fi S w0 s k e N cb n kb nk eb ne wb ws V)(z:ws[i]? =I Z)
 (q:Knows a 73 ((9,.int .i64 (i:Int))::(8,.slice (I ⟨cQ,0,K⟩) ws.length ws.length)::(4,.pointer (I ⟨fb,0,K⟩))::(3,.pointer (I ⟨bb,0,K⟩))::l0))
 (m:q8 S O w0 w N cb n cap kb nk ck eb ne ce x bb fb) (aa:O cQ) (P:O c) (Q:aM w cQ (0+i*1) (.chan (I c))) (ae:μ c=K) (R:w.heap[c]? =I (.chan N #[] T5 0 0 T5))
 (T:∀a',Knows a' 73 (S7 cQ fb bb i c N cb n cap kb nk ck eb ne ce ws.length x++((9,.int .i64 (i:Int))::(8,.slice (I ⟨cQ,0,K⟩) ws.length ws.length)::(4,.pointer (I ⟨fb,0,K⟩))::(3,.pointer (I ⟨bb,0,K⟩))::l0))->a'.defers=a.defers->
   kr aI T9 Post S (λb=>O b/\b≠c) (gb μ c (I ((V i).map aD.agg))) (Uf ((base 78).at a' kk) cs) w):
 kr aI T9 Post S O μ (Uf ((base 78).at a (.code (.region 7 (AT U2) Z)::kk)) cs) w:=by
 have u:=dR aI T9 Post S μ;have W:i<ws.length:=(Uz.1 z).1;have H:w.rangeAt bb 0 [VY .i64 (N:Int),.slice (I ⟨cb,0,K⟩) n cap]:=λd v l=>by unfold Ur;simp only[m.hb];rw[UT];simpa using l
 have J:w.rangeAt fb 0 [Vg (I ⟨kb,0,K⟩) nk ck,.slice (I ⟨eb,0,K⟩) ne ce,x]:=λd v l=>by unfold Ur;simp only[m.hf];rw[UT];simpa using l
 refine qB (Ph:=λi=>decide (i<7)) (l:=S7 cQ fb bb i c N cb n cap kb nk ck eb ne ce ws.length x) u qZ ?_;refine kL (u:=7) u (by decide) q Ib ?_ ?_ ?_
 ·intro f d j ab _ _ g;have l:d<7:=by simpa using ab
  have:d=0\/d=1\/d=2\/d=3\/d=4\/d=5\/d=6:=by omega
  rcases this with rfl|rfl|rfl|rfl|rfl|rfl|rfl
  ·cases(show I _=I j from g);exact⟨_,rfl,.inl ⟨rfl,cy (cg Y (f.of Y))⟩⟩
  ·cases(show I _=I j from g);exact⟨_,rfl,.inl ⟨rfl,cy (cg Y (f.of Y))⟩⟩
  ·cases(show I _=I j from g);exact⟨_,rfl,.inl ⟨rfl,cy (fG Y (f.of Y) (f.of Y) Tryz.underlying192 Tryz.sizeOf193 W)⟩⟩
  ·cases(show I _=I j from g);exact⟨_,rfl,.inl ⟨rfl,bY Y (f.of Y) Tryz.isAgg193 (.inr aa) Q⟩⟩
  ·cases(show I _=I j from g);exact⟨_,rfl,.inl ⟨rfl,fh (cs:=[VY .i64 (N:Int),.slice (I ⟨cb,0,K⟩) n cap]) Y (f.of Y) V7 Y nV (.inr m.ob) H⟩⟩
  ·cases(show I _=I j from g);exact⟨_,rfl,.inl ⟨rfl,fh (cs:=[Vg (I ⟨kb,0,K⟩) nk ck,.slice (I ⟨eb,0,K⟩) ne ce,x]) Y (f.of Y) Tryz.underlying105 Y AR (.inr m.of) J⟩⟩
  ·cases(show I _=I j from g);exact⟨_,rfl,.inl ⟨rfl,cy (cg Y (f.of Y))⟩⟩
 ·intro j g al ap ao b y A am p _;have f:=q.fill (S7 cQ fb bb i c N cb n cap kb nk ck eb ne ce ws.length x) Y;have r:=gF (Dn:=λi=>decide (i<=7)) y A OV (λd l=>by
   have:d<=7:=by simpa using l
   show d<8;omega)
  cases(show I _=I j from g);obtain⟨L,M⟩:=n8 y A rfl q.size Ib (λd l=>r d (by
   have:d<8:=l;simp;omega))
  have D:b.eval (.tmp 32)= .chan (I c):=(p 32 (by decide)).trans (f.slot 32 _ Y);have E:b.eval (.tmp 33)=oZ (N:Int) cb n cap:=(p 33 (by decide)).trans (f.slot 33 _ Y);have F:b.eval (.tmp 34)=o5 kb nk ck eb ne ce x:=(p 34 (by decide)).trans (f.slot 34 _ Y);have G:b.eval (.tmp 35)= .int .i64 (i:Int):=(p 35 (by decide)).trans (f.slot 35 _ Y);obtain⟨ad,X,C⟩:=t.sin i z;refine Pd (args:= #[.chan (I c),oZ (N:Int) cb n cap,o5 kb nk ck eb ne ce x,.int .i64 (i:Int)]) (vs:=(V i).map aD.agg) (cap:=N) (by decide) g Y Y (by simp only[List.map_toArray,Xw,List.map_nil,D,E,F,G]) P ?_ ae R (λar B=>?_) ?_
  ·rw[UG];rcases C.len with h|h
   ·omega
   ·rw[h];exact UE _
  ·refine Ny C X ⟨λb o=>⟨Uc (m.inr b (.inl o)) B.size,λh=>h⟩,λb h=>h.elim⟩ (ad.rel λb o=>?_);rw[B.at_ b (.inl o)];exact m.Hy.block b (t.sz b o)
  ·rw[M];show kr _ _ Post S _ _ (Uf ((base 78).at b _) cs) w;rw[L];exact ak (dR aI T9 Post S _) (T _ f (ey _ _))
 ·intro r;exact absurd (r 7 (by decide)) (by decide)
def go_round(r:Fi S w0 s k e N cb n kb nk eb ne wb ws V)(h:IU S O w0 w N cb n cap kb nk ck eb ne ce x wb gT ws V ch bb fb cQ i μ a)(t:ws[i]? =I Z)
 (aw:∀F w' a' W U,IU S F w0 w' N cb n cap kb nk ck eb ne ce x wb gT ws V W bb fb cQ (i+1) U a'->kr aI T9 Post S F U (Uf ((base 78).at a' [.code (dn U2),.inLoop (dn U2),.inBlock 0,.code (gU U2)]) cs) w'):
 kr aI T9 Post S O μ (Uf ((base 78).at a [.code (dn U2),.inLoop (dn U2),.inBlock 0,.code (gU U2)]) cs) w:=by
 obtain⟨b,ap,j,u,M,H,J,au,l⟩:=h;have c:=dR aI T9 Post S μ;have D:i<ws.length:=(Uz.1 t).1;have bc:=r.mm;have bd:=r.nn;obtain⟨bi,av,_,_,am⟩:=xz;refine aS c ?_;refine bq c [0] Y ?_;refine dB c b Y (.bool Z) (jw Y (b.of Y) (b.of Y) (by simp;omega)) λb=>?_;refine ak c ?_;refine aS c ?_;refine dm c Z (b.of Y) ?_;refine ig c ?_;refine aS c ?_;refine gA c ?_;refine aS c ?_;refine bq c [0,1] Y ?_;refine cG c b λb=>?_;refine gW c b λb=>?_;refine ak c ?_;refine aS c ?_;refine bq c [0,1,2,3] Y ?_;refine cG c b λb=>?_;refine cG c b λb=>?_;refine dB c b Y (.pointer (I ⟨wb,0+i*1,K⟩)) (fG Y (b.of Y) (b.of Y) WG Tryz.sizeOf4 D) λb=>?_;refine q9 c b Y (.bool Z) (bY Y (b.of Y) Tryz.isAgg4 (j.low wb r.wl) ((j.Hy.cell (p:=⟨wb,0+i*1,K⟩) r.wl).trans (r.wc i _ t))) λb=>?_;refine ak c ?_;refine dm c Z (b.of Y) ?_;refine aS c ?_;refine bq c [0,1,2,3,4,5,6] Y ?_;refine cG c b λb=>?_;refine cG c b λb=>?_;refine dB c b Y (.pointer (I ⟨bb,0,K⟩)) (di (off':=0) Y (b.of Y) V7 Y X5 Y) λb=>?_;refine q9 c b Y (.int .i64 (N:Int)) (bY Y (b.of Y) Yv (.inr j.ob) (by unfold Ur;simp only[j.hb];rfl)) λb=>?_;refine mA c j.inr (by decide) Y Y (.chan N #[] T5 0 0 T5) trivial (λn=>.chan (I n)) (Ef Y (b.of Y) Tryz.underlying193 av (by omega) (by rw[am];omega)) λf bm a0 a3 hrel al=>?_;replace b:=b.put (d:=27) (by decide) (.chan (I f));have P:=j.new a0 a3 hrel;refine dB c b Y (.pointer (I ⟨cQ,0+i*1,K⟩)) (fG Y (b.of Y) (b.of Y) Tryz.underlying192 Tryz.sizeOf193 D) λb=>?_;have a9:=j.inr cQ (.inr u);have L:f≠cQ:=by omega
 have X:(eD ws ch i).toArray.toList.take (0+i*1)++(Value.chan (I f)).cells.toList++(eD ws ch i).toArray.toList.drop (0+i*1+(Value.chan (I f)).cells.size)=eD ws (λd=>if d=i then f else ch d) (i+1):=by
  rw[<-Dv t f];simp[WH]
 refine r8 c P.inr (n:=cQ) (by decide) Y Y (.inl u) (.cells ((eD ws ch i).toArray.toList.take (0+i*1)++(Value.chan (I f)).cells.toList++(eD ws ch i).toArray.toList.drop (0+i*1+(Value.chan (I f)).cells.size)).toArray 193) trivial (kY (n:=cQ) (off:=0+i*1) (v:=.chan (I f)) Y (b.of Y) (b.of Y) Jc (λbl Q=>by simp[WH] at Q;rw[Q];rfl) (Or.inr (Or.inl u)) ((hrel.at_ cQ (.inr u)).trans au) (by
  show 0+i*1+1<=(eD ws ch i).length;rw[dQ];omega)) λT v=>?_
 rw[X] at v;replace b:=b.none Vk;have A:=P.set v H J M;refine ak c ?_;have ao:T.heap[f]? =I (.chan N #[] T5 0 0 T5):=(v.at_ f (.inr (.inr Y)) L).trans al;have a4:μ f=K:=by
  cases az:μ f with
  |none=>rfl
  |some bj=>
   obtain⟨d,_,z,m,y⟩:=l.no f (by rw[az];simp);have:=l.lt d z m;omega
 have be:=v.size;refine go_region (c:=f) (l0:=[(16,.int .i64 (i:Int)),(15,.int .i64 (ws.length:Int)),(2,.slice (I ⟨wb,0,K⟩) ws.length gT)]) r t ((((((((b.nil.cons (b.slot 2 _ Y)).cons (b.slot 15 _ Y)).cons (b.slot 16 _ Y)).cons (b.slot 3 _ Y)).cons (b.slot 4 _ Y)).cons (b.slot 8 _ Y)).cons (b.slot 9 _ Y))) A (.inl u) (.inr Y) ?_ a4 ao λa' g ar=>?_
 ·unfold Ur;rw[v.set];simp only[UT,Nat.mul_one];have:=mD (ws:=ws) (ch:=λd=>if d=i then f else ch d) (i:=i+1) D;simp[t] at this;simpa using this
 ·have c:=dR aI T9 Post S (gb μ f (I ((V i).map aD.agg)));refine iI c ?_;refine bq c [0,1] Y ?_;refine dB c g Y (.int .i64 ((i+1:Nat):Int)) (nN (j:=1) Y (g.of Y) Y (by omega)) λg=>?_;refine cG c g λg=>?_;refine ak c ?_;refine kU c ?_;refine aw _ T _ (λd=>if d=i then f else ch d) _ ⟨(((((g.nil.cons (g.slot 2 _ Y)).cons (g.slot 3 _ Y)).cons (g.slot 4 _ Y)).cons (g.slot 8 _ Y)).cons (g.slot 15 _ Y)).cons (g.slot 16 _ Y),by simp only[put_defers];rw[ar];simp only[put_defers];exact ap,?_,⟨.inl u,λe=>L e.symm⟩,M,H,J,v.set,⟨λd aa z m=>?_,λG C=>?_,λd E z ba m R y=>?_,λd z m=>?_⟩⟩
  ·have a5:=j.inr bb (.inr j.ob);have a6:=j.inr fb (.inr j.of);have a7:=j.Hy.size;exact A.rel (λp o _ _=>rfl) (λp o=>rfl) (T6 _) rfl rfl rfl (λp o=>A.inr p (o.imp (λh=>h) (λh=>h.1))) (λp o h=>⟨o,by rcases h with h|rfl|rfl<;>omega⟩) (λp o a2=>A.ri p o a2.1)
  ·by_cases e:d=i
   ·subst e;simp[gb]
   ·have:=l.lt d (by omega) m;have a1:ch d≠f:=by omega
    simp only[if_neg e,gb,a1,if_false];exact l.mu d aa (by omega) m
  ·by_cases e:G=f
   ·subst e;exact⟨i,UE _,by omega,t,by simp⟩
   ·unfold gb at C;rw[if_neg e] at C;obtain⟨d,ab,a8,ad,ae⟩:=l.no G C;exact⟨d,ab,by omega,ad,by rw[if_neg (by omega)];exact ae⟩
  ·by_cases q:d=i<;>by_cases B:E=i
   ·omega
   ·rw[if_pos q,if_neg B] at y;have:=l.lt E (by omega) R;omega
   ·rw[if_neg q,if_pos B] at y;have:=l.lt d (by omega) m;omega
   ·rw[if_neg q,if_neg B] at y;exact l.inj d E (by omega) (by omega) m R y
  ·by_cases q:d=i
   ·rw[if_pos q];omega
   ·rw[if_neg q];have:=l.lt d (by omega) m;omega
end
def fp (ws:List Bool)(g:Nat->Nat)(V:Nat->List aD)(N:Nat)(i:Nat):List U:=(UK ws.length).map λa=>if a<i/\ws[a]? =I Z then .slice (I ⟨g a,0,K⟩) (V a).length N else aO
def dV(ws:List Bool)(g:Nat->Nat)(V:Nat->List aD)(N:Nat)(i:Nat):(fp ws g V N i).length=ws.length:=by simp[fp]
def mJ{ws:List Bool}{g:Nat->Nat}{V:Nat->List aD}{N:Nat}{i j:Nat}(a:j<ws.length):(fp ws g V N i)[j]? =I (if j<i/\ws[j]? =I Z then .slice (I ⟨g j,0,K⟩) (V j).length N else aO):=by
 simp[fp,a]
section
variable {ws:List Bool}{g:Nat->Nat}{V:Nat->List aD}{N i:Nat}
def B7(h:ws[i]? ≠I Z):fp ws g V N (i+1)=fp ws g V N i:=by
 unfold fp;refine List.map_congr_left λa e=>?_;by_cases c:a=i
 ·subst c;simp[h]
 ·have:(a<i+1/\ws[a]? =I Z)↔(a<i/\ws[a]? =I Z):=by
   constructor
   ·rintro⟨d,b⟩;exact⟨by omega,b⟩
   ·rintro⟨d,b⟩;exact⟨by omega,b⟩
  simp only[this]
def D3(h:ws[i]? =I Z)(c:Nat):(fp ws g V N i).take i++[Vg (I ⟨c,0,K⟩) (V i).length N]++(fp ws g V N i).drop (i+1)=fp ws (λj=>if j=i then c else g j) V N (i+1):=by
 have l:i<ws.length:=(Uz.1 h).1;apply List.ext_getElem?;intro j;rcases Vy j ws.length with a|a
 ·rw[mJ a];rcases Nat.lt_trichotomy j i with b|b|b
  ·rw[UC,Vw (by simp[dV];omega),V8,if_pos b,mJ a];have e:(j<i+1/\ws[j]? =I Z)↔(j<i/\ws[j]? =I Z):=⟨λh=>⟨b,h.2⟩,λh=>⟨by omega,h.2⟩⟩;have d:¬j=i:=by omega
   simp only[e,d,if_false]
  ·subst b;rw[UC,Vo (by simp[dV];omega)];simp[dV,h,Nat.min_eq_left (Nat.le_of_lt a)]
  ·rw[Vo (by simp[dV];omega)];have f:i+1+(j-(min i ws.length+1))=j:=by omega
   simp only[T8,Vs,dV,VI,XH,List.getElem?_drop,f,mJ a];have d:¬(j<i):=by omega
   have k:¬(j<i+1):=by omega
   simp only[d,k,false_and,if_false]
 ·rw[List.getElem?_eq_none (by simp[dV];omega),List.getElem?_eq_none (by rw[dV];exact a)]
end
def nj (fn:WC):WU:=match gU fn with
 | .seq _ (.seq _ (.seq (.seq _ (.block _ (.loop a))) _))=>a
 |_=>.skip
def FW (fn:WC):WU:=match gU fn with
 | .seq _ (.seq _ (.seq _ a))=>a
 |_=>.skip
def gB (fn:WC):Array Vu:=match nj fn with
 | .seq _ (.seq _ (.seq (.block _ (.seq _ (.seq _ (.cond _ (.seq (.region _ a _) _) _)))) _))=>a
 |_=> #[]
def yH (fn:WC):Array Vu:=match nj fn with
 | .seq _ (.seq _ (.seq (.block _ (.seq _ (.seq _ (.cond _ (.seq _ (.region _ a _)) _)))) _))=>a
 |_=> #[]
def LG:List Nat:=[49,50,51,52,53,54,55,56]
def AG (lb cQ bb i c N m:Nat):List (Nat×U):=[(49,.slice (I ⟨lb,0,K⟩) m m),(50,.int .i64 (i:Int)),(51,.slice (I ⟨cQ,0,K⟩) m m),(52,.int .i64 (i:Int)),(53,.pointer (I ⟨cQ,0+i*1,K⟩)),(54,.chan (I c)),(55,.pointer (I ⟨bb,0,K⟩)),(56,.int .i64 (N:Int))]
def Dp (lb gn len i N:Nat):List (Nat×U):=[(57,.slice (I ⟨gn,0,K⟩) len N),(58,.pointer (I ⟨lb,0+i*1,K⟩))]
def AH:gD (gB U2) (λi=>decide (i<8)) 8 73 LG=Z:=by kernel_rfl
def AI:gD (gB U2) (λi=>decide (i<10)) 10 73 ([57,58]++LG)=Z:=by kernel_rfl
def LH:((UK (gB U2).size).all λi=> !(λi=>decide (i<8)) i||match je (gB U2) i with|some d=> !([57,58]:List Nat).contains d|none=>Z)=Z:=by kernel_rfl
def FE:((UK (gB U2).size).all λi=> !(λi=>decide (2<=i/\i<=8)) i||i==8||(under (gB U2) (gB U2).size (match (gB U2)[8]? with
 |some o=>(o.after.toList.filter λe=>Vn .any e).map (·.on)
 |none=>[])).contains i)=Z:=by kernel_rfl
def FF:((UK (gB U2).size).all λi=> !(λi=>decide (i<=10)) i||i==10||(under (gB U2) 3 (match (gB U2)[10]? with
 |some o=>(o.after.toList.filter λe=>Vn .any e).map (·.on)
 |none=>[])).contains i)=Z:=by kernel_rfl
def KZ:(XP.name == "runtime.NumGoroutine")=T5:=by kernel_rfl
def JN:(T9.info? 43).map (·.size)=I 1:=by kernel_rfl
section
variable {S O:Nat->Prop}{w0 w w':F}{s:Nat->ByteArray}{k e:Nat->Int}{N cb n cap kb nk ck eb ne ce wb gT:Nat}{x:U}{ws:List Bool}{V:Nat->List aD}{ch:Nat->Nat}{bb fb cQ lb i:Nat}{μ:Nat->Option (List U)}{a:V5}{Post:U->F->Prop}{cs:List Us}{kk:List WM}
def q8.Sn(h:q8 S O w0 w N cb n cap kb nk ck eb ne ce x bb fb){f:Nat->Prop}(c:Lh S O f w w'):q8 S f w0 w' N cb n cap kb nk ck eb ne ce x bb fb:=
 h.rel (λb d _ _=>c.rel.at_ b d) (λb d=>c.rel.at_ b (h.low b d)) c.rel.size c.rel.tape c.rel.os c.rel.output c.inr (λb d _=>c.sub b d) (λb d g=>(c.new b g).elim (h.ri b d) (λe=>by have:=h.inr b (.inl d);omega))
def Dq{c gn:Nat}{l0:List (Nat×U)}{f:Array U}(M:i<ws.length)
 (p:Knows a 73 ((10,.int .i64 (i:Int))::(8,.slice (I ⟨cQ,0,K⟩) ws.length ws.length)::(6,.slice (I ⟨lb,0,K⟩) ws.length ws.length)::(3,.pointer (I ⟨bb,0,K⟩))::l0))
 (H:tP S O w) (z:O lb) (L:w.heap[lb]? =I (.cells f 43 (0,0))) (G:f.size=ws.length) (len:Nat)
 (m t:Nat) (j:Array Bool) (b:V5) (o:cH (gB U2) (λi=>decide (i<10)) a (fill a (Dp lb gn len i N++AG lb cQ bb i c N ws.length)) j b) (u:∀i,(λi=>decide (2<=i/\i<=8)) i=Z->j.getD i T5=Z) (y:E4 j<=m)
 (J:∀w' a',zV S O lb (.cells (f.toList.take i++[Vg (I ⟨gn,0,K⟩) len N]++f.toList.drop (i+1)).toArray 43) w w'->Knows a' 73 (Dp lb gn len i N++AG lb cQ bb i c N ws.length++((10,.int .i64 (i:Int))::(8,.slice (I ⟨cQ,0,K⟩) ws.length ws.length)::(6,.slice (I ⟨lb,0,K⟩) ws.length ws.length)::(3,.pointer (I ⟨bb,0,K⟩))::l0))->a'.defers=a.defers->
   kr aI T9 Post S O μ (Uf ((base 78).at a' kk) cs) w'):
 kr aI T9 Post S O μ (Uf ((base 78).at b (.inRegion (gB U2) (U9 .any (gB U2) m t j [])::kk)) cs) w:=by
 have q:=dR aI T9 Post S μ;refine kL (Dn:=λi=>decide (2<=i/\i<=8)) (u:=10) q (by decide) p AI ?_ ?_ ?_ m t j b o u y
 ·intro g d l P u W h;have R:d<10:=by simpa using P
  have T:¬(2<=d/\d<=8):=by simpa using u
  have:d=0\/d=1\/d=9:=by omega
  rcases this with rfl|rfl|rfl
  ·cases(show I _=I l from h);exact⟨_,rfl,.inl ⟨rfl,cy (cg Y (g.of Y))⟩⟩
  ·cases(show I _=I l from h);exact⟨_,rfl,.inl ⟨rfl,cy (cg Y (g.of Y))⟩⟩
  ·cases(show I _=I l from h);exact⟨_,rfl,.inl ⟨rfl,cy (fG Y (g.of Y) (g.of Y) Tryz.underlying26 Tryz.sizeOf43 M)⟩⟩
 ·intro l h m t j b o A y X _;have g:=p.fill (Dp lb gn len i N++AG lb cQ bb i c N ws.length) Y;have r:=gF (Dn:=λi=>decide (i<=10)) o A FF (λd v=>by
   have:d<=10:=by simpa using v
   show d<11;omega)
  cases(show I _=I l from h);obtain⟨E,F⟩:=n8 o A rfl p.size AI (λd v=>r d (by
   have:d<11:=v;simp;omega))
  rw[F];subst E;refine r8 q H (n:=lb) (by decide) h Y z (.cells (f.toList.take (0+i*1)++(Vg (I ⟨gn,0,K⟩) len N).cells.toList++f.toList.drop (0+i*1+(Vg (I ⟨gn,0,K⟩) len N).cells.size)).toArray 43) trivial (kY (n:=lb) (off:=0+i*1) (v:=.slice (I ⟨gn,0,K⟩) len N) Y (g.of Y) (g.of Y) JN (λaa C=>by simp[WH] at C;rw[C];rfl) (Or.inr z) L (by
   show 0+i*1+1<=f.size;rw[G];omega)) λQ B=>?_
  refine ak q (J Q _ ?_ (g.none Vk) (by rw[put_defers];exact ey _ _));have D:f.toList.take (0+i*1)++(Vg (I ⟨gn,0,K⟩) len N).cells.toList++f.toList.drop (0+i*1+(Vg (I ⟨gn,0,K⟩) len N).cells.size)=f.toList.take i++[Vg (I ⟨gn,0,K⟩) len N]++f.toList.drop (i+1):=by simp[WH]
  rw[D] at B;exact B
 ·intro r;exact absurd (r 10 (by decide)) (by decide)
def Dr{c:Nat}{l0:List (Nat×U)}{o:Array U}(z:Fi S w0 s k e N cb n kb nk eb ne wb ws V)(A:ws[i]? =I Z)
 (m:Knows a 73 ((10,.int .i64 (i:Int))::(8,.slice (I ⟨cQ,0,K⟩) ws.length ws.length)::(6,.slice (I ⟨lb,0,K⟩) ws.length ws.length)::(3,.pointer (I ⟨bb,0,K⟩))::l0))
 (v:q8 S O w0 w N cb n cap kb nk ck eb ne ce x bb fb) (am:O cQ) (P:aM w cQ (0+i*1) (.chan (I c))) (av:μ c=I ((V i).map aD.agg)) (D:O lb) (al:w.heap[lb]? =I (.cells o 43 (0,0))) (Q:o.size=ws.length)
 (ad:∀j l w' gn a',w.heap.size<=gn->Row l gn N (V i)->j gn->Lh S O j w l->zV S j lb (.cells (o.toList.take i++[Vg (I ⟨gn,0,K⟩) (V i).length N]++o.toList.drop (i+1)).toArray 43) l w'->Knows a' 73 (Dp lb gn (V i).length i N++AG lb cQ bb i c N ws.length++((10,.int .i64 (i:Int))::(8,.slice (I ⟨cQ,0,K⟩) ws.length ws.length)::(6,.slice (I ⟨lb,0,K⟩) ws.length ws.length)::(3,.pointer (I ⟨bb,0,K⟩))::l0))->a'.defers=a.defers->
   kr aI T9 Post S j (gb μ c K) (Uf ((base 78).at a' kk) cs) w'):
 kr aI T9 Post S O μ (Uf ((base 78).at a (.code (.region 15 (gB U2) Z)::kk)) cs) w:=by
 have t:=dR aI T9 Post S μ;have C:i<ws.length:=(Uz.1 A).1;obtain⟨_,_,ar⟩:=z.sin i A;refine qB (Ph:=λi=>decide (i<8)) (l:=AG lb cQ bb i c N ws.length) t qZ ?_;refine kL (u:=8) t (by decide) m AH ?_ ?_ ?_
 ·intro f b g ao _ _ d;have q:b<8:=by simpa using ao
  have:b=0\/b=1\/b=2\/b=3\/b=4\/b=5\/b=6\/b=7:=by omega
  rcases this with rfl|rfl|rfl|rfl|rfl|rfl|rfl|rfl
  ·cases(show I _=I g from d);exact⟨_,rfl,.inl ⟨rfl,cy (cg Y (f.of Y))⟩⟩
  ·cases(show I _=I g from d);exact⟨_,rfl,.inl ⟨rfl,cy (cg Y (f.of Y))⟩⟩
  ·cases(show I _=I g from d);exact⟨_,rfl,.inl ⟨rfl,cy (cg Y (f.of Y))⟩⟩
  ·cases(show I _=I g from d);exact⟨_,rfl,.inl ⟨rfl,cy (cg Y (f.of Y))⟩⟩
  ·cases(show I _=I g from d);exact⟨_,rfl,.inl ⟨rfl,cy (fG Y (f.of Y) (f.of Y) Tryz.underlying192 Tryz.sizeOf193 C)⟩⟩
  ·cases(show I _=I g from d);exact⟨_,rfl,.inl ⟨rfl,bY Y (f.of Y) Tryz.isAgg193 (.inr am) P⟩⟩
  ·cases(show I _=I g from d);exact⟨_,rfl,.inl ⟨rfl,cy (di (off':=0) Y (f.of Y) V7 Y X5 Y)⟩⟩
  ·cases(show I _=I g from d);exact⟨_,rfl,.inl ⟨rfl,bY Y (f.of Y) Yv (.inr v.ob) (by unfold Ur;simp only[v.hb];rfl)⟩⟩
 ·intro g d H aw a1 r u y a0 B _;have f:=m.fill (AG lb cQ bb i c N ws.length) Y;have W:=gF (Dn:=λi=>decide (2<=i/\i<=8)) u y FE (λb q=>by
   have:2<=b/\b<=8:=by simpa using q
   show b<11;omega)
  cases(show I _=I g from d);have F:r.eval (.tmp 54)= .chan (I c):=(B 54 (by decide)).trans (f.slot 54 _ Y);have G:r.eval (.tmp 56)= .int .i64 (N:Int):=(B 56 (by decide)).trans (f.slot 56 _ Y);refine HJ t (by decide) d Y Y Tryz.func117 KZ Y ?_;have M:(#[Operand.tmp 54,.tmp 56].map r.eval)=#[.chan (I c),.int .i64 (N:Int)]:=by simp only[List.map_toArray,Xw,List.map_nil,F,G]
  rw[M];refine LM (r:=V i) d v.inr av ?_ z.nn λj l gn aa ap J p=>?_
  ·rcases ar.len with h|h
   ·omega
   ·rw[h];exact UE _
  ·have X:=u.Ic (l2:=Dp lb gn (V i).length i N) (La:=λi=>decide (i<10)) (n:=73) (v:=.slice (I ⟨gn,0,K⟩) (V i).length N) y d m.size AH Y (λb q=>by
    have:b<8:=by simpa using q
    simp;omega) Y LH (λaz R=>by cases R;rfl)
   refine Dq (gn:=gn) (len:=(V i).length) (c:=c) C m p.inr (p.sub lb D) ((p.rel.at_ lb (.inr D)).trans al) Q H aw _ _ X W ?_ λw' a' au E T=>ad j l w' gn a' aa ap J p au E T;obtain⟨_,_,ab,ae,_⟩:=mem_ready y;have:=qX (by rw[u.size];exact ab) ae;omega
 ·intro L;exact absurd (L 10 (by decide)) (by decide)
end
def Rj:List Nat:=[59,60,61,62,63,64,65,66,67,68,69]
def SS (lb bb gn i len N m:Nat):List (Nat×U):=[(59,.bool Z),(60,.bool Z),(61,.slice (I ⟨lb,0,K⟩) m m),(62,.int .i64 (i:Int)),(63,.pointer (I ⟨lb,0+i*1,K⟩)),(64,.slice (I ⟨gn,0,K⟩) len N),(65,.int .i64 (len:Int)),(66,.pointer (I ⟨bb,0,K⟩)),(67,.int .i64 (N:Int)),(68,.bool ((len:Int)==(N:Int))),(69,.bool ((len:Int)==(N:Int)))]
def okF:List (Nat×U):=[(59,.bool T5),(60,.bool T5),(61,Vk),(62,Vk),(63,Vk),(64,Vk),(65,Vk),(66,Vk),(67,Vk),(68,Vk),(69,.bool T5)]
def xu:gD (yH U2) (λi=>decide (i<11)) 11 73 Rj=Z:=by kernel_rfl
def Eb:((UK (yH U2).size).all λi=> !(λi=>decide (i<=11)) i||i==11||(under (yH U2) 1 (match (yH U2)[11]? with
 |some o=>(o.after.toList.filter λe=>Vn .any e).map (·.on)
 |none=>[])).contains i)=Z:=by kernel_rfl
section
variable {S O:Nat->Prop}{w0 w w':F}{s:Nat->ByteArray}{k e:Nat->Int}{N cb n cap kb nk ck eb ne ce wb gT:Nat}{x:U}{ws:List Bool}{V:Nat->List aD}{ch g:Nat->Nat}{bb fb cQ lb i gn len:Nat}{μ:Nat->Option (List U)}{a:V5}{Post:U->F->Prop}{cs:List Us}{kk:List WM}{lz:Bool}
def Ee{l0:List (Nat×U)}(F:i<ws.length)
 (o:Knows a 73 ((7,.bool lz)::(10,.int .i64 (i:Int))::(6,.slice (I ⟨lb,0,K⟩) ws.length ws.length)::(3,.pointer (I ⟨bb,0,K⟩))::l0)) (P:tP S O w) (J:O lb) (H:O bb) (C:aM w lb (0+i*1) (.slice (I ⟨gn,0,K⟩) len N)) (D:aM w bb 0 (.int .i64 (N:Int)))
 (y:∀a' z,Knows a' 73 ((7,.bool (lz&&((len:Int)==(N:Int))))::(z++((7,.bool lz)::(10,.int .i64 (i:Int))::(6,.slice (I ⟨lb,0,K⟩) ws.length ws.length)::(3,.pointer (I ⟨bb,0,K⟩))::l0)))->z.map (·.1)=Rj->a'.defers=a.defers->
   kr aI T9 Post S O μ (Uf ((base 78).at a' kk) cs) w):
 kr aI T9 Post S O μ (Uf ((base 78).at a (.code (.region 16 (yH U2) Z)::kk)) cs) w:=by
 have l:=dR aI T9 Post S μ;cases lz with
 |true=>
  refine qB (Ph:=λi=>decide (i<11)) (l:=SS lb bb gn i len N ws.length) l qZ ?_;refine kL (u:=11) l (by decide) o xu ?_ ?_ ?_
  ·intro f b c v _ _ d;have j:b<11:=by simpa using v
   have h:∀c:Vu,c.guard=I (1,Z)->UF c (Vj (yH U2) (fill a (SS lb bb gn i len N ws.length)).tmps)=Z:=λc u=>oV (d:=60) (b:=Z) u Y (f.slot 60 _ Y) (by rw[f.size];decide);have:b=0\/b=1\/b=2\/b=3\/b=4\/b=5\/b=6\/b=7\/b=8\/b=9\/b=10:=by omega
   rcases this with rfl|rfl|rfl|rfl|rfl|rfl|rfl|rfl|rfl|rfl|rfl
   ·cases(show I _=I c from d);exact⟨_,rfl,.inl ⟨rfl,cy (cg Y (f.of Y))⟩⟩
   ·cases(show I _=I c from d);exact⟨_,rfl,.inl ⟨rfl,cy (cg Y (f.of Y))⟩⟩
   ·cases(show I _=I c from d);exact⟨_,rfl,.inl ⟨h _ Y,cy (cg Y (f.of Y))⟩⟩
   ·cases(show I _=I c from d);exact⟨_,rfl,.inl ⟨h _ Y,cy (cg Y (f.of Y))⟩⟩
   ·cases(show I _=I c from d);exact⟨_,rfl,.inl ⟨h _ Y,cy (fG Y (f.of Y) (f.of Y) Tryz.underlying26 Tryz.sizeOf43 F)⟩⟩
   ·cases(show I _=I c from d);exact⟨_,rfl,.inl ⟨h _ Y,bY Y (f.of Y) Tryz.isAgg43 (.inr J) C⟩⟩
   ·cases(show I _=I c from d);exact⟨_,rfl,.inl ⟨h _ Y,cy (sj Y (f.of Y) Wz)⟩⟩
   ·cases(show I _=I c from d);exact⟨_,rfl,.inl ⟨h _ Y,cy (di (off':=0) Y (f.of Y) V7 Y X5 Y)⟩⟩
   ·cases(show I _=I c from d);exact⟨_,rfl,.inl ⟨h _ Y,bY Y (f.of Y) Yv (.inr H) D⟩⟩
   ·cases(show I _=I c from d);exact⟨_,rfl,.inl ⟨h _ Y,cy (Rn Y (f.of Y) (f.of Y))⟩⟩
   ·cases(show I _=I c from d);exact⟨_,rfl,.inl ⟨rfl,cy (yL Y (f.of Y) (f.of Y))⟩⟩
  ·intro c d B M L A p q G E _;have f:=o.fill (SS lb bb gn i len N ws.length) Y;have m:=gF (Dn:=λi=>decide (i<=11)) p q Eb (λb j=>by
    have:b<=11:=by simpa using j
    show b<12;omega)
   cases(show I _=I c from d);obtain⟨r,t⟩:=n8 p q rfl o.size xu (λb j=>m b (by
    have:b<12:=j;simp;omega))
   rw[t];subst r;refine mB l (by decide) d Y _ (kE Y (f.of Y)) ?_;refine ak l (y _ (SS lb bb gn i len N ws.length) ?_ Y (by rw[put_defers];exact ey _ _));exact f.put (d:=7) (by decide) (.bool ((len:Int)==(N:Int)))
  ·intro m;exact absurd (m 11 (by decide)) (by decide)
 |false=>
  refine qB (Ph:=λi=>decide (i<11)) (l:=okF) l qZ ?_;refine kL (u:=11) l (by decide) o xu ?_ ?_ ?_
  ·intro f b c v _ _ d;have j:b<11:=by simpa using v
   have h:∀c:Vu,c.guard=I (1,Z)->UF c (Vj (yH U2) (fill a okF).tmps)=T5:=λc u=>oV (d:=60) (b:=T5) u Y (f.slot 60 _ Y) (by rw[f.size];decide);have:b=0\/b=1\/b=2\/b=3\/b=4\/b=5\/b=6\/b=7\/b=8\/b=9\/b=10:=by omega
   rcases this with rfl|rfl|rfl|rfl|rfl|rfl|rfl|rfl|rfl|rfl|rfl
   ·cases(show I _=I c from d);exact⟨_,rfl,.inl ⟨rfl,cy (cg Y (f.of Y))⟩⟩
   ·cases(show I _=I c from d);exact⟨_,rfl,.inl ⟨rfl,cy (cg Y (f.of Y))⟩⟩
   ·cases(show I _=I c from d);exact⟨_,rfl,.inr ⟨h _ Y,rfl⟩⟩
   ·cases(show I _=I c from d);exact⟨_,rfl,.inr ⟨h _ Y,rfl⟩⟩
   ·cases(show I _=I c from d);exact⟨_,rfl,.inr ⟨h _ Y,rfl⟩⟩
   ·cases(show I _=I c from d);exact⟨_,rfl,.inr ⟨h _ Y,rfl⟩⟩
   ·cases(show I _=I c from d);exact⟨_,rfl,.inr ⟨h _ Y,rfl⟩⟩
   ·cases(show I _=I c from d);exact⟨_,rfl,.inr ⟨h _ Y,rfl⟩⟩
   ·cases(show I _=I c from d);exact⟨_,rfl,.inr ⟨h _ Y,rfl⟩⟩
   ·cases(show I _=I c from d);exact⟨_,rfl,.inr ⟨h _ Y,rfl⟩⟩
   ·cases(show I _=I c from d);exact⟨_,rfl,.inl ⟨rfl,cy (yK Y (f.of Y) Y)⟩⟩
  ·intro c d B M L A p q G E _;have f:=o.fill okF Y;have m:=gF (Dn:=λi=>decide (i<=11)) p q Eb (λb j=>by
    have:b<=11:=by simpa using j
    show b<12;omega)
   cases(show I _=I c from d);obtain⟨r,t⟩:=n8 p q rfl o.size xu (λb j=>m b (by
    have:b<12:=j;simp;omega))
   rw[t];subst r;refine mB l (by decide) d Y _ (kE Y (f.of Y)) ?_;refine ak l (y _ okF ?_ Y (by rw[put_defers];exact ey _ _));exact f.put (d:=7) (by decide) (.bool T5)
  ·intro m;exact absurd (m 11 (by decide)) (by decide)
end
end Cc
end Go.Proofs.YtjidbonhhpkljaaGreat
