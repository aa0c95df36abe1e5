/- What the proof stands on, in short names. -/
import Derived.Test.YtjidbonhhpkljaaGreatMc
import Derived.RangeFuncRecord
import Derived.RangeFuncIn
import Derived.Deep.CutRange
set_option linter.all false
open Array renaming getD_eq_getD_getElem?->UD,getElem?_eq_getElem->UU,getElem?_eq_some_iff->Ub,length_toList->V9,replicate->U3
open Bool renaming and_eq_true->Uw,false->T7,false_eq_true->UB,or_eq_true->WT,true->Z
open False renaming elim->Yq
open Go renaming Act->V6,Addr->UJ,Code->WV,Ending->WS,Frame->Ut,Func->WC,FuncId->V1,Item->WM,Oper->Vu,Operand->U6,Program->Uf,Sem->Wu,TypeId->Uh,TypeInfo->Xg,Value->U,World->F,bodyPost->VR,execOp->UH,heap_alloc_new->V4,heap_setCell_other->Uu,heap_setCell_same->Ur,info_parts->Ve,lt_of_block->Ue,maxLen->Uq,results->UX,step_append_lies->WK,undef->Vk,yielded->Vj,zeroValue->Wn
open Go.Act renaming put->UW
open Go.Addr renaming add_lit->VL,add_mid->Xc
open Go.Addr.mk renaming injEq->Wh
open Go.ByteArray renaming toList_eq->XJ
open Go.Conc renaming G->Ug
open Go.Deferred renaming ofValue->XN
open Go.Extern renaming find->YB
open Go.Extern.BytealgCompare renaming compare->Xy
open Go.Extern.Bytes renaming bytesOf->YL,loadBytes->YJ
open Go.Extern.ReflectliteType renaming rows->Yn
open Go.Extern.RuntimeError renaming boundsError->YR,boundsErrorFmts->YO,boundsNegErrorFmts->YM,described->YD,pkgpathOf->YE,rows->Va,text->YI,typeAssertionError->Ys,unhashableTypeError->Yo
open Go.Extern.RuntimeError.boundsError renaming match_1->YK
open Go.Frame renaming enter->UY,finish_at->XG,round->WX
open Go.IntKind renaming i64->XM,u64->Wl,wrap_i64->WY
open Go.Lib renaming size_eq->X4
open Go.Proofs.Tryz renaming f116->VG,f117->XP,f19->Wc,f78->U2,f79->Wy,isAgg3->Yv,prog->T4,sizeOf3->X5,underlying115->WE,underlying139->V7,underlying160->WG,underlying43->Wz
open Go.Region renaming binds->Vn,ready->UZ,wanted->UF
open Go.Region.linearise renaming go->U9
open Go.RowKit renaming intOf->US,wrap64->Vb
open Go.RowKit.Below renaming heap_alloc->UN,refl->Up
open Go.Sem renaming runT_eq->Yd
open Go.Value renaming bool->WN,cells->WH,int->VY,slice->Vg
open Go.Value.slice renaming injEq->VA
open Go.World renaming cell?->Us,frozen?->UQ,news_of_block->VJ,ownsRow_nil->Vp
open Go.World.grownBy renaming block->Wv
open Go.stepG renaming apply->VN
open Int renaming eq_ofNat_of_zero_le->WB
open List renaming all_eq_true->Uz,append_assoc->UC,append_nil->Wr,drop_eq_getElem_cons->Wo,eq_nil_of_length_eq_zero->Vh,flatMap_append->Vi,flatMap_cons->WR,flatMap_singleton->Vc,getD_eq_getElem?_getD->Ui,getElem?_append_left->Vw,getElem?_append_right->Vo,getElem?_eq_getElem->Um,getElem?_eq_some_iff->UA,getElem?_take->V8,getElem_map->Xr,getElem_mem->Uj,getElem_of_mem->Vv,length->XD,length_append->Ua,length_cons->VI,length_drop->Xa,length_eq_zero_iff->We,length_map->UG,length_nil->XH,length_take->Vs,map_append->U0,map_cons->Xw,map_singleton->Wp,mem_cons->VM,mem_map->U7,not_mem_nil->XQ,range->UK,setIfInBounds_toArray->Uc,set_cons_succ->Uk,set_cons_zero->Ul,take_append_drop->Ww,take_length->Vf,take_of_length_le->UO,take_succ_eq_append_getElem->Uo
open List.cons renaming injEq->Xj
open Nat renaming le_refl->T8,le_trans->Uy,lt_of_lt_of_le->Ud,lt_or_ge->Vy,mul_le_mul->Ws,zero_add->UT,zero_le->UE
open Option renaming bind_eq_some_iff->UR,bind_some->XR,getD_some->V2,isNone_iff_eq_none->V0,map_eq_some_iff->Wq,none->K,some->I
open Option.some renaming injEq->U8
open Prod renaming fst->Ux,snd->VU
set_option maxRecDepth 100000
set_option maxHeartbeats 8000000
namespace Go.Proofs.YtjidbonhhpkljaaGreat
namespace Ec
open Go.RowKit Pk Pm
def EF(s:ByteArray)(w:F)(E:s.size<=65536):bH 98 #[.string s] w λe w'=>e= .returned (.string s)/\aP w w':=by
 by_cases j:s.size=0
 ·obtain rfl:s=⟨#[]⟩:=ByteArray.ext (Array.eq_empty_of_size_eq_zero j);go_enter ay.func98,Tryz.ntmps98;go_wp2;go_ret;exact⟨rfl,Up _ _⟩
 ·obtain⟨m,g,x,h,y⟩:=Ve ay.rG;have u:((aB T4).info? 5).map (·.size)=I 1:=by rw[g];simp[h]
  have q:(aB T4).cellsOf 5=1:=by simp[Program.cellsOf,g,h]
  obtain⟨a,d⟩:∃a,a=madeCells (VY .u8 0).cells (((s.size:Nat):Int).toNat*m.size):=⟨_,rfl⟩;have A:a.size=s.size:=by rw[d,size_madeCells,h];simp
  have D:∀c:F,(Instr.makeSlice 133 (.int .i64 (s.size:Int)) (.int .i64 (s.size:Int))).run (aB T4) c= .ok (.slice (I ⟨c.heap.size,0,K⟩) s.size s.size) (c.alloc (.cells a 5)):=λc=>by
   have i:=run_make (P:=(aB T4)) c 133 5 m (.int .u8 0) ay.underlying133 g x .i64 .i64 (s.size:Int) (s.size:Int) (by omega) (by omega) (by rw[y];omega) (by omega);rw[<-d] at i;simpa using i
  clear d;have r:=Lib.run_copy_row_string (P:=(aB T4)) (w.alloc (.cells a 5)) 133 9 3 5 w.heap.size 0 s.size s.size s a 5 ay.underlying133 u (V4 w _) (T8 _) (by omega);obtain⟨b,f⟩:∃b,b=(a.toList.take 0++Lib.byteCells s.data.toList++a.toList.drop (0+s.size)).toArray:=⟨_,rfl⟩;rw[<-f] at r;have k:b.toList=Lib.byteCells s.data.toList:=by
   rw[f,List.toList_toArray,List.take_zero,List.nil_append,List.drop_of_length_le (by rw[V9];omega),Wr]
  have B:b.size=s.size:=by rw[<-V9,k,Lib.byteCells_length,<-X4]
  have l:((w.alloc (.cells a 5)).setRow w.heap.size b).heap[w.heap.size]? =I (.cells b 5 (0,0)):=setRow_heap _ _ a _ 5 (0,0) (V4 w _);have t:s.data.toList≠[]:=λe=>j (by rw[X4,e];rfl);have n:=Lib.run_unsafeString_row (P:=(aB T4)) ((w.alloc (.cells a 5)).setRow w.heap.size b) 206 3 9 5 ay.underlying206 q w.heap.size b.size (by unfold World.shape?;rw[l]) s.data.toList t (by rw[<-X4];omega) (by rw[<-X4];omega)
   (λz H v=>Lib.cells_of_row l b.size z _ (by rw[UO (by rw[V9];exact T8 _),k];simp[Lib.byteCells,v]))
  rw[<-X4] at n;clear f;go_enter ay.func98,Tryz.ntmps98;go_wp2;go_ret;have o:aP w (w.alloc (.cells a 5)):=(Up _ w).alloc (T8 _) _;have p:Below w.heap.size (w.alloc (.cells a 5)) ((w.alloc (.cells a 5)).setRow w.heap.size b):=⟨rfl,rfl,rfl,by simp,λG C=>setRow_other _ _ _ _ (by omega)⟩;exact⟨rfl,Lib.below_freeze (o.trans p) (p:=⟨w.heap.size,0,K⟩) (T8 _) _⟩
def xV(s:ByteArray)(w:F)(b:s.size<=65536):bH 66 #[.string s] w λe w'=>e= .returned (.string s)/\aP w w':=by
 go_enter ay.func66,Tryz.ntmps66
 go_wp2_with fail
 refine(EF s _ b).mono ?_;rintro e w' ⟨rfl,a⟩;go_wp2;go_ret;exact⟨rfl,a⟩
def AG(r p:Nat)(s:ByteArray)(w:F)(d:s.size<=Uq)(f:p<=s.size)(h:w.heap[r]? =I (cg s p)):
 bH 129 #[.pointer (I ⟨r,0,K⟩)] w λe w'=>Kp r w w'/\((∃b:Nat,e= .returned (.int .u8 (b:Int))/\b<256/\ai (bytesOf s) p [b]/\p+1<=s.size/\w'.heap[r]? =I (cg s (p+1)))\/
  (∃q,e= .panicked (eD q)/\∀b:Nat,¬ai (bytesOf s) p [b])):=by
 by_cases a:p<s.size
 ·refine(xf r p s w d a h).mono ?_;rintro e w' ⟨rfl,c,rfl⟩;exact⟨(Kp.refl r w).set 1 _ c,.inl ⟨_,rfl,s[p].toNat_lt,dH.2 (sL s p a),a,lV h c⟩⟩
 ·refine(sM r p s w d a f h).mono ?_;rintro e w' ⟨rfl,c,rfl⟩;refine⟨(Kp.refl r w).drewN c,.inr ⟨_,rfl,λb g=>?_⟩⟩;have:=gJ g (by rw[aj];exact f);rw[aj] at this;simp at this;omega
def Bu(r p c:Nat)(s:ByteArray)(w:F)(f:s.size<=Uq)(g:p<=s.size)(hc:c<=2147483648)(h:w.heap[r]? =I (cg s p)):
 bH 128 #[.pointer (I ⟨r,0,K⟩),.int .i64 (c:Int)] w λe w'=>Kp r w w'/\((∃x:ByteArray,e= .returned (.string x)/\x.size=c/\ai (bytesOf s) p (bytesOf x)/\p+c<=s.size/\w'.heap[r]? =I (cg s (p+c)))\/
  (∃q,e= .panicked (eD q)/\∀d:List Nat,d.length=c->¬ai (bytesOf s) p d)):=by
 by_cases b:p+c<=s.size
 ·refine(E1 r p c s w f b h).mono ?_;rintro e w' ⟨rfl,a,rfl⟩;refine⟨(Kp.refl r w).set 1 _ a,.inl ⟨_,rfl,by rw[ByteArray.size_extract];omega,?_,b,lV h a⟩⟩;rw[dz];exact List.take_prefix _ _
 ·refine(Bt r p c s w f hc b g h).mono ?_;rintro e w' ⟨rfl,a,rfl⟩;refine⟨(Kp.refl r w).drewN a,.inr ⟨_,rfl,λd j i=>?_⟩⟩;have:=gJ i (by rw[aj];exact g);rw[aj] at this;omega
def yj{α d:Type}{f g:α->List d}{l:List α}(h:∀x∈l,f x=g x):l.flatMap f=l.flatMap g:=by
 induction l with
 |nil=>rfl
 |cons x e b=>rw[WR,WR,h x (by simp),b (λc a=>h c (by simp[a]))]
def sE {α:Type}(ok:Nat->α->Prop)(l:List α):Prop:=∀a (b:a<l.length),ok a l[a]
def sE.snoc{α:Type}{ok:Nat->α->Prop}{l:List α}{x:α}(h:sE ok l)(d:ok l.length x):sE ok (l++[x]):=by
 intro b c;rcases Vy b l.length with a|a
 ·rw[List.getElem_append_left a];exact h b a
 ·have:b=l.length:=by simp at c;omega
  subst this;simpa using d
def sE.at{α:Type}{ok:Nat->α->Prop}{l r:List α}{x:α}(h:sE ok (l++x::r)):ok l.length x:=by
 have:=h l.length (by simp);simpa using this
structure Q2{α:Type}(E G:List α->List Nat)(ok:Nat->α->Prop)(B:List Nat)(p:Nat)(C:List Nat)(q cn:Nat)(l:List α):Prop where
 le:l.length<=cn
 Rn:sE ok l
 st:ai B p (E l)
 sc:ai C q (G l)
 IM:∀L:List α,L.length=cn->sE ok L->ai B p (E L)->ai C q (G L)->∃m,L=l++m
def Q2.zero{α:Type}{E G:List α->List Nat}{ok:Nat->α->Prop}{B C:List Nat}{p q cn:Nat}(b:E []=[])(h1:G []=[]):Q2 E G ok B p C q cn []:=
 ⟨UE _,λd c=>by simp at c,by rw[b];exact mT _ _,by rw[h1];exact mT _ _,λa _ _ _ _=>⟨a,rfl⟩⟩
def Q2.next{α:Type}{E G:List α->List Nat}{ok:Nat->α->Prop}{e g:List α->α->List Nat}{B C:List Nat}{p q cn:Nat}{l:List α}(h:Q2 E G ok B p C q cn l)(c:∀l x,E (l++[x])=E l++e l x)(d:∀l x,G (l++[x])=G l++g l x)(k:l.length<cn)
 (L:List α) (hL:L.length=cn) (f:sE ok L) (b:ai B p (E L)) (hc:ai C q (G L)):∃x m,L=(l++[x])++m/\ok l.length x/\ai B (p+(E l).length) (e l x)/\ai C (q+(G l).length) (g l x):=by
 obtain⟨m,rfl⟩:=h.IM L hL f b hc;cases m with
 |nil=>simp at hL;omega
 |cons x a=>
  obtain⟨n,i⟩:=zn c (l++[x]) a;obtain⟨o,j⟩:=zn d (l++[x]) a;refine⟨x,a,by simp,f.at,?_,?_⟩
  ·rw[show l++x::a=l++[x]++a by simp,i,c,UC,au,au] at b;exact b.2.1
  ·rw[show l++x::a=l++[x]++a by simp,j,d,UC,au,au] at hc;exact hc.2.1
def Q2.more{α:Type}{E G:List α->List Nat}{ok:Nat->α->Prop}{e g:List α->α->List Nat}{B C:List Nat}{p q cn:Nat}{l:List α}(h:Q2 E G ok B p C q cn l)(b:∀l x,E (l++[x])=E l++e l x)(c:∀l x,G (l++[x])=G l++g l x)(o:l.length<cn)
 {x:α} (v:ok l.length x) (s:ai B (p+(E l).length) (e l x)) (hc:ai C (q+(G l).length) (g l x)) (u:∀y,ok l.length y->ai B (p+(E l).length) (e l y)->ai C (q+(G l).length) (g l y)->y=x):Q2 E G ok B p C q cn (l++[x]):=by
 refine⟨by simp;omega,h.Rn.snoc v,by rw[b,au];exact⟨h.st,s⟩,by rw[c,au];exact⟨h.sc,hc⟩,?_⟩;intro d k r t n;obtain⟨y,m,a,f,i,j⟩:=h.next b c o d k r t n;rw[u y f i j] at a;exact⟨m,a⟩
def Q2.fail{α:Type}{E G:List α->List Nat}{ok:Nat->α->Prop}{e g:List α->α->List Nat}{B C:List Nat}{p q cn:Nat}{l:List α}(h:Q2 E G ok B p C q cn l)(d:∀l x,E (l++[x])=E l++e l x)(f:∀l x,G (l++[x])=G l++g l x)(j:l.length<cn)
 (o:∀y,ok l.length y->ai B (p+(E l).length) (e l y)->¬ai C (q+(G l).length) (g l y)) (L:List α) (hL:L.length=cn) (k:sE ok L) (n:ai B p (E L)):¬ai C q (G L):=by
 intro i;obtain⟨y,m,r,a,b,c⟩:=h.next d f j L hL k n i;exact o y a b c
def Q2.done{α:Type}{E G:List α->List Nat}{ok:Nat->α->Prop}{B C:List Nat}{p q cn:Nat}{l:List α}(h:Q2 E G ok B p C q cn l)(f:¬l.length<cn):
 l.length=cn/\(∀L:List α,L.length=cn->sE ok L->ai B p (E L)->ai C q (G L)->L=l):=by
 have d:l.length=cn:=by have:=h.le;omega
 refine⟨d,?_⟩;intro L a b e c;obtain⟨m,rfl⟩:=h.IM L a b e c;rw[Ua] at a;have:m=[]:=We.1 (by omega);rw[this];simp
structure jQ(r q:Nat)(w w':F):Prop where
 os:w'.os=w.os
 tape:w'.tape=w.tape
 output:w'.output=w.output
 size:w.heap.size<=w'.heap.size
 block:∀i,i<w.heap.size->i≠r->i≠q->w'.heap[i]? =w.heap[i]?
def jQ.refl(r q:Nat)(w:F):jQ r q w w:=⟨rfl,rfl,rfl,T8 _,λ_ _ _ _=>rfl⟩
def jQ.trans{r q:Nat}{w e f:F}(h:jQ r q w e)(k:jQ r q e f):jQ r q w f:=
 ⟨k.os.trans h.os,k.tape.trans h.tape,k.output.trans h.output,Uy h.size k.size,λd c a b=>(k.block d (Ud c h.size) a b).trans (h.block d c a b)⟩
def jQ.jw{r q:Nat}{w a:F}(h:Kp r w a):jQ r q w a:=⟨h.os,h.tape,h.output,h.size,λe d c _=>Wv h e d (λb=>c (by cases b;rfl))⟩
def jQ.Eb{r q:Nat}{w a:F}(h:Kp q w a):jQ r q w a:=⟨h.os,h.tape,h.output,h.size,λe d _ c=>Wv h e d (λb=>c (by cases b;rfl))⟩
def jQ.cr{r q:Nat}{w a:F}(h:aP w a):jQ r q w a:=⟨h.os,h.tape,h.output,h.size,λc b _ _=>h.block c b⟩
def jQ.alloc{r q:Nat}{w a:F}(h:jQ r q w a)(o:Obj):jQ r q w (a.alloc o):=h.trans (jQ.jw (Kp.alloc (Kp.refl r a) o))
def jQ.grown{r q:Nat}{w d e:F}{c:Option Nat}(h:jQ r q w d)(k:d.grownBy e c)(l:∀g,c=I g->w.heap.size<=g):jQ r q w e:=
 ⟨k.os.trans h.os,k.tape.trans h.tape,k.output.trans h.output,Uy h.size k.size,λa b i j=>(k.block a (Ud b h.size) (λf=>by have:=l a f.symm;omega)).trans (h.block a b i j)⟩
def jQ.keep{r q:Nat}{w a:F}(k:jQ r q w a){i:Nat}{o:Obj}(h:w.heap[i]? =I o)(h1:i≠r)(b:i≠q):a.heap[i]? =I o:=by
 rw[k.block i (Ue h) h1 b];exact h
def jQ.own{r q:Nat}{w d:F}{base e c n:Nat}{v:U}{f:List U}(k:jQ r q w d)(h:w.ownsRow base e c v n f)(p:r<base)(o:q<base):d.ownsRow base e c v n f:=by
 refine⟨h.1,?_⟩;rcases h.2 with l|⟨a,g,i,rfl,j,b,m⟩
 ·exact .inl l
 ·refine .inr ⟨a,g,i,rfl,j,?_,m⟩;rw[k.block a (Ue b) (by omega) (by omega)];exact b
def Ld (cs:List bL)(l:List kq)(c:kq):List Nat:=aL c.text.size++cq (cs.getD l.length ⟨⟨#[]⟩,0⟩).kind c.eY
def wK (cs:List bL)(l:List kq):List Nat:=fo cs l l.length
def uk(cs:List bL)(l:List kq)(c:kq):wK cs (l++[c])=wK cs l++Ld cs l c:=by
 unfold wK;rw[Ua,List.length_singleton,vL];have b:fo cs (l++[c]) l.length=fo cs l l.length:=by
  unfold fo;refine yj (λe a=>?_);have a:=List.mem_range.1 a;unfold o8;rw[Ui,Vw a,<-Ui]
 have d:o8 cs (l++[c]) l.length=Ld cs l c:=by
  unfold o8 Ld;rw[Ui (l:=l++[c]),Vo (T8 _)];simp
 rw[b,d]
structure Fo(cs:List bL)(i:Nat)(c:kq):Prop where
 n:c.text.size<2147483648
 b:Lf (cs.getD i ⟨⟨#[]⟩,0⟩).kind c.eY
structure eL(cs:List bL)(b:Bd):Prop where
 lo:1<=b.rows
 hi:b.rows<=100
 len:b.chunks.length=cs.length
 each:sE (Fo cs) b.chunks
def I9{k:Int}(l:k=1\/k=2\/k=3){B:List Nat}{p:Nat}{b b':lB}(h:Lf k b)(d:Lf k b')(c:ai B p (cq k b))(a:ai B p (cq k b')):b=b':=by
 have m:∀{b b':lB},b=cE->b'.there=Z->ai B p (cq k b)->ai B p (cq k b')->False:=by
  rintro b b' rfl w c a;unfold cq at a;rw[if_pos w] at a;have:=iE (show ai B p [0] from c) (au.1 a).1 Y;simp at this
 rcases h with h|⟨e,r,t,x⟩<;>rcases d with d|⟨f,s,u,y⟩
 ·rw[h,d]
 ·exact(m h f c a).elim
 ·exact(m d e a c).elim
 ·unfold cq at c a;rw[if_pos e] at c;rw[if_pos f] at a;obtain⟨n,i⟩:=au.1 (au.1 c).2;obtain⟨o,q⟩:=au.1 (au.1 a).2;have g:=l7 l r s n o;rw[g] at i;have j:=l7 l t u i q;obtain⟨z,C,v⟩:=b;obtain⟨A,D,E⟩:=b';simp only at e f g j;rw[e,f,g,j]
def Q3{cs:List bL}{l:List kq}(n:(cs.getD l.length ⟨⟨#[]⟩,0⟩).kind=1\/(cs.getD l.length ⟨⟨#[]⟩,0⟩).kind=2\/(cs.getD l.length ⟨⟨#[]⟩,0⟩).kind=3){B C:List Nat}{p q:Nat}{x y:kq}(g:Fo cs l.length x)(h:Fo cs l.length y)(e:ai B p (Ld cs l x))(f:ai B p (Ld cs l y))(hc:ai C q (bytesOf x.text))(m:ai C q (bytesOf y.text)):y=x:=by
 unfold Ld at e f;obtain⟨i,j⟩:=au.1 e;obtain⟨k,a⟩:=au.1 f;have b:=cA (by have:=h.n;omega) (by have:=g.n;omega) k i;rw[b] at a;have c:=I9 n h.b g.b a j;have d:=m9 (iE m hc (by rw[aj,aj,b]));obtain⟨o,s⟩:=x;obtain⟨r,t⟩:=y;simp only at c d;rw[c,d]
def vn.bO{w:F}{base:Nat}{v:U}{l:List bL}(h:w.ownsRow base 63 2 v l.length (eH l)):vn w v l:=by
 rcases h.2 with⟨rfl,g⟩|⟨c,f,j,rfl,k,o,i,m,n,p⟩
 ·have:l=[]:=Vh g;subst this;exact⟨K,0,0,0,rfl,T8 _,⟨λh=>by simp at h,λh=>by simp at h,λb h=>by simp at h,λb h=>by simp at h⟩⟩
 ·have e:=h.cells (g:=c) Y;refine⟨I ⟨c,0,K⟩,c,0,f,rfl,i,⟨λ_=>rfl,λ_=>(h.lt c Y).2,λb d=>?_,λb d=>?_⟩⟩
  ·have:=e _ _ (lQ (λa:bL=>[Value.string a.name,VY .i64 a.kind]) 2 (λ_=>rfl) l b d 0 _ Y);simpa [VL] using this
  ·have:=e _ _ (lQ (λa:bL=>[Value.string a.name,VY .i64 a.kind]) 2 (λ_=>rfl) l b d 1 _ Y);simpa [VL] using this
def eV (bs:List Bd):Nat:=(bs.map λa=>a.rows).sum
def Gy(bs:List Bd)(b:Bd):eV (bs++[b])=eV bs+b.rows:=by simp[eV]
def Gz(bs:List Bd)(k:Nat)(h:k<bs.length):eV (bs.take (k+1))=eV (bs.take k)+bs[k].rows:=by
 rw[Uo h,Gy]
def Ex(bs:List Bd)(h:∀b∈bs,b.rows<=100):eV bs<=bs.length*100:=by
 induction bs with
 |nil=>simp[eV]
 |cons b g d=>
  have f:=h b (by simp);have a:=d (λe c=>h e (by simp[c]));simp[eV] at a ⊢;omega
def tB(bs:List Bd)(h:∀b∈bs,1<=b.rows):bs.length<=eV bs:=by
 induction bs with
 |nil=>simp[eV]
 |cons b g d=>
  have f:=h b (by simp);have a:=d (λe c=>h e (by simp[c]));simp[eV] at a ⊢;omega
def IX (cs:List bL)(es:List Int):Prop:=∀a (b:a<es.length) (c:a<cs.length),bJ cs[a].kind es[a]=Z
def IX.snoc{cs:List bL}{es:List Int}(h:IX cs es){e:Int}(f:es.length<cs.length)(b:bJ cs[es.length].kind e=Z):IX cs (es++[e]):=by
 intro a c d;rw[List.getElem_append]
 split
 ·exact h a _ _
 ·have:a=es.length:=by simp at c;omega
  subst this;simpa using b
def Po(w W:F)(v:Nat->U)(g:Nat)(dU:List Int)(co:Option UJ)(G bE cb:Nat)(cs:List bL)(bc:U)(aw:v 2= .slice co dU.length cb)(ar:v 11= .pointer (I ⟨g,0,K⟩))(av:v 13= .int .i64 (cs.length:Int))(ck:dU.length<=Uq)(bj:(0<dU.length->co=I ⟨G,bE,K⟩)/\(0<dU.length->G<w.heap.size)/\∀j,j<dU.length->aM w G (bE+j) (.int .i64 (dU.getD j 0)))(br:∀x∈dU,lP x)(am:hU cs)(ad:eM w W g bc cs aO [] 0 aO [] T7):
 (Tf Wc).wp (aB T4) (λe a' W'=>e= .normal/\∃es b,lC cs es/\eM w W' g bc cs aO [] 0 b es T7/\Cc.Knows a' 156 ((13,v 13)::Ss v)/\a'.defers=[]) (pW v) W:=by
 obtain⟨b1,bu,bx,bA,bB⟩:=Ve ay.vD;unfold Uq at ck;have c9:1<=cs.length/\cs.length<=8:=⟨am.1,am.2.1⟩;have b3:=af (gw am);have b2:=af br;have ap:=af bj;obtain⟨ca,E,cv,aJ,rfl,da,bm⟩:=vn.bO ad.ah;have cl:ca=I ⟨E,0,K⟩/\cv=0:=by
  rcases ad.ah.2 with⟨e,c8⟩|⟨c7,c3,c6,e,_⟩
  ·omega
  ·have r:=bm.addr (by omega);simp only[VA] at e;rw[e.1] at r;simp only[U8,Wh] at r;exact⟨by rw[e.1,r.1],r.2.1.symm⟩
 obtain⟨rfl,rfl⟩:=cl;clear bm;have bb:=af ad;have b5:=af aw;have b4:=af ar;have c1:=af av;unfold pW;rw[aw,ar,av];clear br bj ad aw ar av am;unfold Tf Wc;dsimp only
 go_wp2_with fail
 go_loopw [14] (λC wr=>∃(es:List Int) (b:U),C= .int .i64 (es.length:Int)/\es.length<=cs.length/\IX cs es/\eM w wr g (.slice (I ⟨E,0,K⟩) cs.length aJ) cs aO [] 0 b es T7) (λC _=>cs.length-(US C).toNat)
 case atStart=>exact⟨[],_,rfl,UE _,λC c=>absurd c (by simp),bb.o⟩
 case round=>
  clear bb;obtain⟨es,b,rfl,df,bd,B⟩:=hrel;have a6:=af bd;have aa:=af B;clear bd;by_cases M:es.length<cs.length
  ·obtain⟨c2,c4,dq,c5,bo,db,a0⟩:=vn.bO B.ah;simp only[VA,true_and] at bo;obtain⟨rfl,rfl⟩:=bo;have r:=a0.addr (by omega);simp only[U8,Wh] at r;obtain⟨rfl,rfl,-⟩:=r;have b0:=a0.c1 es.length M;simp only[UT] at b0;have al:=b3.o cs[es.length] (Uj M);have a7:X (∀e∈fw cs[es.length].kind,IX cs (es++[e])):=λe cf=>a6.o.snoc M (OP _ al e cf);have a5:X (∀W:F,bH 39 #[.int .i64 cs[es.length].kind] W λe R=>aP W R/\W.heap.size<R.heap.size/\e= .returned (.slice (I ⟨W.heap.size,0,K⟩) (fw cs[es.length].kind).length (fw cs[es.length].kind).length)/\∀j,j<(fw cs[es.length].kind).length->aM R W.heap.size (0+j) (.int .i64 ((fw cs[es.length].kind).getD j 0))):=λW=>Ac _ W al;have dc:=L8 cs[es.length].kind;have dd:0<(fw cs[es.length].kind).length:=by rcases al with c|c|c<;>rw[c]<;>decide
   generalize cs[es.length].kind=kd at*;obtain⟨⟨cx,-,-,y,-⟩,-⟩:=B.cells;have dl:=B.dg.size;clear B a0 al
   go_upto_region 14 with(go_at_call 39;refine(a5.o _).mono ?_;rintro e p ⟨be,bt,rfl,bi⟩)
   have ab:=af (aa.o.below be);have i:X (eM w p.drew g (.slice (I ⟨E,0,K⟩) cs.length aJ) cs aO [] 0 b es T7):=ab.o.below ((Up _ _).drew);have a3:X (I wr.heap.size≠b.ownBlock):=λe=>by have:=(aa.o.eI.lt _ e.symm).2;omega
   have Z:X (wr.heap.size<p.drew.heap.size):=by exact bt
   have a4:X (∀j,j<(fw kd).length->aM p.drew wr.heap.size j (.int .i64 ((fw kd).getD j 0))):=λj ae=>by
    have:=bi j ae;rw[UT] at this;exact this
   have a9:X (∀j,j<(fw kd).length->IX cs (es++[(fw kd).getD j 0])):=λj ae=>a7.o _ (by rw[Ui,Um ae];exact Uj ae);clear bi bt be cx y b0 a5 a7 aa;generalize wr.heap.size=h at*;by_cases az:es.length<dU.length
   ·obtain rfl:=ap.o.1 (by omega);have bl:=ap.o.2.1 (by omega);have cd:aM p G (bE+es.length) (.int .i64 (dU.getD es.length 0)):=(ab.o.dg.cell (p:=⟨G,bE+es.length,K⟩) bl).trans (ap.o.2.2 _ az);have a8:X (lP (dU.getD es.length 0)):=b2.o _ (by rw[Ui,Um az];exact Uj az);have ba:X (∀W:F,bH 23 #[.int .i64 (dU.getD es.length 0),.int .i64 ((fw kd).length:Int)] W λe R=>R=W/\∃ao,e= .returned (.int .i64 ao)/\0<=ao/\ao<((fw kd).length:Int)):=λW=>qc _ _ W (by omega) (by omega) a8.o.1 a8.o.2;generalize dU.getD es.length 0=dp at*;clear bl
    go_upto_region 16 with(go_at_call 23;refine(ba.o _).mono ?_;rintro e c0 ⟨bv,ao,rfl,cp,dk⟩;rw[bv];clear bv c0;obtain⟨l,rfl⟩:=WB cp)
    clear cd ba;have bs:l<(fw kd).length:=by omega
    have n:=a4.o l bs;have q:=a9.o l bs;replace q:=af q;have y:=i.o.cells.1.2.2.2.1;generalize (fw kd).getD l 0=a at*;refine Un.open_ (λW:F=>aM W g 3 b/\aM W h l (.int .i64 a)) 11 (λ_ _ _ _ _ c=>absurd (And.left c) (λc=>by cases c)) λcn=>?_;have t:(λW:F=>aM W g 3 b/\aM W h l (.int .i64 a)) p.drew:=⟨y,n⟩;clear ab;generalize p.drew=f at*;refine Un.pk 0 ?_;refine Un.pk 1 ?_;refine Un.ld [11] 2 ?_;refine Un.pk 3 ?_;refine Un.pk 4 ?_;refine Un.pk 5 ?_;refine Un.ld [11] 6 ?_;refine Un.on 7 λk d=>?_;go_simp;have D:X (eM w (f.alloc (.cells #[.int .i64 a] 3)) g (.slice (I ⟨E,0,K⟩) cs.length aJ) cs aO [] 0 b es T7):=i.o.below ((Up _ _).alloc (T8 _) _);have S:=D.o.cells.1.2.2.2.1;have T:(f.alloc (.cells #[.int .i64 a] 3)).cell? ⟨h,l,K⟩=I (.int .i64 a):=(((Up f.heap.size f).alloc (T8 _) _).cell (p:=⟨h,l,K⟩) Z.o).trans n;refine d.o _ _ (λ_=>⟨S,T⟩) ?_;clear d k t
    try simp only[UW,Uc,Ul,Uk]
    refine Un.one (i:=8) (by kernel_rfl) Y (λk d=>?_);have O:=i.o.eI;have cu:w.heap.size<=f.heap.size:=i.o.dg.size;refine WK _ (by rfl) _ _ 22 (by rfl) w.heap.size 3 b1 _ 1 8 ay.underlying22 bu bx bA bB Y (by decide) b es.length _ (by rfl) (O.alloc _) ⟨f.heap.size,0,K⟩ 1 1 [.int .i64 a] (by rfl) Y (VJ (bk f _)) (by intro cR Q;simp at Q;subst Q;rfl) (by decide) (by unfold Uq;omega) (by omega) (by simp;omega) _ Y ?_;intro s m o P L J a1;have u:=aR.jj (n:=es.length+1) (cap:=m) L J;have N:o.ownsRow w.heap.size 3 1 (.slice (I ⟨s,0,K⟩) (es.length+1) m) (es++[a]).length (bz (es++[a])):=by
     rw[<-eS,Ua];exact P
    obtain⟨H,z,V⟩:=i.o.QD u N;have aq:=af H;have a2:=V 3;have A:aM o h l (.int .i64 a):=by
     rw[<-n];unfold Us;rw[u.fO.block h Z.o a3.o]
    refine d.o _ _ (λ_=>⟨z,A⟩) ?_;clear d k O P L J a1 N u H V
    try simp only[UW,Uc,Ul,Uk]
    have t:(λW:F=>aM W g 3 b/\aM W h l (.int .i64 a)) o:=⟨z,A⟩;refine Un.pk 9 ?_;refine Un.pk 10 ?_;refine Un.on 11 λk d=>?_;go_simp;refine d.o _ _ (λc=>absurd c (by decide)) ?_;clear d k t z A S T a2 y n;refine Un.done (by kernel_rfl) ?_ _
    try simp only[UW,Uc,Ul,Uk]
    clear D i;generalize o.setCell ⟨g,3,K⟩ (.slice (I ⟨s,0,K⟩) (es.length+1) m)=b6 at*;generalize Vg (I ⟨s,0,K⟩) (es.length+1) m=cc at*
    go_wp2_with fail
    go_roundw
    case rel=>exact⟨_,_,by rw[Ua];go_num,by rw[Ua];exact M,q.o,aq.o⟩
    case measure=>simp[US];omega
   ·have n:=a4.o 0 (by omega);have q:=a9.o 0 (by omega);replace q:=af q
    go_upto_region 16 with fail
    have y:=i.o.cells.1.2.2.2.1;generalize (fw kd).getD 0 0=a at*;refine Un.open_ (λW:F=>aM W g 3 b/\aM W h 0 (.int .i64 a)) 11 (λ_ _ _ _ _ c=>absurd (And.left c) (λc=>by cases c)) λcn=>?_;have t:(λW:F=>aM W g 3 b/\aM W h 0 (.int .i64 a)) p.drew:=⟨y,n⟩;clear ab;generalize p.drew=f at*;refine Un.pk 0 ?_;refine Un.pk 1 ?_;refine Un.ld [11] 2 ?_;refine Un.pk 3 ?_;refine Un.pk 4 ?_;refine Un.pk 5 ?_;refine Un.ld [11] 6 ?_;refine Un.on 7 λk d=>?_;go_simp;have D:X (eM w (f.alloc (.cells #[.int .i64 a] 3)) g (.slice (I ⟨E,0,K⟩) cs.length aJ) cs aO [] 0 b es T7):=i.o.below ((Up _ _).alloc (T8 _) _);have S:=D.o.cells.1.2.2.2.1;have T:(f.alloc (.cells #[.int .i64 a] 3)).cell? ⟨h,0,K⟩=I (.int .i64 a):=(((Up f.heap.size f).alloc (T8 _) _).cell (p:=⟨h,0,K⟩) Z.o).trans n;refine d.o _ _ (λ_=>⟨S,T⟩) ?_;clear d k t
    try simp only[UW,Uc,Ul,Uk]
    refine Un.one (i:=8) (by kernel_rfl) Y (λk d=>?_);have O:=i.o.eI;have cu:w.heap.size<=f.heap.size:=i.o.dg.size;refine WK _ (by rfl) _ _ 22 (by rfl) w.heap.size 3 b1 _ 1 8 ay.underlying22 bu bx bA bB Y (by decide) b es.length _ (by rfl) (O.alloc _) ⟨f.heap.size,0,K⟩ 1 1 [.int .i64 a] (by rfl) Y (VJ (bk f _)) (by intro cR Q;simp at Q;subst Q;rfl) (by decide) (by unfold Uq;omega) (by omega) (by simp;omega) _ Y ?_;intro s m o P L J a1;have u:=aR.jj (n:=es.length+1) (cap:=m) L J;have N:o.ownsRow w.heap.size 3 1 (.slice (I ⟨s,0,K⟩) (es.length+1) m) (es++[a]).length (bz (es++[a])):=by
     rw[<-eS,Ua];exact P
    obtain⟨H,z,V⟩:=i.o.QD u N;have aq:=af H;have a2:=V 3;have A:aM o h 0 (.int .i64 a):=by
     rw[<-n];unfold Us;rw[u.fO.block h Z.o a3.o]
    refine d.o _ _ (λ_=>⟨z,A⟩) ?_;clear d k O P L J a1 N u H V
    try simp only[UW,Uc,Ul,Uk]
    have t:(λW:F=>aM W g 3 b/\aM W h 0 (.int .i64 a)) o:=⟨z,A⟩;refine Un.pk 9 ?_;refine Un.pk 10 ?_;refine Un.on 11 λk d=>?_;go_simp;refine d.o _ _ (λc=>absurd c (by decide)) ?_;clear d k t z A S T a2 y n;refine Un.done (by kernel_rfl) ?_ _
    try simp only[UW,Uc,Ul,Uk]
    clear D i;generalize o.setCell ⟨g,3,K⟩ (.slice (I ⟨s,0,K⟩) (es.length+1) m)=b6 at*;generalize Vg (I ⟨s,0,K⟩) (es.length+1) m=cc at*
    go_wp2_with fail
    go_roundw
    case rel=>exact⟨_,_,by rw[Ua];go_num,by rw[Ua];exact M,q.o,aq.o⟩
    case measure=>simp[US];omega
  ·have ch:es.length=cs.length:=by omega
   clear B
   go_wp2_with fail
   refine⟨es,⟨ch.symm,λC ci=>by rw[Ui,Um (by omega)];exact a6.o C (by omega) ci⟩,⟨b,aa.o⟩,?_⟩;exact Cc.Knows.cons ((((((((Am Y (by exact b4.o.symm)).cons Y).cons Y).cons Y).cons (by exact b5.o.symm)).cons Y).cons Y)) Y
def R6 (cs:List bL)(x:List aE):Prop:=∀a (b:a<x.length) (c:a<cs.length),VC cs[a].kind x[a]
def R6.snoc{cs:List bL}{x:List aE}(h:R6 cs x){y:aE}(e:x.length<cs.length)(b:VC cs[x.length].kind y):R6 cs (x++[y]):=by
 intro a c d;rw[List.getElem_append]
 split
 ·exact h a _ _
 ·have:a=x.length:=by simp at c;omega
  subst this;simpa using b
def eM.kept{w W W1:F}{g:Nat}{cv:U}{cs:List bL}{rv:U}{L:List (List aE×U)}{c:Int}{ev:U}{es:List Int}{bo:Bool}{u u':U}{n:Nat}{f:List U}(h:eM w W g cv cs rv L c ev es bo)(a:aR W W1 u u')(b:W.ownsRow w.heap.size 59 3 u n f)(e:∀p∈L,Apart p.2 u):eM w W1 g cv cs rv L c ev es bo:=
 ⟨(a.fO.block _ (Ue h.res) (bw b h.res (by decide))).trans h.res,(a.fO.block _ (Ue h.box) (bw b h.box (by decide))).trans h.box,bF h.ah a (dQ h.ah b (by decide)),bF h.rows a (dQ h.rows b (by decide)),λp d=>bF (h.each p d) a (e p d),bF h.eI a (dQ h.eI b (by decide)),h.dg.trans (a.below (λg a=>(b.lt g a).1) h.dg.size),h.hg⟩
structure wE(w W:F)(g:Nat)(cv:U)(cs:List bL)(rv:U)(L:List (List aE×U))(ev:U)(es:List Int)(x:List aE)(u:U):Prop where
 md:eM w W g cv cs rv L 0 ev es T7
 own:W.ownsRow w.heap.size 59 3 u x.length (aH x)
 ap:∀p∈L,Apart p.2 u
 typ:R6 cs x
section
variable {w W W1:F}{g:Nat}{cv:U}{cs:List bL}{rv:U}{L:List (List aE×U)}{ev:U}{es:List Int}{x:List aE}{u u':U}
def wE.below(h:wE w W g cv cs rv L ev es x u)(a:aP W W1):wE w W1 g cv cs rv L ev es x u:=⟨h.md.below a,aK h.own a,h.ap,h.typ⟩
def wE.grow(h:wE w W g cv cs rv L ev es x u)(a:aR W W1 u u'){y:aE}(e:W1.ownsRow w.heap.size 59 3 u' (x++[y]).length (aH (x++[y])))(d:x.length<cs.length)(f:VC cs[x.length].kind y):wE w W1 g cv cs rv L ev es (x++[y]) u':=
 ⟨h.md.kept a h.own h.ap,e,λc b=>(h.ap c b).jP (h.md.each c b) a,h.typ.snoc d f⟩
end
def Oo (cs:List bL)(L:List (List aE×U)):Prop:=∀a∈L,a.1.length=cs.length/\R6 cs a.1
def Pp(w W:F)(v:Nat->U)(g:Nat)(raw:List aE)(ro:Option UJ)(rb bh aN:Nat)(cs:List bL)(cv:U)(es:List Int)(ev:U)(h1:v 1= .slice ro raw.length aN)(aw:v 11= .pointer (I ⟨g,0,K⟩))(bj:v 13= .int .i64 (cs.length:Int))(c8:raw.length<=Uq)(b1:sJ w ro rb bh raw)(bA:∀x∈raw,rC x/\x.s.size<=Uq)(ab:hU cs)(V:eM w W g cv cs aO [] 0 ev es T7):
 (Ti Wc).wp (aB T4) (λe a' W'=>e= .normal/\∃L rv,eM w W' g cv cs rv L 0 ev es T7/\Oo cs L/\L.length*cs.length<=raw.length/\L.length<=150/\Cc.Knows a' 156 (Ss v)/\a'.defers=[]) (pW v) W:=by
 obtain⟨dq,c7,db,dc,dd⟩:=Ve ay.mJ;obtain⟨dp,Z,df,dk,dl⟩:=Ve ay.Mq;unfold Uq at c8;have c5:1<=cs.length/\cs.length<=8:=⟨ab.1,ab.2.1⟩;have ch:=af (gw ab);have cf:=af bA;have ci:=af b1;obtain⟨cp,c,dr,aJ,rfl,d5,bu⟩:=vn.bO V.ah;have da:cp=I ⟨c,0,K⟩/\dr=0:=by
  rcases V.ah.2 with⟨e,d2⟩|⟨d1,dv,dO,e,_⟩
  ·omega
  ·have o:=bu.addr (by omega);simp only[VA] at e;rw[e.1] at o;simp only[U8,Wh] at o;exact⟨by rw[e.1,o.1],o.2.1.symm⟩
 obtain⟨rfl,rfl⟩:=da;clear bu;have bb:=af V;have cd:X (∀W rv L (i:Nat) (Z:i<cs.length),eM w W g (.slice (I ⟨c,0,K⟩) cs.length aJ) cs rv L 0 ev es T7->aM W c (i*2+1) (.int .i64 cs[i].kind)):=λW rv L i Z b=>by
  obtain⟨du,dC,eb,dE,bx,d6,bt⟩:=vn.bO b.ah;simp only[VA,true_and] at bx;obtain⟨rfl,rfl⟩:=bx;have o:=bt.addr (by omega);simp only[U8,Wh] at o;obtain⟨rfl,rfl,-⟩:=o;have:=bt.c1 i Z;rwa [UT] at this
 have bc:=af h1;have bd:=af aw;unfold pW;rw[h1,aw,bj];clear bA b1 V h1 aw bj ab;unfold Ti Wc;dsimp only
 go_wp2_with fail
 go_loopw [17,20] (λi _ wr=>∃(L:List (List aE×U)) (rv:U),i= .int .i64 ((L.length*cs.length:Nat):Int)/\L.length*cs.length<=raw.length/\L.length<=150/\Oo cs L/\eM w wr g (.slice (I ⟨c,0,K⟩) cs.length aJ) cs rv L 0 ev es T7) (λi _ _=>raw.length-(US i).toNat)
 case atStart=>exact⟨[],_,by simp,by simp,by simp,λal b=>absurd b (by simp),bb.o⟩
 case round=>
  clear bb;obtain⟨L,rv,rfl,a2,a0,bo,y⟩:=hrel;have aq:=af bo;obtain⟨C,gP,rfl⟩:=bC y.rows;have Q:=af y;obtain⟨⟨M,ca,-,-,-⟩,-⟩:=y.cells;obtain⟨k,T⟩:∃k,k=L.length*cs.length:=⟨_,rfl⟩;have ao:=af T;have d4:k<=150*8:=by rw[T];exact Ws a0 c5.2
  have dT:XM.wrap ((k:Int)+(cs.length:Int))=((k+cs.length:Nat):Int):=by rw[WY]<;>omega
  rw[<-T] at a2 ⊢;clear bo T;by_cases c2:k+cs.length<=raw.length
  ·by_cases c3:L.length<150
   ·clear y;have d3:(L.length:Int)<150:=by omega
    go_upto_region 21 with fail
    have ba:X (wE w wr g (.slice (I ⟨c,0,K⟩) cs.length aJ) cs (.slice C L.length gP) L ev es [] aO):=⟨Q.o,Vp _ _ _ _,λal p=>(show Apart aO al.2 from .inl Y).symm,λea b=>absurd b (by simp)⟩;clear M ca
    go_wp2_with fail
    go_loopw [18,19,20] (λu i _ wr=>∃x:List aE,i= .int .i64 (x.length:Int)/\x.length<=cs.length/\wE w wr g (.slice (I ⟨c,0,K⟩) cs.length aJ) cs (.slice C L.length gP) L ev es x u) (λ_ i _ _=>cs.length-(US i).toNat)
    case atStart=>exact⟨[],rfl,by simp,ba.o⟩
    case round=>
     clear ba Q;obtain⟨x,rfl,d8,h⟩:=hrel;have O:=af h;by_cases aa:x.length<cs.length
     ·obtain⟨d,c4⟩:∃d,d=k+x.length:=⟨_,rfl⟩;have ae:d<raw.length:=by omega
      have z:=ci.o.below h.md.dg;obtain rfl:=z.addr (by omega);have am:=z.c0 _ ae;have a7:=z.c1 _ ae;have a8:=z.c2 _ ae;have a6:=cf.o raw[d] (Uj ae);have bB:=ch.o cs[x.length] (Uj aa);have N:X (∀W:F,bH 24 #[.agg #[.bool raw[d].null,.int .i64 raw[d].n,.string raw[d].s],.int .i64 cs[x.length].kind] W λe ds=>aP W ds/\∃a:aE,e= .returned (.agg (gZ a))/\VC cs[x.length].kind a):=λW=>um _ _ W bB a6.1 a6.2;have cn:X (∀(W1 R:F) (a:aE) (u':U),wE w W1 g (.slice (I ⟨c,0,K⟩) cs.length aJ) cs (.slice C L.length gP) L ev es x u18->aR W1 R u18 u'->R.ownsRow w.heap.size 59 3 u' (x++[a]).length (aH (x++[a]))->VC cs[x.length].kind a->wE w R g (.slice (I ⟨c,0,K⟩) cs.length aJ) cs (.slice C L.length gP) L ev es (x++[a]) u'):=λW1 R a u' b c6 c9 q=>b.grow c6 c9 aa q;have av:=cd.o wr _ _ x.length aa h.md;have M:=h.md.cells.1.1;have d0:XM.wrap ((k:Int)+(x.length:Int))=(d:Int):=by rw[WY]<;>omega
      have a4:=h.md.dg.size;have s:X (rb<wr.heap.size/\c<wr.heap.size/\g<wr.heap.size):=⟨z.lt (by omega),(h.md.ah.lt c (by simp[Value.ownBlock])).2,Ue h.md.box⟩;have dt:=af a4;generalize cs[x.length].kind=kd at*;generalize raw[d]=n at*;clear h z a6 bB a4 c4
      go_upto_region 24 with fail
      refine Un.open_ (λW:F=>(aM W rb (bh+d*3) (.bool n.null)/\aM W rb (bh+d*3+1) (.int .i64 n.n)/\aM W rb (bh+d*3+2) (.string n.s))/\aM W g 0 (.slice (I ⟨c,0,K⟩) cs.length aJ)/\aM W c (x.length*2+1) (.int .i64 kd)) 15 (λ_ _ _ _ _ b=>absurd (And.left b) (λb=>by cases b)) λd7=>?_;have bm:(λW:F=>(aM W rb (bh+d*3) (.bool n.null)/\aM W rb (bh+d*3+1) (.int .i64 n.n)/\aM W rb (bh+d*3+2) (.string n.s))/\aM W g 0 (.slice (I ⟨c,0,K⟩) cs.length aJ)/\aM W c (x.length*2+1) (.int .i64 kd)) wr.drew:=⟨⟨am,a7,a8⟩,M,av⟩;have P:X (wE w wr.drew g (.slice (I ⟨c,0,K⟩) cs.length aJ) cs (.slice C L.length gP) L ev es x u18):=O.o.below ((Up _ _).drew);have t:X (∀W,aP wr.drew W->(λW:F=>(aM W rb (bh+d*3) (.bool n.null)/\aM W rb (bh+d*3+1) (.int .i64 n.n)/\aM W rb (bh+d*3+2) (.string n.s))/\aM W g 0 (.slice (I ⟨c,0,K⟩) cs.length aJ)/\aM W c (x.length*2+1) (.int .i64 kd)) W):=λW b=>⟨⟨(b.cell (p:=⟨rb,_,K⟩) s.o.1).trans am,(b.cell (p:=⟨rb,_,K⟩) s.o.1).trans a7,(b.cell (p:=⟨rb,_,K⟩) s.o.1).trans a8⟩,(b.cell (p:=⟨g,0,K⟩) s.o.2.2).trans M,(b.cell (p:=⟨c,_,K⟩) s.o.2.1).trans av⟩;clear O s am a7 a8 M av;generalize wr.drew=m at*;refine Un.pk 0 ?_;refine Un.pk 1 ?_;refine Un.pk 2 ?_;refine Un.pk 3 ?_;refine Un.pk 4 ?_;refine Un.ld [15] 5 ?_;refine Un.pk 6 ?_;refine Un.pk 7 ?_;refine Un.ld [15] 8 ?_;refine Un.pk 9 ?_;refine Un.pk 10 ?_;refine Un.pk 11 ?_;refine Un.ld [15] 12 ?_;refine Un.pair (i:=13) (j:=14) (by kernel_rfl) Y Y (λj f=>?_) (λj f=>?_);rw[if_pos (by kernel_rfl)];go_simp;go_at_call 24;refine(N.o _).mono ?_;rintro e r ⟨l,a,rfl,q⟩;refine f.o _ _ (λ_=>t.o _ l) ?_;clear f j bm
      try simp only[UW,Uc,Ul,Uk]
      refine Un.on 14 λj f=>?_;go_simp;refine f.o _ _ (λ_=>t.o _ (l.trans ((Up _ _).alloc l.size _))) ?_;clear f j
      try simp only[UW,Uc,Ul,Uk]
      refine Un.on 15 λj f=>?_;go_simp;refine f.o _ _ (λb=>absurd b (by decide)) ?_;clear f j;refine Un.done (by kernel_rfl) ?_ _
      try simp only[UW,Uc,Ul,Uk]
      obtain⟨b4,b5,b6⟩:=qz r (.bool a.null) (.int .i64 a.n) (.string a.s) 59;have be:=af q;have D:X (wE w (r.alloc (.cells (gZ a) 59)) g (.slice (I ⟨c,0,K⟩) cs.length aJ) cs (.slice C L.length gP) L ev es x u18):=P.o.below (l.trans ((Up _ _).alloc l.size _));clear l q;clear P t N;generalize r.alloc (.cells (gZ a) 59)=ar at*;generalize r.heap.size=cu at*;rotate_left;rw[if_pos (by kernel_rfl)];go_simp;refine f.o _ _ (λ_=>t.o _ ((Up _ _).alloc (T8 _) _)) ?_;clear f j bm
      try simp only[UW,Uc,Ul,Uk]
      refine Un.on 13 λj f=>?_;go_simp;go_at_call 24;refine(N.o _).mono ?_;rintro e r ⟨l,a,rfl,q⟩;have az:=((Up m.heap.size m).alloc (T8 _) (.cells #[.bool T7,.int .i64 0,.string ⟨#[]⟩] 59)).trans (l.mono (by simp));have a5:r.heap[m.heap.size]? =I (.cells #[.bool T7,.int .i64 0,.string ⟨#[]⟩] 59 (0,0)):=(l.block _ (by simp)).trans (bk m _);refine f.o _ _ (λ_=>t.o _ az) ?_;clear f j
      try simp only[UW,Uc,Ul,Uk]
      refine Un.on 15 λj f=>?_;obtain⟨cx,cR,c0,c1⟩:=lZ a5;obtain⟨b4,b5,b6,bs⟩:=Ja (W:=m) (.bool a.null) (.int .i64 a.n) (.string a.s) a5 az (T8 _);go_simp;refine f.o _ _ (λb=>absurd b (by decide)) ?_;clear f j cx cR c0 c1 a5;refine Un.done (by kernel_rfl) ?_ _
      try simp only[UW,Uc,Ul,Uk]
      have be:=af q;have D:=af (P.o.below bs);clear l q az bs;clear P t N;generalize ((r.setCell ⟨m.heap.size,0,K⟩ (.bool a.null)).setCell ⟨m.heap.size,1,K⟩ (.int .i64 a.n)).setCell ⟨m.heap.size,2,K⟩ (.string a.s)=ar at*;generalize m.heap.size=cu at*
      all_goals
       have ad:=D.o.own;have d9:=D.o.md.dg.size;have bl:=fC a;have bv:=mW a
       go_upto_region 23 with(at_builtin;refine wpList_append_lies _ Y _ _ 43 Y w.heap.size 59 dq _ 3 32 ay.underlying43 c7 db dc dd Y (by decide) _ x.length _ Y (ad.alloc _) ⟨ar.heap.size,0,K⟩ 1 1 [.bool a.null,.int .i64 a.n,.string a.s] Y Y (VJ (bk ar _)) bl (by decide) (by unfold Uq;omega) (by omega) (by simp;omega) _ Y ?_;intro bi S cb J H E a3)
       have G:=aR.jj (n:=x.length+1) (cap:=S) H E;have b0:cb.ownsRow w.heap.size 59 3 (.slice (I ⟨bi,0,K⟩) (x.length+1) S) (x++[a]).length (aH (x++[a])):=by
        rw[js,bv,Ua];exact J
       have ap:=cn.o _ _ a _ D.o G b0 be.o;replace ap:=af ap;clear ad J H E a3 b0 G D b4 b5 b6 bv bl
       go_wp2_with fail
       go_roundw
       case rel=>
        exact⟨_,by rw[Ua];go_num,by rw[Ua];exact aa,ap.o⟩
       case measure=>simp[US];omega
     ·have b3:x.length=cs.length:=by omega
      obtain⟨B,A,rfl⟩:=bC h.own;have ad:=h.md.rows;obtain⟨⟨-,ca,-,-,-⟩,-⟩:=h.md.cells;have a4:=h.md.dg.size;have co:=af h.own;have ck:X (Oo cs (L++[(x,.slice B x.length A)])):=λal p=>by
       rcases List.mem_append.1 p with p|p
       ·exact aq.o al p
       ·simp only[List.mem_singleton] at p;subst p;exact⟨b3,O.o.typ⟩
      have a9:X ((L++[(x,Vg B x.length A)]).length*cs.length=k+cs.length):=by
       show(L++[(x,Vg B x.length A)]).length*cs.length=k+cs.length;rw[Ua,ao.o,Nat.add_mul];simp
      clear h b3
      go_wp2_with (at_builtin;refine wpList_append_lies _ Y _ _ 26 Y w.heap.size 43 dp _ 1 24 ay.underlying26 Z df dk dl Y (by decide) _ L.length _ Y (ad.alloc _) ⟨wr.heap.size,0,K⟩ 1 1 [.slice B x.length A] Y Y (VJ (bk wr _)) (by intro u b2;simp at b2;subst b2;rfl) (by decide) (by unfold Uq;omega) (by omega) (by simp;omega) _ Y ?_;intro bi S cb J H E a3;have G:=aR.jj (n:=L.length+1) (cap:=S) H E;obtain⟨br,am,cc⟩:=O.o.md.Sn G (x:=x) (u:=.slice B x.length A) co.o (by rw[Ua,U0];exact J);have ec:=cc 1;have cl:=af br;clear J H E a3 G br cc)
      go_roundw
      case rel=>
       exact⟨L++[(x,.slice B x.length A)],_,by rw[a9.o];go_num,by rw[a9.o];exact c2,by rw[Ua];exact c3,ck.o,cl.o⟩
      case measure=>simp[US];omega
   ·clear y;have a1:L.length*cs.length<=raw.length:=by rw[<-ao.o];exact a2
    go_wp2_with fail
    trace_state
    exact⟨L,⟨_,Q.o⟩,aq.o,a1,a0,(((((((Am Y (by exact bd.o.symm)).cons Y).cons Y).cons Y).cons Y).cons (by exact bc.o.symm)).cons Y)⟩
  ·clear y;have a1:L.length*cs.length<=raw.length:=by rw[<-ao.o];exact a2
   go_wp2_with fail
   trace_state
   exact⟨L,⟨_,Q.o⟩,aq.o,a1,a0,(((((((Am Y (by exact bd.o.symm)).cons Y).cons Y).cons Y).cons Y).cons (by exact bc.o.symm)).cons Y)⟩
structure Lk(W:F)(base:Nat)(cv:U)(cs:List bL)(rv:U)(L:List (List aE×U))(ev:U)(es:List Int):Prop where
 ah:W.ownsRow base 63 2 cv cs.length (eH cs)
 rows:W.ownsRow base 43 1 rv L.length (L.map VU)
 each:∀p∈L,W.ownsRow base 59 3 p.2 p.1.length (aH p.1)
 eI:W.ownsRow base 3 1 ev es.length (bz es)
def ny{W:F}{base:Nat}{e:Uh}{a n:Nat}{v:U}{b:List U}(h:W.ownsRow base e a v n b):n<=Uq:=by
 rcases h.2 with⟨_,g⟩|⟨f,c,d,_,_,_,j,i,_⟩
 ·omega
 ·omega
def vT{W:F}{base:Nat}{f:U}{L:List (List aE×U)}(h1:W.ownsRow base 43 1 f L.length (L.map VU))(i:∀p∈L,W.ownsRow base 59 3 p.2 p.1.length (aH p.1)):AB W f (L.map Ux):=by
 have m:=h1;rcases h1.2 with⟨rfl,h⟩|⟨c,g,n,rfl,o,j,l,q,r,s⟩
 ·obtain rfl:=Vh h;exact⟨K,0,0,0,rfl,T8 _,λa=>by simp at a,λa=>by simp at a,λb a=>by simp at a⟩
 ·refine⟨I ⟨c,0,K⟩,c,0,g,by rw[UG],by rw[UG];exact l,λ_=>rfl,λ_=>(Ub.1 j).1,λb k=>?_⟩;have e:b<L.length:=by simpa using k
  have d:=m.cells (g:=c) Y b L[b].2 (by simp[e]);rw[Xc] at d;refine⟨_,d,?_⟩;rw[Xr];exact rY.bO (i _ (Uj e))
def uB{k:Int}{v:aE}(l:k=1\/k=2\/k=3)(h:VC k v):fQ v k=Z/\rC v:=by
 obtain⟨n,m,s⟩:=v;rcases h with⟨a,b,c⟩|⟨a,f,e,g,i,j⟩
 ·simp only at a b c;subst a b c;exact⟨by simp[fQ],⟨by decide,by decide⟩⟩
 ·simp only at a f e g i j;subst a;refine⟨?_,⟨f,e⟩⟩;rcases l with rfl|rfl|rfl
  ·obtain rfl:=g rfl;simp[fQ]
  ·obtain⟨d,rfl⟩:=i rfl;rcases d with rfl|rfl<;>simp[fQ]
  ·obtain⟨rfl,d⟩:=j rfl;simp[fQ];omega
def MK{cs:List bL}{L:List (List aE×U)}{es:List Int}{e:Nat}(hc:hU cs)(k:lC cs es)(o:Oo cs L)(r:L.length<=150)(h1:1<=e)(c:e<=100):mZ cs (L.map Ux) es e:=by
 have m:=gw hc;have f:∀a∈L.map Ux,a.length=cs.length/\R6 cs a:=λa d=>by
  obtain⟨q,n,rfl⟩:=U7.1 d;exact o q n
 have j:∀a∈L.map Ux,∀b (g:b<a.length) (c:b<cs.length),fQ a[b] cs[b].kind=Z/\rC a[b]:=λa d b g c=>uB (m _ (Uj c)) ((f a d).2 b g c);refine⟨⟨hc,by rw[UG];omega,λs l=>?_⟩,k,h1,c,λa d t p=>?_⟩
 ·have i:=Uj l;exact⟨(f _ i).1,λb h1 c=>(j _ i b h1 c).1⟩
 ·obtain⟨b,h,rfl⟩:=Vv p;exact(j a d b h (by rw[<-(f a d).1];exact h)).2
section
variable {w W:F}{g:Nat}{cv:U}{cs:List bL}{rv:U}{L:List (List aE×U)}{bd:Int}{ev:U}{es:List Int}{bo:Bool}{base b:Nat}
def Lk.set(h:Lk W base cv cs rv L ev es){c:Array U}(a:W.heap[b]? =I (.cells c 50 (0,0)))(i:Nat)(u:U):Lk (W.setCell ⟨b,i,K⟩ u) base cv cs rv L ev es:=
 ⟨fY h.ah a (by decide) _ _,fY h.rows a (by decide) _ _,λe d=>fY (h.each e d) a (by decide) _ _,fY h.eI a (by decide) _ _⟩
def eM.R8(h:eM w W g cv cs rv L bd ev es bo):Lk W w.heap.size cv cs rv L ev es:=⟨h.ah,h.rows,h.each,h.eI⟩
def eM.Ty(h:eM w W g cv cs rv L bd ev es bo)(b':Int):eM w (W.setCell ⟨g,2,K⟩ (.int .i64 b')) g cv cs rv L b' ev es bo:=by
 have a:=h.hg;have m:=h.R8.set h.box 2 (.int .i64 b');exact⟨by rw[Uu _ _ _ _ (by simp;omega)];exact h.res,Ur W g 2 _ _ _ h.box,m.ah,m.rows,m.each,m.eI,di h.dg h.dg.size (by omega) _ _,a⟩
def eM.Tz(h:eM w W g cv cs rv L bd ev es bo)(b':Bool):eM w (W.setCell ⟨g,4,K⟩ (.bool b')) g cv cs rv L bd ev es b':=by
 have a:=h.hg;have m:=h.R8.set h.box 4 (.bool b');exact⟨by rw[Uu _ _ _ _ (by simp;omega)];exact h.res,Ur W g 4 _ _ _ h.box,m.ah,m.rows,m.each,m.eI,di h.dg h.dg.size (by omega) _ _,a⟩
def ff{c d e f h:U}{t:Uh}(a:W.heap[g]? =I (.cells #[c,d,e,f,h] t (0,0))):(aM W g 0 c/\aM W g 1 d/\aM W g 2 e/\aM W g 3 f/\aM W g 4 h)/\W.frozen? ⟨g,0,K⟩=T7/\W.frozen? ⟨g,1,K⟩=T7/\W.frozen? ⟨g,2,K⟩=T7/\W.frozen? ⟨g,3,K⟩=T7/\W.frozen? ⟨g,4,K⟩=T7:=
 ⟨⟨by simp[Us,a],by simp[Us,a],by simp[Us,a],by simp[Us,a],by simp[Us,a]⟩,by simp[UQ,a],by simp[UQ,a],by simp[UQ,a],by simp[UQ,a],by simp[UQ,a]⟩
def eM.fill(h:eM w W g cv cs rv L bd ev es bo):let a:=((((W.setCell ⟨w.heap.size,0,K⟩ cv).setCell ⟨w.heap.size,1,K⟩ rv).setCell ⟨w.heap.size,2,K⟩ (.int .i64 bd)).setCell ⟨w.heap.size,3,K⟩ ev).setCell ⟨w.heap.size,4,K⟩ (.bool bo)
 a.heap[w.heap.size]? =I (.cells #[cv,rv,.int .i64 bd,ev,.bool bo] 50 (0,0))/\Lk a w.heap.size cv cs rv L ev es/\aP w a:=by
 have c:=Ur W w.heap.size 0 _ _ cv h.res;have d:=Ur _ w.heap.size 1 _ _ rv c;have e:=Ur _ w.heap.size 2 _ _ (.int .i64 bd) d;have f:=Ur _ w.heap.size 3 _ _ ev e;have m:=Ur _ w.heap.size 4 _ _ (.bool bo) f;have i:=bT h.dg (T8 _) (T8 _) 0 cv;have j:=bT i (T8 _) (T8 _) 1 rv;have k:=bT j (T8 _) (T8 _) 2 (.int .i64 bd);have l:=bT k (T8 _) (T8 _) 3 ev;exact⟨m,((((h.R8.set h.res 0 cv).set c 1 rv).set d 2 (.int .i64 bd)).set e 3 ev).set f 4 (.bool bo),bT l (T8 _) (T8 _) 4 (.bool bo)⟩
end
def Tc (fn:WC):WV:=match fn.body with|some (.seq a _)=>a|_=>.skip
def Td (fn:WC):WV:=match fn.body with|some (.seq _ (.seq a _))=>a|_=>.skip
def Tj (fn:WC):WV:=match fn.body with|some (.seq _ (.seq _ (.seq _ (.seq _ (.seq _ (.seq _ (.seq _ a)))))))=>a|_=>.skip
def Pj:Wc.body=I (.seq (Tc Wc) (.seq (Td Wc) (.seq (Te Wc) (.seq (SR Wc) (.seq (Tg Wc) (.seq (Tf Wc) (.seq (Ti Wc) (Tj Wc)))))))):=rfl
def TF (w:F)(n:Nat)(bo:Bool)(e:WS)(w':F):Prop:=aP w w'/\∃cv cs rv L ev es,∃bd:Nat,e= .returned (.agg #[cv,rv,.int .i64 (bd:Int),ev,.bool bo])/\Lk w' w.heap.size cv cs rv L ev es/\mZ cs (L.map Ux) es bd/\L.length*cs.length<=n
def Pq(w W:F)(v:Nat->U)(g:Nat)(cv:U)(cs:List bL)(rv:U)(L:List (List aE×U))(ev:U)(es:List Int)(bd:Int)(bo:Bool)(y:v 3= .int .i64 bd)(z:v 4= .bool bo)(u:v 10= .pointer (I ⟨w.heap.size,0,K⟩))(x:v 11= .pointer (I ⟨g,0,K⟩))(n:lP bd)(c:eM w W g cv cs rv L 0 ev es T7)(B:∀b:Nat,1<=b->b<=100->mZ cs (L.map Ux) es b):
 (Tj Wc).wp (aB T4) (λe a' W'=>e= .ret/\(∃b:Nat,W'.heap[w.heap.size]? =I (.cells #[cv,rv,.int .i64 (b:Int),ev,.bool bo] 50 (0,0))/\Lk W' w.heap.size cv cs rv L ev es/\aP w W'/\mZ cs (L.map Ux) es b)/\Cc.Knows a' 156 [(10,.pointer (I ⟨w.heap.size,0,K⟩))]/\a'.defers=[]) (pW v) W:=by
 obtain⟨s,aJ,rfl⟩:=bC c.ah;obtain⟨D,aN,rfl⟩:=bC c.rows;obtain⟨t,bW,rfl⟩:=bC c.eI;have p:=af c;have q:=af B;have o:X (∀W:F,bH 23 #[.int .i64 bd,.int .i64 100] W λe S=>S=W/\∃a,e= .returned (.int .i64 a)/\0<=a/\a<100):=λW=>qc bd 100 W (by omega) (by omega) n.1 n.2;obtain⟨⟨-,-,E,-,-⟩,h,i,j,k,l⟩:=ff c.box;unfold pW;rw[y,z,u,x];clear y z u x c B n h i k l;unfold Tj Wc;dsimp only
 go_upto_region 28 with(go_at_call 23;refine(o.o _).mono ?_;rintro e H ⟨rfl,a,rfl,Q,R⟩;have P:XM.wrap (1+a)=1+a:=by rw[WY]<;>omega)
 obtain⟨b,d⟩:∃b:Nat,1+a=(b:Int):=⟨(1+a).toNat,by omega⟩;rw[d];have m:X (eM w (H.setCell ⟨g,2,K⟩ (.int .i64 (b:Int))) g (.slice s cs.length aJ) cs (.slice D L.length aN) L (b:Int) (.slice t es.length bW) es T7):=p.o.Ty _;have N:X (mZ cs (L.map Ux) es b):=q.o _ (by omega) (by omega);clear p q o E j P Q R d;generalize H.setCell ⟨g,2,K⟩ (.int .i64 (b:Int))=r at*;obtain⟨⟨-,-,-,-,G⟩,h,i,j,k,l⟩:=ff m.o.box;clear h i j k
 go_upto_region 29 with fail
 have f:X (eM w (r.setCell ⟨g,4,K⟩ (.bool bo)) g (.slice s cs.length aJ) cs (.slice D L.length aN) L (b:Int) (.slice t es.length bW) es bo):=m.o.Tz _;clear m G l;generalize r.setCell ⟨g,4,K⟩ (.bool bo)=T at*;obtain⟨⟨ae,al,E,am,G⟩,-⟩:=ff f.o.box;obtain⟨⟨V,Z,aa,ab,ad⟩,h,i,j,k,l⟩:=ff f.o.res;obtain⟨C,A,d⟩:=f.o.fill;have O:=af C;have M:=af A;have J:=af d;clear C A d f
 go_wp2_with fail
 exact⟨⟨b,O.o,M.o,J.o,N.o⟩,Am Y Y⟩
end Ec
namespace Cc
open Go Go.Conc
section
variable {P0 P:Uf}{Post:U->F->Prop}
def qI(h:Twins P0 P){fr fr':Ut}{aF tops' cs:List Ut}{w w':F}(ok:eN P0 fr aF)(A:w'.tape=w.tape)(s:∀ws,Mk P0 ws w->∃d,rX ws w d w'/\∀c,Steps P0 (lone fr (aF++[bG]) (sh c 0 ws)) (lone fr' (tops'++[bG]) (sh c 0 d)))(E:¬IW fr')
 (C:eN P0 fr' tops'->Sm w w'->tR P0 P Post (Ug fr' (tops'++cs)) w'):tR P0 P Post (Ug fr (aF++cs)) w:=by
 obtain⟨ws,t⟩:=D6 P0 w;obtain⟨d,q,s⟩:=s ws t;refine sX h (Stop:=λf x e=>f=fr'/\x=tops'/\∃c g,e=sh c g d) (λf x e u=>?_) ok t.hp t.un (λc=>⟨fr',tops',_,s c,rfl,rfl,c,0,rfl⟩) (λf x e u2 u G r j=>?_)
 ·obtain⟨rfl,_⟩:=u;exact E
 ·obtain⟨c,g,rfl,rfl,y,l,v⟩:=u;have B:e.heap=d.heap:=show(sh c g e).heap=(sh y l d).heap by rw[v]
  have m:=Qb r q B;have n:u2.os=w'.os:=by
   rw[r.un.os,q.un.os];exact show(sh c g e).os=(sh y l d).os by rw[v]
  have p:u2.output=w'.output:=by
   rw[r.un.output,q.un.output];exact show(sh c g e).output=(sh y l d).output by rw[v]
  have D:AtRel w' u2:=by
   refine⟨u2.drawn,?_⟩;have z:=j.tape.trans A.symm;obtain⟨H,I,J,K,L⟩:=u2;simp only at m n p z;subst m n p z;rfl
  exact Rm (C G ⟨A,n▸j.os,p▸j.output,m▸j.size⟩) D
def Ft (P0 P:Uf)(Post:U->F->Prop)(l:Nat)(args:Array U)(w:F)(R:U->F->Prop):Prop:=
 ∃c:Loop,w.heap[l]? =I (.loop c)/\bn P0 (.loop c)/\args.size=c.params.size/\∀(d:Ut) (cs:List Ut),eN P0 d []->Qv d->xG P0 w->
  (∀v e,R v e->xG P0 e->Sm w e->eN P0 (d.finish v) []->tR P0 P Post (Ug (d.finish v) cs) e)->
  eN P0 (WX l c.fn ((c.params.zip args).foldl (λg (f,a)=>g.setIfInBounds f a) c.tmps) c.assign c.body .normal) [d]->tR P0 P Post (Ug (WX l c.fn ((c.params.zip args).foldl (λg (f,a)=>g.setIfInBounds f a) c.tmps) c.assign c.body .normal) (d::cs)) w
section
variable {b:Ut}{a:V6}{k:List WM}{cs:List Ut}{w:F}{ops:Array Vu}{i:Nat}{rest:List Nat}{o:Vu}
def MV(h:Twins P0 P){x:U6}{f:Array U6}{ats:Array Uh}{l:Nat}{R:U->F->Prop}(n:ops[i]? =I o)(L:UF o (Vj ops a.tmps)=Z)(A:o.op= .call {callee:=.value x,args:=f,argTypes:=ats})(M:a.eval x= .func (.yield l) #[] #[])
 (hR:Ft P0 P Post l (f.map a.eval) w R) (u:∀v w',R v w'->Sm w w'->Fh P0 P Post (b.at (a.put o.dst v) (.inRegion ops rest::k)) cs w'):Fh P0 P Post (b.at a (.inRegion ops (i::rest)::k)) cs w:=by
 intro q O;obtain⟨c,C,D,H,y⟩:=hR;have E:∀d,Mk P0 d w->∀e,(UH a.eval o).run P0 (sh e 0 d)= .ok (.round l c.fn ((c.params.zip (f.map a.eval)).foldl (λtmps (j,a)=>tmps.setIfInBounds j a) c.tmps) c.assign c.body) (sh e 0 d):=λd g e=>by
  have r:(sh e 0 d).heap[l]? =I (.loop c):=g.at_ l _ C D;have t:=run_yield (P:=P0) (args:=f.map a.eval) r H;unfold UH;simp[A,resolve,XN,M,invoke,t]
 refine qI (aF:=[]) (tops':=[b.at a (.inRegion ops (i::rest)::k)]) (fr':=WX l c.fn ((c.params.zip (f.map a.eval)).foldl (λtmps (j,a)=>tmps.setIfInBounds j a) c.tmps) c.assign c.body .normal) (w':=w) h q Y (λd g=>⟨d,g.un.two,λe=>.one (step_lone_go ?_)⟩) (λz=>?_) λN Q=>?_
 ·rw[stepG_op n L];simp[VN,E d g e]
 ·obtain⟨_,s,J⟩:=z;simp[WX] at J
 ·refine y _ cs q ⟨rfl,.inl ⟨ops,i,rest,k,rfl⟩⟩ trivial (λv w' K B G p=>?_) N;have m:=XG b a ops i rest k v;rw[n] at m;rw[m] at p ⊢;exact u v w' K G p B
end
section
variable {b:Ut}{k:List WM}{cs:List Ut}{ops:Array Vu}
def Py{o:Vu}{i:Nat}{rest:List Nat}{a:V6}{w:F}{next:V6->F->Prop}{Q:Exit->V6->F->Prop}(n:ops[i]? =I o)(z:UF o (Vj ops a.tmps)=Z)(x:∀c,o.op≠.defer c)(r:∀ch a w,¬Q (.panic ch) a w)(y:¬LetsOut Q)(h:o.wp P0 a w next Q):
 ∃a' w',next a' w'/\Steps P0 (lone (b.atR a (.inRegion ops (i::rest)::k)) cs w) (lone (b.atR a' (.inRegion ops rest::k)) cs w'):=by
 have e:=stepGR_op (P:=P0) (b:=b) (k:=k) (cs:=cs) (w:=w) (rest:=rest) n z;rw[Oper.semAt_eq _ _ _ x] at e;have j:∀v,(b.atR a (.inRegion ops (i::rest)::k)).finish v=b.atR (a.put o.dst v) (.inRegion ops rest::k):=by
  intro v;rw[Frame.finish_atR,n];rfl
 simp only[Oper.wp,Oper.upon] at h
 split at h
 ·rename_i v w' d;refine⟨_,_,h,.one (step_lone_go ?_)⟩;rw[e,<-j];simp[VN,d]
 ·rename_i w' d;refine⟨_,_,h,.one (step_lone_go ?_)⟩;rw[e,<-j];simp[VN,d]
 ·rename_i l w' d;refine⟨_,_,h,.one (step_lone_go ?_)⟩;have t:({b.atR a (.inRegion ops (i::rest)::k) with defers:=l::a.defers}:Ut).finish Vk=b.atR ({a with defers:=l::a.defers}.put o.dst Vk) (.inRegion ops rest::k):=by
   have:=Frame.finish_atR b {a with defers:=l::a.defers} ops i rest k Vk;rw[n] at this;exact this
  rw[e];simp only[VN,Yd,d,GStep.bare_after];exact congrArg (λq=>GStep.go {frame:=q,callers:=cs,status:=.running,dying:=K} w') t
 ·rename_i f args w' d;obtain⟨s,B,q,g,p,_,u⟩:=h (b.atR a (.inRegion ops (i::rest)::k)::cs);have m:step P0 (lone (b.atR a (.inRegion ops (i::rest)::k)) cs w)= .next (lone (UY P0 f args .normal) (b.atR a (.inRegion ops (i::rest)::k)::cs) w'):=
   step_lone_go (by rw[e];simp[VN,d,Frame.atR])
  cases s with
  |returned v=>
   refine⟨_,_,g,.head m (p.trans (.one ?_))⟩;rw[<-j];exact step_leave_returned u
  |panicked C=>exact absurd g (r _ _ _)
  |outgrown=>exact absurd g y
 ·rename_i A args w' d;obtain⟨v,B,g,p⟩:=h (b.atR a (.inRegion ops (i::rest)::k)) cs;have m:step P0 (lone (b.atR a (.inRegion ops (i::rest)::k)) cs w)= .next (lone (Frame.ofRow P0 A args .normal) (b.atR a (.inRegion ops (i::rest)::k)::cs) w'):=
   step_lone_go (by rw[e];simp[VN,d,Frame.atR])
  refine⟨_,_,g,.head m ?_⟩;rw[<-j];exact p
 ·exact absurd h (r _ _ _)
 ·exact h.elim
def B5:Op->Bool
 | .defer _=>Z
 |_=>T7
def QF{Q:Exit->V6->F->Prop}(rest:List Nat)(v:(ops.toList.all λo=> !B5 o.op)=Z)(x:∀ch a w,¬Q (.panic ch) a w)(n:¬LetsOut Q):∀(l:List Nat) (a:V6) (w:F),wpOps P0 ops Q l a w->
 ∃a' w',Q .normal a' w'/\Steps P0 (lone (b.atR a (.inRegion ops (l++rest)::k)) cs w) (lone (b.atR a' (.inRegion ops rest::k)) cs w'):=by
 intro l
 induction l with
 |nil=>exact λa w c=>⟨a,w,c,.refl _ _⟩
 |cons i l j=>
  intro a w c;simp only[wpOps] at c;cases d:ops[i]? with
  |none=>
   simp only[d] at c;have g:=stepR_op_skip (P:=P0) (b:=b) (a:=a) (k:=k) (cs:=cs) (w:=w) (ops:=ops) (i:=i) (rest:=l++rest) (by simp[d]);simp only[d,Option.bind_none,UW] at g;obtain⟨a',w',e,f⟩:=j a w c;exact⟨a',w',e,.head g f⟩
  |some o=>
   simp only[d] at c;have t:∀m,o.op≠.defer m:=λm q=>by
    obtain⟨u,rfl⟩:=Ub.1 d;have:=Uz.1 v _ (Array.getElem_mem_toList u);rw[q] at this;cases this
   by_cases h:UF o (Vj ops a.tmps)=Z
   ·simp only[h,if_true] at c;rcases c with c|⟨_,c⟩
    ·obtain⟨a',w',e,f⟩:=Py (b:=b) (k:=k) (cs:=cs) (rest:=l++rest) d h t x n c;obtain⟨p,y,r,s⟩:=j a' w' e;exact⟨p,y,r,f.trans s⟩
    ·exact absurd c n
   ·simp only[h,if_false,UB] at c;have g:=stepR_op_skip (P:=P0) (b:=b) (a:=a) (k:=k) (cs:=cs) (w:=w) (ops:=ops) (i:=i) (rest:=l++rest) (by simp[d];simpa using h);simp only[d,XR] at g;obtain⟨a',w',e,f⟩:=j _ w c;exact⟨a',w',e,.head g f⟩
end
end
section
variable {P0 P:Uf}{Post:U->F->Prop}{b:Ut}{a:V6}{k:List WM}{cs:List Ut}{w:F}
def A9 (fn:V1)(tmps:Array U)(ps:Array Tmp)(assign body:WV)(D:Nat):Loop:={state:=.ready,pending:=K,fn,tmps,params:=ps,assign,body,defers:=D}
def MU(h:Twins P0 P){g:U6}{ps:Array Tmp}{assign body:WV}{gf:V1}{cap:Array U}{R:WS->F->Prop}(u:a.eval g= .func (.func gf) #[] cap)(hc:∀args w,(callFunc gf args).run P0 w= .ok (.enter gf args) w)(r:P.funcs[gf]? =P0.funcs[gf]? \/UY P gf (#[.func (.yield (w.heap.size+1)) #[] #[]]++cap) .normal=UY P0 gf (#[.func (.yield (w.heap.size+1)) #[] #[]]++cap) .normal)
 (hR:mi P0 P Post gf (#[.func (.yield (w.heap.size+1)) #[] #[]]++cap) ((w.alloc (.deferred (I []))).alloc (.loop (A9 b.fn a.tmps ps assign body w.heap.size))) R)
 (n:∀v w',R (.returned v) w'->Sm w w'->Fh P0 P Post (b.at {a with defers:={target:=.collected w.heap.size,args:= #[]}::a.defers} (.endRangeFunc (w.heap.size+1)::k)) cs w') (x:∀ch w',¬R (.panicked ch) w') (y:∀w',¬R .outgrown w') (z:∀s,(UY P0 gf (#[.func (.yield (w.heap.size+1)) #[] #[]]++cap) .normal).todo≠[.code (.refuse s)]):Fh P0 P Post (b.at a (.code (.rangeFunc g ps assign body)::k)) cs w:=by
 intro ok J;have t:UY P gf (#[.func (.yield (w.heap.size+1)) #[] #[]]++cap) .normal=UY P0 gf (#[.func (.yield (w.heap.size+1)) #[] #[]]++cap) .normal:=by
  rcases r with d|d
  ·unfold UY;rw[d]
  ·exact d
 let j:Ut:={b with roundOf:=K};have H:∀a todo,j.atR a todo=b.at a todo:=λa todo=>rfl;refine qI (aF:=[]) (tops':=[b.at {a with defers:={target:=.collected w.heap.size,args:= #[]}::a.defers} (.inRangeFunc (w.heap.size+1)::k)]) (fr':=UY P0 gf (#[.func (.yield (w.heap.size+1)) #[] #[]]++cap) .normal) (w':=(w.alloc (.deferred (I []))).alloc (.loop (A9 b.fn a.tmps ps assign body w.heap.size))) h ok Y (λc i=>⟨(c.alloc (.deferred (I []))).alloc (.loop (A9 b.fn a.tmps ps assign body w.heap.size)),?_,λm=>.one ?_⟩) (λp=>?_) λl D=>?_
 ·exact(i.un.push (by simp[pz])).trans ((i.un.push (by simp[pz])).un.push (by simp[pz]))
 ·rw[<-i.un.size.symm];have e:=run_enterLoop_outer (P:=P0) (w:=sh m 0 c) b.fn a.tmps ps assign body;have C:=stepR_rangeFunc (P:=P0) (b:=j) (a:=a) (k:=k) (cs:=[bG]) (w:=sh m 0 c) (g:=g) (ps:=ps) (assign:=assign) (body:=body) (w₁':=_) (d:={target:=.fn (.func gf) cap,args:= #[.func (.yield (c.heap.size+1)) #[] #[]]}) (f:=gf) (args:= #[.func (.yield (c.heap.size+1)) #[] #[]]++cap) e (by
   have d:a.eval (.const (.func (.yield (c.heap.size+1)) #[] #[]))= .func (.yield (c.heap.size+1)) #[] #[]:=rfl;simp[resolve,rangeCall,u,XN,sh];exact⟨rfl,rfl⟩) (by simp only[invoke];exact hc _ _)
  exact C
 ·obtain⟨_,s,G⟩:=p;exact z s G
 ·have o:eN P0 (b.at {a with defers:={target:=.collected w.heap.size,args:= #[]}::a.defers} (.inRangeFunc (w.heap.size+1)::k)) []:=⟨l.rest _ (by simp),λf q=>by simp at q,l.bot⟩;show tR P0 P Post (Ug (UY P0 gf _ .normal) _) _;rw[<-t];refine hR _ cs o ⟨rfl,.inr ⟨_,_,rfl⟩⟩ trivial λd w' e B E A=>?_;cases d with
  |returned v=>exact n v w' e (D.trans E) A B
  |panicked ch=>exact absurd e (x _ _)
  |outgrown=>exact absurd e (y _)
def Ee(h:Twins P0 P){l:Nat}{r:Loop}(m:w.heap[l]? =I (.loop r))(o:bn P0 (.loop r))(p:r.state≠.busy)(d:r.pending=K)(n:∀s,k≠[.code (.refuse s)])(g:Fh P0 P Post (b.at a k) cs (w.putObj l (.loop {r with state:=.exhausted}))):Fh P0 P Post (b.at a (.endRangeFunc l::k)) cs w:=by
 intro t B;let f:Ut:={b with roundOf:=K};refine qI (aF:=[]) (tops':=[]) (fr':=b.at a k) (w':=w.putObj l (.loop {r with state:=.exhausted})) h t Y (λe c=>⟨e.putObj l (.loop {r with state:=.exhausted}),c.un.set l (by simp[pz]),λv=>.one ?_⟩) (λi=>?_) λu C=>g u trivial
 ·have j:=run_endLoop (P:=P0) (w:=sh v 0 e) (l:=l) (r:=r) (c.at_ l _ m o) p;have:=stepR_endRangeFunc (P:=P0) (b:=f) (a:=a) (k:=k) (cs:=[bG]) j;obtain⟨F,D,A,G,E,x,y,z⟩:=r;simp only at d;subst d;exact this
 ·obtain⟨_,s,q⟩:=i;exact n s q
def Ca(h:Twins P0 P){D:Nat}{todo:List WM}(c:a.defers=[{target:=.collected D,args:= #[]}])(f:w.heap[D]? =I (.deferred (I [])))(g:Fh P0 P Post {b.at {a with defers:=[]} todo with mode:=.returning} cs (w.putObj D (.deferred K))):Fh P0 P Post {b.at a todo with mode:=.returning} cs w:=by
 intro j o;refine qI (aF:=[]) (tops':=[]) (fr':={b.at {a with defers:=[]} todo with mode:=.returning}) (w':=w.putObj D (.deferred K)) h j Y (λe d=>⟨e.putObj D (.deferred K),d.un.set D (by simp[pz]),λm=>.one (step_lone_go ?_)⟩) (λc=>?_) λl p=>g l trivial
 ·have i:=run_takeDeferred (P:=P0) (w:=sh m 0 e) (b:=D) (ds:=[]) (d.at_ D _ f (λn c=>by cases c));simp[stepG,unwind,Frame.at,c,i,Yd,GStep.bare_after];rfl
 ·obtain⟨d,_⟩:=c;cases d
end
end Cc
namespace Cc
open Go Go.Conc
open Go.RowKit (Below)
def Xe (P0 P:Uf)(Post:U->F->Prop)(own:Nat->Prop)(fr:Ut)(cs:List Ut)(w:F):Prop:=
 (∀b,own b->b<w.heap.size)->∀c,RelB own w c->xG P0 c->tR P0 P Post (Ug fr cs) c
def JS:Nat->Prop:=λ_=>False
def RE{own:Nat->Prop}{w c:F}(h:RelB own w c):RelB (λb=>JS b\/own b) w c:=h.mono λb d=>d.elim Yq (λh=>h)
def Gd{own:Nat->Prop}{w c:F}(h:RelB (λb=>JS b\/own b) w c):RelB own w c:=h.mono λb d=>.inr d
def ir(P0 P:Uf)(Post:U->F->Prop):nQ P0 P JS Z (Xe P0 P Post):=by
 refine⟨λown y cs w c h p f n=>?_,λown y cs w p c f h u C n=>?_⟩
 ·refine yJ λu e=>?_;obtain⟨q,rfl⟩:=e;obtain⟨G,E,g,x,v,d,D⟩:=c (p.at q) (RE (f.trans (RelB.at _ _ _)));have j:∀b,cU own (p.at q) g b->b<g.heap.size:=λb A=>A.elim (λc=>Ud (h b c) (Uy f.size d.size)) (λc=>c.2);refine⟨_,g,x,v,rfl,⟨d.size,d.tape,d.os,d.output,d.hp,λr B=>?_⟩,D j g (RelB.refl _ _) (d.hp n)⟩;have:=d.evs r B;unfold EvW at this;unfold C7;cases l:r.loc with
  |cell a=>rw[l] at this;exact this.elim (j _) (λc=>c.1.elim)
  |obj H=>rw[l] at this;exact this.elim (j _) (λc=>c.1.elim)
  |mark m=>rw[l] at this;exact this
  |_=>trivial
 ·have t:=Gd f;refine c (λb s=>?_) u (t.trans C) n;have z:=h b s;have e:=t.at_ b s;rw[UU z] at e;exact(Ub.1 e.symm).1
def yA (P:Uf):WM->Bool
 | .code c| .inLoop c=>bp P T7 c
 | .inBlock _| .inRangeFunc _| .endRangeFunc _=>Z
 | .inRegion ops _=>ops.toList.all λo=>mD P T7 o.op
 |_=>T7
def dJ{P:Uf}{b:Ut}{a:V6}{todo:List WM}(c:b.kind= .normal)(e:a.defers=[])(l:(todo.all (yA P))=Z):eN P (b.at a todo) []:=by
 refine⟨⟨λi j=>?_,λd g=>?_,.inl c⟩,λf h=>by simp at h,c⟩
 ·have:=Uz.1 l i j;cases i<;>first|exact this|trivial|cases this
 ·have:d∈a.defers:=g;rw[e] at this;cases this
section
variable {P0 P:Uf}{Post:U->F->Prop}{own:Nat->Prop}{cs:List Ut}{w:F}{b:Ut}{a:V6}{k:List WM}{ops:Array Vu}{i:Nat}{rest:List Nat}{o:Vu}
def grown(own:Nat->Prop)(n m:Nat):Nat->Prop:=λb=>own b\/(n<=b/\b<m)
def sD{f:V1}{fn:WC}{c:WV}{args:Array U6}{ats:Array Uh}{vs:Array U}{R:F->WS->F->Prop}(y:b.kind= .normal)(D:ops[i]? =I o)(L:UF o (Vj ops a.tmps)=Z)(E:o.op= .call {callee:=.value (.func f),args,argTypes:=ats})(u:args.map a.eval=vs)
 (A:P.funcs[f]? =I fn) (B:(fn.name == "runtime.NumGoroutine")=T7) (x:fn.body=I c) (J:eN P0 (b.at a (.inRegion ops (i::rest)::k)) []) (hR:∀d,RelB own w d->mi P0 P Post f vs d (R d))
 (t:∀d v w',RelB own w d->R d (.returned v) w'->Sm d w'->xG P0 w'->tR P0 P Post (Ug (b.at (a.put o.dst v) (.inRegion ops rest::k)) cs) w') (hP:∀d ch w',¬R d (.panicked ch) w') (C:∀d w',¬R d .outgrown w'):Xe P0 P Post own (b.at a (.inRegion ops (i::rest)::k)) cs w:=by
 intro M d m G;have:=Pw (P0:=P0) (P:=P) (Post:=Post) (b:=b) (a:=a) (k:=k) (cs:=cs) (w:=d) (R:=λh w'=>∃e,R (d.at e) h w') y D L E A B x (λO l=>by
  obtain⟨e,rfl⟩:=l;rw[u];intro n p q l r s;exact hR _ (m.trans (RelB.at _ _ _)) n p q l r λh w' z=>s h w' ⟨e,z⟩) (λv w' ⟨e,K⟩ g N H=>t (d.at e) v w' (m.trans (RelB.at _ _ _)) K ⟨g.tape,g.os,g.output,g.size⟩ H) (λch w' ⟨e,j⟩=>absurd j (hP _ _ _)) (λw' ⟨e,j⟩=>C _ _ j)
 exact this J G
def C5(h:Twins P0 P){f:V1}{fn:WC}{c:WV}{args:Array U6}{ats:Array Uh}{vs:Array U}{R:F->WS->F->Prop}(L:b.kind= .normal)(q:ops[i]? =I o)(aa:UF o (Vj ops a.tmps)=Z)(S:o.op= .call {callee:=.value (.func f),args,argTypes:=ats})(K:args.map a.eval=vs)
 (N:P.funcs[f]? =I fn) (Q:(fn.name == "runtime.NumGoroutine")=T7) (x:fn.body=I c) (O:P.funcs[f]? =P0.funcs[f]?) (V:eN P0 (b.at a (.inRegion ops (i::rest)::k)) [])
 (hR:∀W,(∀b o,own b->w.heap[b]? =I o->bn P0 o->W.heap[b]? =I o)->w.heap.size<=W.heap.size->Calls P0 f vs W λe W'=>aP W W'/\∃v,e= .returned v/\R W (.returned v) W')
 (H:∀v w' W W',(∀b o,own b->w.heap[b]? =I o->bn P0 o->W.heap[b]? =I o)->w.heap.size<=W.heap.size->aP W W'->R W (.returned v) W'->Un W' w'->RelB own w w'->Xe P0 P Post (grown own W.heap.size w'.heap.size) (b.at (a.put o.dst v) (.inRegion ops rest::k)) cs w'):Xe P0 P Post own (b.at a (.inRegion ops (i::rest)::k)) cs w:=by
 intro y;refine sD (P0:=P0) (R:=λn e ab=>∃m,Mk P0 m n/\Tl m n (λe W'=>∃W,W.heap=m.heap/\aP W W'/\∃v,e= .returned v/\R W (.returned v) W') e ab) L q aa S K N Q x V (λn d=>?_) (λn v w' d Y z T=>?_) (λn ad w' ⟨_,_,_,_,_,_,W,_,_,v,e,_⟩=>by cases e) (λn w' ⟨_,_,_,_,_,_,W,_,_,v,e,_⟩=>by cases e) y
 ·obtain⟨m,l⟩:=D6 P0 n;intro B C p g E G;exact pM h l.hp l.un O (λw' ⟨W,_,_,v,e,_⟩=>by cases e) (λr=>(hR (sh r 0 m) (λb o x q t=>l.at_ b o ((d.at_ b x).trans q) t) (by show w.heap.size<=m.heap.size;rw[<-l.un.size];exact d.size)).mono λe W' ⟨p,g⟩=>⟨sh r 0 m,rfl,p,g⟩) B C p g E λe w' M=>G e w' ⟨m,l,M⟩
 obtain⟨m,l,r,D,W',g,W,u,s,ae,e,J⟩:=Y;cases e;have X:W.heap.size<=w'.heap.size:=by rw[g.un.size];exact s.size
 have A:W.heap.size=n.heap.size:=by rw[u,l.un.size]
 have hrel:RelB own w w':=⟨λb j=>by
  have p:W'.heap[b]? =W.heap[b]? :=s.block b (by rw[A];exact Ud (y b j) d.size);exact(g.same l.un (by rw[p,u])).trans (d.at_ b j),Uy d.size (by rw[<-A];exact X),z.tape.trans d.tape,z.os.trans d.os,z.output.trans d.output⟩
 refine H v w' W (sh r D W') (λb o j q t=>by rw[u];exact l.at_ b o ((d.at_ b j).trans q) t) (by rw[A];exact d.size) s J ⟨g.un.size,g.un.at_,g.un.os,g.un.output⟩ hrel (λb j=>?_) w' (RelB.refl _ _) T;rcases j with j|j
 ·exact Ud (y b j) hrel.size
 ·exact j.2
def Qh(h:Twins P0 P){x:U6}{d:Array U6}{ats:Array Uh}{vs:Array U}{l:Nat}{R:F->U->F->Prop}(j:ops[i]? =I o)(t:UF o (Vj ops a.tmps)=Z)(m:o.op= .call {callee:=.value x,args:=d,argTypes:=ats})(u:a.eval x= .func (.yield l) #[] #[])(g:d.map a.eval=vs)(r:eN P0 (b.at a (.inRegion ops (i::rest)::k)) [])
 (hR:∀c,RelB own w c->Ft P0 P Post l vs c (R c)) (f:∀c v w',RelB own w c->R c v w'->Sm c w'->xG P0 w'->tR P0 P Post (Ug (b.at (a.put o.dst v) (.inRegion ops rest::k)) cs) w'):Xe P0 P Post own (b.at a (.inRegion ops (i::rest)::k)) cs w:=by
 intro y c e n;exact MV h j t m u (by rw[g];exact hR c e) (λv w' s q _ p=>f c v w' e s q p) r n
def Xe.go{fr:Ut}(h:Xe P0 P Post own fr cs w)(c:∀b,own b->b<w.heap.size)(d:xG P0 w):tR P0 P Post (Ug fr cs) w:=h c w (RelB.refl _ _) d
end
section
variable {P:Uf}{a:V6}{o:Vu}
def yK{t:Uh}{x:U6}{c:Bool}(e:o.op= .unOp .not t x)(f:a.eval x= .bool c):∀d,(UH a.eval o).run P d= .ok (.value (.bool (!c))) d/\(UH a.eval o).events P d #[]=#[]:=λd=>by
 unfold UH;simp[e,f,Op.unary]
end
def oW{o:Vu}{ops:Array Vu}{z:V6}{j d:Nat}{want b:Bool}(g:o.guard=I (j,want))(e:jf ops j=I d)(c:aW z d= .bool b)(f:d<z.tmps.size):UF o (Vj ops z.tmps)=(b==want):=by
 unfold UF Vj;rw[g];unfold jf at e;unfold aW at c;rw[UD,UU f] at c;simp only[e,XR,UU f];simp only[V2] at c;rw[c];cases b<;>cases want<;>rfl
def Knows.want{a:V6}{n:Nat}{l:List (Nat×U)}(c:Knows a n l){o:Vu}{ops:Array Vu}{j d:Nat}{want b:Bool}(f:o.guard=I (j,want))(e:jf ops j=I d)(h:l.lookup d=I (.bool b))(g:d<n):UF o (Vj ops a.tmps)=(b==want):=oW f e (c.slot d _ h) (by rw[c.size];exact g)
def sN{P0 P:Uf}{S:Nat->Prop}{m:Bool}{f:(Nat->Prop)->Ut->List Ut->F->Prop}{own:Nat->Prop}{cs:List Ut}{w:F}{b:Ut}{a:V6}{k:List WM}{ops:Array Vu}{i:Nat}{rest:List Nat}{o:Vu}(h:nQ P0 P S m f){n:Nat}{l:List (Nat×U)}(g:Knows a n l){d j e:Nat}{want c:Bool}(s:Knows (a.put (I d) Vk) n ((d,Vk)::l)->f own (b.at (a.put (I d) Vk) (.inRegion ops rest::k)) cs w)(x:ops[i]? =I o:=by rfl)(r:o.guard=I (j,want):=by rfl)(q:jf ops j=I e:=by rfl)(y:l.lookup e=I (.bool c):=by rfl)(t:e<n:=by decide)(v:(c==want)=T7:=by rfl)(p:o.dst=I d:=by rfl)(u:d<n:=by decide):f own (b.at a (.inRegion ops (i::rest)::k)) cs w:=
 xT h x ((g.want r q y t).trans v) (by rw[p];exact s (g.put u Vk))
end Cc
namespace Cc
open Go
section
variable {P P':Uf}{O:Obj->Prop}
def tD(a:Twin P P')(b:Plain O)(v:U):St P P' O (YD v):=by
 unfold YD;refine cC ?_ ?_
 ·have:∀v,handleType P' v=handleType P v:=λv=>by unfold handleType;rw[a.yp]
  rw[this]
 ·((try dsimp only);repeat' first|exact bN a _|exact aA _|exact sx a _|assumption|(refine ag ?_ (λ_=>?_))|intro _|split|(dsimp only)|exact trivial)
def CO(a:Twin P P')(b:Plain O)(i:Xg):St P P' O (YE i):=by
 unfold YE
 ((try dsimp only);repeat' first|exact bN a _|assumption|(refine ag ?_ (λ_=>?_))|intro _|split|(dsimp only)|exact trivial)
def zF(b:Twin P P')(a:Plain O)(args:Array U):St P P' O (Ys args):=by
 unfold Ys YI
 ((try dsimp only);repeat' first|exact bQ b a _|exact tE _ _|(refine aZ _ ?_;rfl)|exact qm _|exact og b a _|exact tD b a _|exact CO b a _|assumption|(refine ag ?_ (λ_=>?_))|(refine bV ?_ ?_)|intro _|split|(dsimp only)|exact trivial)
def Rs{o:Option String}{a:String->Wu U}{b:Unit->Wu U}(h1:∀f,St P P' O (a f))(c:St P P' O (b ())):St P P' O (YK (λ_=>Wu U) o a b):=by
 cases o with
 |none=>exact c
 |some f=>exact h1 f
def GQ(args:Array U):St P P' O (YR args):=by
 have a:∀s:String,St P P' O (stuck s:Wu U):=λs=>aA s;obtain⟨c⟩:=args;rcases c with _|⟨v,_|⟨o,c⟩⟩
 case cons.nil=>
  cases v with
  |agg b=>
   obtain⟨d⟩:=b;rcases d with _|⟨e,_|⟨g,_|⟨h,_|⟨i,_|⟨k,d⟩⟩⟩⟩⟩
   case cons.cons.cons.cons.nil=>
    cases e with
    |int l b=>
     cases g with
     |int m p=>
      cases h with
      |bool s=>
       cases i with
       |int n j=>
        refine Rs (o:=(if (s&&decide (b<0))=Z then YM else YO)[j.toNat]?) (λf=>?_) ?_
        ·exact trivial
        ·exact a _
       |_=>exact a _
      |_=>exact a _
     |_=>exact a _
    |_=>exact a _
   all_goals exact a _
  |_=>exact a _
 all_goals exact a _
def G3(c:Twin P P')(b:Plain O)(args:Array U):St P P' O (Yo args):=by
 have a:∀s:String,St P P' O (stuck s:Wu U):=λs=>aA s;unfold Yo YI;obtain⟨d⟩:=args;rcases d with _|⟨v,_|⟨j,d⟩⟩
 case cons.nil=>
  cases v with
  |agg f=>
   obtain⟨e⟩:=f;rcases e with _|⟨g,_|⟨h,e⟩⟩
   case cons.nil=>
    refine ag (tD c b _) λi=>?_
    split
    ·exact trivial
    ·exact bQ c b _
   all_goals exact a _
  |_=>exact a _
 all_goals exact a _
def EP(a:UJ)(n:Nat)(b:ByteArray):St P P' O (YJ a n b):=by
 induction n generalizing a b with
 |zero=>exact trivial
 |succ n c=>
  unfold YJ;refine ag (tE _ _) λv=>?_
  split
  ·exact c _ _
  ·exact aA _
def zv(v:U):St P P' O (YL v):=by
 unfold YL
 split<;>first|exact trivial|exact EP _ _ _|exact aA _
def EM(args:Array U):St P P' O (Xy args):=by
 have b:∀s:String,St P P' O (stuck s:Wu U):=λs=>aA s;unfold Xy;obtain⟨a⟩:=args;rcases a with _|⟨c,_|⟨d,_|⟨e,a⟩⟩⟩
 case cons.cons.nil=>exact ag (zv _) λ_=>ag (zv _) λ_=>trivial
 all_goals exact b _
def dX(b:Twin P P')(a:Plain O):∀r∈Va,∀args,St P P' O (r.2 args):=by
 intro r c args;simp only[Va,VM,XQ,or_false] at c;rcases c with rfl|rfl|rfl|rfl|rfl|rfl|rfl|rfl|rfl|rfl|rfl|rfl|rfl|rfl|rfl
 all_goals first
  |exact GQ _
  |exact zF b a _
  |exact G3 b a _
  |exact trivial
  |exact ag (qm _) λ_=>trivial
  |exact ag (zq _) λ_=>ag (qm _) λ_=>trivial
  |exact ag (zq _) λ_=>ag (k9 _) λ_=>trivial
def GZ(a:11<Yn.length)(args:Array U):St P P' O ((Yn[11]'a).2 args):=ag (k9 (args.getD 0 (.tuple #[]))) λ_=>trivial
def fW{fn:WC}{n:String}{e:Array U->Wu U}(c:fn.name=n)(h1:(Extern.allGenericRows.lookup n).isNone=Z)(a:(Extern.allTypedRows.lookup n).isNone=Z)(b:Extern.allRows.lookup n=I e):YB fn=I e:=by
 unfold YB;dsimp only;rw[c,V0.1 h1,V0.1 a,b];rfl
def uw{fn:WC}{n m:String}(d:fn.name=n)(c:fn.origin=m)(h1:(Extern.allGenericRows.lookup n).isNone=Z)(a:(Extern.allTypedRows.lookup n).isNone=Z)(b:(Extern.allRows.lookup n).isNone=Z)(e:(Extern.allGenericRows.lookup m).isNone=Z)(f:(Extern.allTypedRows.lookup m).isNone=Z)(g:(Extern.allRows.lookup m).isNone=Z):YB fn=K:=by
 unfold YB;dsimp only;rw[d,c,V0.1 h1,V0.1 a,V0.1 b,V0.1 e,V0.1 f,V0.1 g];rfl
end
def Ht:(T4.funcs.toList.all λfn=> !fn.body.isNone||(([Tryz.f0.name,Tryz.f1.name,Tryz.f168.name,Tryz.f179.name,Tryz.f180.name,Tryz.f181.name,Tryz.f182.name,Tryz.f183.name,Tryz.f184.name,Tryz.f185.name,Tryz.f186.name,Tryz.f187.name,Tryz.f188.name,Tryz.f189.name,Tryz.f190.name,Tryz.f191.name,Tryz.f192.name,Tryz.f193.name,Tryz.f194.name]:List String).contains fn.name&&fn.origin==Tryz.f0.origin))=Z:=by kernel_rfl
def RU{fn:WC}(a:(([Tryz.f0.name,Tryz.f1.name,Tryz.f168.name,Tryz.f179.name,Tryz.f180.name,Tryz.f181.name,Tryz.f182.name,Tryz.f183.name,Tryz.f184.name,Tryz.f185.name,Tryz.f186.name,Tryz.f187.name,Tryz.f188.name,Tryz.f189.name,Tryz.f190.name,Tryz.f191.name,Tryz.f192.name,Tryz.f193.name,Tryz.f194.name]:List String).contains fn.name)=Z)(f:fn.origin=Tryz.f0.origin){e:Array U->Wu U}(b:YB fn=I e)(args:Array U):St (aB T4) T4 (bn (aB T4)) (e args):=by
 have d:=M7;have c:=eA (aB T4);simp only[List.contains_cons,List.contains_nil,Bool.or_false,WT,beq_iff_eq] at a;rcases a with a|a|a|a|a|a|a|a|a|a|a|a|a|a|a|a|a|a|a
 ·rw[uw a f (by kernel_rfl) (by kernel_rfl) (by kernel_rfl) (by kernel_rfl) (by kernel_rfl) (by kernel_rfl)] at b;cases b
 ·rw[uw a f (by kernel_rfl) (by kernel_rfl) (by kernel_rfl) (by kernel_rfl) (by kernel_rfl) (by kernel_rfl)] at b;cases b
 ·rw[fW (e:=Xy) a (by kernel_rfl) (by kernel_rfl) (by kernel_rfl)] at b;cases b;exact EM _
 ·rw[fW (e:=(Va[4]'(by decide)).2) a (by kernel_rfl) (by kernel_rfl) (by kernel_rfl)] at b;cases b;exact dX d c _ (Uj _) _
 ·rw[fW (e:=(Va[11]'(by decide)).2) a (by kernel_rfl) (by kernel_rfl) (by kernel_rfl)] at b;cases b;exact dX d c _ (Uj _) _
 ·rw[fW (e:=(Va[0]'(by decide)).2) a (by kernel_rfl) (by kernel_rfl) (by kernel_rfl)] at b;cases b;exact dX d c _ (Uj _) _
 ·rw[fW (e:=(Va[8]'(by decide)).2) a (by kernel_rfl) (by kernel_rfl) (by kernel_rfl)] at b;cases b;exact dX d c _ (Uj _) _
 ·rw[fW (e:=(Va[1]'(by decide)).2) a (by kernel_rfl) (by kernel_rfl) (by kernel_rfl)] at b;cases b;exact dX d c _ (Uj _) _
 ·rw[fW (e:=(Va[9]'(by decide)).2) a (by kernel_rfl) (by kernel_rfl) (by kernel_rfl)] at b;cases b;exact dX d c _ (Uj _) _
 ·rw[fW (e:=(Va[2]'(by decide)).2) a (by kernel_rfl) (by kernel_rfl) (by kernel_rfl)] at b;cases b;exact dX d c _ (Uj _) _
 ·rw[fW (e:=(Va[10]'(by decide)).2) a (by kernel_rfl) (by kernel_rfl) (by kernel_rfl)] at b;cases b;exact dX d c _ (Uj _) _
 ·rw[fW (e:=(Va[5]'(by decide)).2) a (by kernel_rfl) (by kernel_rfl) (by kernel_rfl)] at b;cases b;exact dX d c _ (Uj _) _
 ·rw[fW (e:=(Va[12]'(by decide)).2) a (by kernel_rfl) (by kernel_rfl) (by kernel_rfl)] at b;cases b;exact dX d c _ (Uj _) _
 ·rw[fW (e:=(Va[6]'(by decide)).2) a (by kernel_rfl) (by kernel_rfl) (by kernel_rfl)] at b;cases b;exact dX d c _ (Uj _) _
 ·rw[fW (e:=(Va[13]'(by decide)).2) a (by kernel_rfl) (by kernel_rfl) (by kernel_rfl)] at b;cases b;exact dX d c _ (Uj _) _
 ·rw[uw a f (by kernel_rfl) (by kernel_rfl) (by kernel_rfl) (by kernel_rfl) (by kernel_rfl) (by kernel_rfl)] at b;cases b
 ·rw[fW (e:=(Va[7]'(by decide)).2) a (by kernel_rfl) (by kernel_rfl) (by kernel_rfl)] at b;cases b;exact dX d c _ (Uj _) _
 ·rw[fW (e:=(Va[14]'(by decide)).2) a (by kernel_rfl) (by kernel_rfl) (by kernel_rfl)] at b;cases b;exact dX d c _ (Uj _) _
 ·rw[fW (e:=(Yn[11]'(by decide)).2) a (by kernel_rfl) (by kernel_rfl) (by kernel_rfl)] at b;cases b;exact GZ _ _
def M6{f:Nat}{fn:WC}(a:(aB T4).funcs[f]? =I fn)(d:fn.body.isNone=Z):T4.funcs[f]? =I fn:=by
 rcases oD f with b|⟨e,_,_,c⟩
 ·rw[b];exact a
 ·rw[c] at a;cases a;cases d
def SD:Ext (aB T4) T4:=by
 refine⟨λf c a=>?_,λf c a b=>?_,λf c j a b i args=>?_⟩
 ·rcases oD f with e|⟨d,_,g,h⟩
  ·have:=jG tO (e.trans a);simpa using this
  ·rw[h] at a;cases a;have:=jG tO g;show(d.name==_)=T7;simpa using this
 ·have:=jG RZ (M6 a b);rw[b] at this;simpa using this
 ·have:=jG Ht (M6 a b);rw[b] at this;simp only[Bool.not_true,Bool.false_or,Uw,beq_iff_eq] at this;exact RU this.1 this.2 i args
def PG:oZ (aB T4) T4:=by
 refine⟨M7,SD,λf=>?_,rfl,λf=>?_,λf i h g e=>?_,N5 (ay.tables _)⟩
 ·rcases oD f with a|⟨d,_,c,b⟩
  ·rw[a]
  ·rw[c,b];rfl
 ·rcases oD f with a|⟨d,_,c,b⟩
  ·exact .inl a
  ·exact .inr ⟨_,_,b,rfl⟩
 ·have:=jG Ry g;rw[e] at this;exact this
def cV:Twins (aB T4) T4:=by
 refine⟨PG,λf=>?_⟩;rcases oD f with b|⟨j,_,a,c⟩
 ·exact⟨by rw[b],λg h i a=>by rw[b,i] at a;cases a;rfl⟩
 ·refine⟨by rw[a,c];simp,λg h d e=>?_⟩;rw[c] at d;rw[a] at e;cases d;cases e;rfl
end Cc
namespace Ec
open Go.RowKit Pk Pm
def C8 (y:bL×Int):List Nat:=aL y.1.name.size++(bytesOf y.1.name++[byteOf y.1.kind,byteOf y.2])
def rq (l:List (bL×Int)):List Nat:=l.flatMap C8
def qO(l:List (bL×Int))(y:bL×Int):rq (l++[y])=rq l++C8 y:=by
 unfold rq;rw[Vi,Vc]
def PC(y:bL×Int):1<=(C8 y).length:=by unfold C8;simp;omega
def M4(l:List (bL×Int)):l.length<=(rq l).length:=by
 induction l with
 |nil=>simp
 |cons b c a=>
  have:=PC b;unfold rq at a ⊢;rw[WR,Ua,VI];omega
structure Fs(y:bL×Int):Prop where
 n:y.1.name.size<2147483648
 k0:0<=y.1.kind
 k1:y.1.kind<256
 e0:0<=y.2
 e1:y.2<256
def AF{x:Int}(a:0<=x)(h1:x<256):(byteOf x:Int)=x:=by unfold byteOf;omega
def Ch{B:List Nat}{p v:Nat}{y:bL×Int}(b:Fs y)(c:v<2147483648)(a:ai B p (aL v))(h:ai B p (C8 y)):y.1.name.size=v:=by
 unfold C8 at h;exact cA (by have:=b.n;omega) (by omega) (au.1 h).1 a
def Ci{B:List Nat}{p v:Nat}{x:ByteArray}{y:bL×Int}(i:Fs y)(f:v<2147483648)(d:ai B p (aL v))(g:x.size=v)(e:ai B (p+(aL v).length) (bytesOf x))(h:ai B p (C8 y)):y.1.name=x/\ai B (p+(aL v).length+v) [byteOf y.1.kind,byteOf y.2]:=by
 have a:=Ch i f d h;unfold C8 at h;obtain⟨c,b⟩:=au.1 (au.1 h).2;rw[a] at c b;have:=m9 (iE c e (by rw[aj,aj,a,g]));rw[aj,a] at b;exact⟨this,b⟩
def Rt{B:List Nat}{p v kd b:Nat}{x:ByteArray}{y:bL×Int}(a:Fs y)(q:v<2147483648)(l:ai B p (aL v))(r:x.size=v)(m:ai B (p+(aL v).length) (bytesOf x))(n:ai B (p+(aL v).length+v) [kd])(o:ai B (p+(aL v).length+v+1) [b])(h:ai B p (C8 y)):y=(⟨x,(kd:Int)⟩,(b:Int)):=by
 obtain⟨g,i⟩:=Ci a q l r m h;obtain⟨j,k⟩:=eW.1 i;have e:byteOf y.1.kind=kd:=by have:=j.symm.trans (dH.1 n);simpa using this
 have f:byteOf y.2=b:=by have:=(dH.1 k).symm.trans (dH.1 o);simpa using this
 have c:=AF a.k0 a.k1;have d:=AF a.e0 a.e1;obtain⟨⟨u,t⟩,s⟩:=y;simp only at g e f c d;rw[e] at c;rw[f] at d;rw[g,c,d]
def J2{B:List Nat}{p v kd a:Nat}{x:ByteArray}(e:ai B p (aL v))(b:x.size=v)(f:ai B (p+(aL v).length) (bytesOf x))(g:ai B (p+(aL v).length+v) [kd])(h:ai B (p+(aL v).length+v+1) [a])(h1:kd<256)(i:a<256):ai B p (C8 (⟨x,(kd:Int)⟩,(a:Int)))/\(C8 (⟨x,(kd:Int)⟩,(a:Int))).length=(aL v).length+v+1+1:=by
 have c:byteOf (kd:Int)=kd:=by unfold byteOf;omega
 have d:byteOf (a:Int)=a:=by unfold byteOf;omega
 unfold C8;simp only[c,d,b];refine⟨au.2 ⟨e,au.2 ⟨f,?_⟩⟩,by simp[aj,b];omega⟩;rw[aj,b];exact eW.2 ⟨dH.1 g,h⟩
def nT (l:List (bL×Int)):Prop:=hU (l.map Ux)/\lC (l.map Ux) (l.map VU)
def nT.each{l:List (bL×Int)}(h:nT l):(∀y∈l,Fs y)/\l.length<2147483648:=by
 obtain⟨⟨j,e,f⟩,k,g⟩:=h;refine⟨λy i=>?_,by simp at e;omega⟩;obtain⟨a,b,rfl⟩:=Vv i;have d:=(f a (by simpa using b)).1;have c:=g a (by simpa using b);simp only[Xr,n5,fX,Uw,decide_eq_true_eq] at d;rw[show(l.map VU).getD a 0=l[a].2 by simp[b]] at c;simp only[Xr,bJ,fX,WT,Uw,decide_eq_true_eq,beq_iff_eq] at c;exact⟨by omega,by omega,by omega,by omega,by omega⟩
def yO (l:List (bL×Int)):List Nat:=aL l.length++rq l
def Cut (s:ByteArray)(C a:List Nat):Prop:=s.size<=65536/\bytesOf s=dN++(C++(a++(iA a.length++dN)))
def Cut.len{s:ByteArray}{C a:List Nat}(h:Cut s C a):s.size=C.length+a.length+12:=by
 have:=congrArg XD h.2;rw[aj] at this;simp[dN,iA] at this;omega
def MH{a b:Nat}(c:a<=65536)(d:b<=65536)(h:iA a=iA b):a=b:=by
 unfold iA at h;simp at h;omega
def Cut.IM{s:ByteArray}{C a b F':List Nat}(h:Cut s C a)(c:Cut s b F'):C=b/\a=F':=by
 have l:=h.len;have m:=c.len;have k:=h.1;have d:=h.2.symm.trans c.2;have e:=List.append_cancel_left d;have f:(C++a)++(iA a.length++dN)=(b++F')++(iA F'.length++dN):=by rw[UC,UC];exact e
 obtain⟨g,i⟩:=List.append_inj' f (by simp[iA]);have j:=MH (by omega) (by omega) (List.append_cancel_right i);exact List.append_inj' g j
def qE (l:List (bL×Int))(bs:List Bd):List Nat:=yO l++(aL bs.length++cQ (l.map Ux) bs)
structure xe(l:List (bL×Int))(bs:List Bd):Prop where
 pl:nT l
 b9:∀b∈bs,eL (l.map Ux) b
 rows:eV bs<=2000
def fZ (s:ByteArray)(l:List (bL×Int))(bs:List Bd):Prop:=xe l bs/\Cut s (bR bs) (qE l bs)
def Sa (s:ByteArray)(cs:List bL)(n e:Nat):Prop:=
 (∃b a,fZ s b a/\cs=b.map Ux/\n=eV a/\e=0/\∀d c,fZ s d c->d=b/\eV c=eV a)\/((∀b a,¬fZ s b a)/\cs=[]/\n=0/\e=3)
def Jh(l:List (bL×Int)):∀n,n<=l.length->iS (l.map Ux) (l.map VU) n=rq (l.take n):=by
 intro n
 induction n with
 |zero=>intro _;simp[iS,rq]
 |succ n c=>
  intro d;rw[xZ,c (by omega),Uo (by omega),qO];congr 1;unfold xY C8;have a:(l.map Ux).getD n ⟨⟨#[]⟩,0⟩=l[n].1:=by rw[Ui,Um (by rw[UG];omega)];simp
  have b:(l.map VU).getD n 0=l[n].2:=by rw[Ui,Um (by rw[UG];omega)];simp
  rw[a,b]
def Mg(l:List (bL×Int))(bs:List Bd):ji (l.map Ux) (l.map VU) bs=qE l bs:=by
 unfold ji qE yO;rw[Jh l _ (by simp),UG,Vf,UC]
structure mh(w W:F)(g r q n:Nat)(kv:U)(l:List kq):Prop where
 res:W.heap[w.heap.size]? =I (.cells #[.int .i64 0,aO] 139 (0,0))
 box:W.heap[g]? =I (.cells #[.int .i64 (n:Int),kv] 139 (0,0))
 own:W.ownsRow w.heap.size 143 8 kv l.length (ej l)
 kp:jQ r q w W
def mh.step{w W a:F}{g r q n:Nat}{b:U}{l:List kq}(h:mh w W g r q n b l)(d:r<w.heap.size)(c:q<w.heap.size)(e:w.heap.size<g)(k:jQ r q W a):mh w a g r q n b l:=
 ⟨k.keep h.res (by omega) (by omega),k.keep h.box (by omega) (by omega),k.own h.own d c,h.kp.trans k⟩
def mh.below{w W b:F}{g r q n:Nat}{c:U}{l:List kq}(h:mh w W g r q n c l)(a:aP W b):mh w b g r q n c l:=
 ⟨(a.block _ (Ue h.res)).trans h.res,(a.block _ (Ue h.box)).trans h.box,aK h.own a,h.kp.trans (jQ.cr a)⟩
def mh.cells{w W:F}{g r q n:Nat}{b:U}{l:List kq}(h:mh w W g r q n b l):
 aM W g 0 (.int .i64 (n:Int))/\aM W g 1 b/\W.frozen? ⟨g,1,K⟩=T7:=by
 have a:=h.box;exact⟨by simp[Us,a],by simp[Us,a],by simp[UQ,a]⟩
def mh.kept{w W a:F}{g r q n:Nat}{b e:U}{l:List kq}(h:mh w W g r q n b l)(d:aR W a b e):
 aM a g 1 b/\a.frozen? ⟨g,1,K⟩=T7:=by
 have c:=(d.fO.block _ (Ue h.box) (bw h.own h.box (by decide))).trans h.box;exact⟨by simp[Us,c],by simp[UQ,c]⟩
def mh.jP{w W b:F}{g r q n:Nat}{j a:U}{l d:List kq}(h:mh w W g r q n j l)(s:w.heap.size<g)(c:aR W b j a)(i:b.ownsRow w.heap.size 143 8 a d.length (ej d)):
 mh w (b.setCell ⟨g,1,K⟩ a) g r q n a d:=by
 have m:=(c.fO.block _ (Ue h.res) (bw h.own h.res (by decide))).trans h.res;have f:=(c.fO.block _ (Ue h.box) (bw h.own h.box (by decide))).trans h.box;have o:=Ur b g 1 _ _ a f;refine⟨?_,o,?_,?_⟩
 ·rw[Uu _ _ _ _ (by simp;omega)];exact m
 ·exact i.kept (aQ b _ 1 a) (.inr (bw i f (by decide)).symm)
 ·exact(h.kp.grown c.fO (λe p=>(h.own.lt e p).1)).grown (aQ b g 1 a) (λe k=>by cases k;omega)
def mh.reader{w W a:F}{g r q n:Nat}{c d:U}{l:List kq}(h:mh w W g r q n c l)(j:w.heap.size<g)(f:aR W a c d){i:Nat}{o:Obj}(k:i<w.heap.size)(b:W.heap[i]? =I o):(a.setCell ⟨g,1,K⟩ d).heap[i]? =I o:=by
 rw[Uu _ _ _ _ (by simp;omega),f.fO.block i (Ue b) (λe=>by have:=(h.own.lt i e.symm).1;omega)];exact b
def Sc (cs:List bL)(w:F)(r p:Nat)(s:ByteArray)(q t:Nat)(z:ByteArray)(e:WS)(w':F):Prop:=
 jQ r q w w'/\((∃(a:Bd) (c:U),e= .returned (.agg #[.int .i64 (a.rows:Int),c])/\eL cs a/\ai (bytesOf s) p (ek cs a)/\p+(ek cs a).length<=s.size/\w'.heap[r]? =I (cg s (p+(ek cs a).length))/\ai (bytesOf z) t (ct a.chunks)/\t+(ct a.chunks).length<=z.size/\w'.heap[q]? =I (cg z (t+(ct a.chunks).length))/\
  w'.ownsRow w.heap.size 143 8 c a.chunks.length (ej a.chunks)/\(∀b,eL cs b->ai (bytesOf s) p (ek cs b)->ai (bytesOf z) t (ct b.chunks)->b=a))\/
  (∃m,e= .panicked (eD m)/\∀a,eL cs a->ai (bytesOf s) p (ek cs a)->¬ai (bytesOf z) t (ct a.chunks)))
def AR(co z:Option UJ)(cn v y x base:Nat)(s:U)(L:List (Bd×U))(w:F)(m:iY w base s L)(ab:L.length<=65536)(M:∀b∈L.map Ux,b.rows<=100):
 bH 45 #[.agg #[.slice co cn v,.slice z y x,s]] w λe w'=>e= .returned (.int .i64 (eV (L.map Ux):Int))/\aP w w':=by
 have C:∀p∈L,∃h g d,p.2= .slice h g d:=λp I=>by
  obtain⟨h,d,A⟩:=bC (m.each p I);exact⟨h,_,d,A⟩
 obtain⟨R,Q,D⟩:=bC m.own;have n:=QK.bO qD m.own;subst D;obtain⟨P,j,k,V,E,n⟩:=n;cases E;have i:=af n;have u:=af C;have r:=af M;go_enter ay.func45,Tryz.ntmps45
 go_wp2_with fail
 go_loopw [3,9] (λg o wr=>∃a:Nat,a<=L.length/\o= .int .i64 (a:Int)/\g= .int .i64 (eV ((L.map Ux).take a):Int)/\aP w wr) (λ_ o _=>L.length-(US o).toNat)
 case atStart=>exact⟨0,UE _,rfl,rfl,(Up _ _).alloc (T8 _) _⟩
 case round=>
  obtain⟨a,aa,rfl,rfl,c⟩:=hrel;have q:=af c;have N:=c.size;by_cases f:a<L.length
  ·have H:a<(L.map Ux).length:=by rw[UG];exact f
   have l:X (eV ((L.map Ux).take (a+1))=eV ((L.map Ux).take a)+L[a].1.rows):=by
    show _=_;rw[Gz _ _ H];simp
   have ae:eV ((L.map Ux).take a)<=65536*100:=by
    have W:=Ex ((L.map Ux).take a) (λb c=>r.o b (List.mem_of_mem_take c));have B:((L.map Ux).take a).length<=65536:=by simp;omega
    have Z:=Nat.mul_le_mul_right 100 B;omega
   have ad:L[a].1.rows<=100:=r.o _ (U7.2 ⟨L[a],Uj f,rfl⟩);obtain⟨h,g,d,J⟩:=u.o L[a] (Uj f);have G:=i.o.addr (by omega);subst G;have t:=i.o.lt (by omega);have S:aM wr j (k+a*2) (.int .i64 (L[a].1.rows:Int)):=(c.cell (p:=⟨j,k+a*2,K⟩) t).trans (i.o.c a f 0 _ Y);have T:aM wr j (k+a*2+1) (.slice h g d):=(c.cell (p:=⟨j,k+a*2+1,K⟩) t).trans (by rw[<-J];exact i.o.c a f 1 _ Y);generalize L[a].1.rows=al at*;generalize eV ((L.map Ux).take a)=O at*
   go_wp2_with fail
   go_roundw
   case rel=>exact⟨a+1,by omega,by go_num,by rw[l.o];go_num,q.o.alloc N _⟩
   case measure=>simp[US];omega
  ·obtain rfl:a=L.length:=by omega
   have l:X ((L.map Ux).take L.length=L.map Ux):=by show _=_;rw[<-UG (f:=Ux),Vf]
   go_wp2;go_ret;exact⟨by first|rfl|(rw[l.o];rfl),q.o⟩
def QH{n:Nat}(h:n<256):Vb (n:Int)=(n:Int)/\XM.wrap (n:Int)=(n:Int):=by
 constructor
 ·unfold Vb;omega
 ·rw[WY];omega
def Sd (w:F)(r p:Nat)(s:ByteArray)(e:WS)(w':F):Prop:=
 Kp r w w'/\((∃(a:List (bL×Int)) (c d:U),e= .returned (.tuple #[c,d])/\nT a/\ai (bytesOf s) p (yO a)/\p+(yO a).length<=s.size/\w'.heap[r]? =I (cg s (p+(yO a).length))/\w'.ownsRow w.heap.size 63 2 c a.length (eH (a.map Ux))/\w'.ownsRow w.heap.size 3 1 d a.length (bz (a.map VU))/\(∀b,nT b->ai (bytesOf s) p (yO b)->b=a))\/
  (∃f,e= .panicked (eD f)/\∀a,nT a->¬ai (bytesOf s) p (yO a)))
def wP(r p:Nat)(s:ByteArray)(w:F)(gm:s.size<=65536)(fg:p<=s.size)(h:w.heap[r]? =I (cg s p)):
 bH 94 #[.pointer (I ⟨r,0,K⟩)] w (Sd w r p s):=by
 obtain⟨f7,e3,f4,f5,f6⟩:=Ve ay.F9;obtain⟨f8,fi,fz,f0,f1⟩:=Ve ay.vD;have x:=Ue h;have M:s.size<=Uq:=by unfold Uq;omega
 have d3:=af h;go_enter ay.func94,Tryz.ntmps94
 go_wp2_with fail
 refine(jK r p s _ M fg d3.o).mono ?_;rintro d gt ⟨cd,⟨A,rfl,e9,fk,co,cf⟩|⟨t,rfl,o⟩⟩;rotate_left
 ·have ar:X (∀a,nT a->¬ai (bytesOf s) p (yO a)):=λa e4 c=>o _ e4.each.2 (au.1 c).1;have aq:=af cd;go_wp2;exact⟨rfl,aq.o,.inr ⟨t,rfl,ar.o⟩⟩
 ·have a2:=af fk;have g:=af e9;obtain⟨y,c0⟩:∃y,y=p+(aL A).length:=⟨_,rfl⟩;have az:=af c0;rw[<-c0] at co cf;have d4:=af cf;have aq:=af cd;have gn:(A:Int)<2147483648:=by omega
  go_wp2_with fail
  go_loopw [2,3,7] (λee eh bc wr=>∃a:List (bL×Int),bc= .int .i64 (a.length:Int)/\AA rq Fs (bytesOf s) y A a/\y+(rq a).length<=s.size/\wr.heap[r]? =I (cg s (y+(rq a).length))/\wr.ownsRow w.heap.size 63 2 ee a.length (eH (a.map Ux))/\wr.ownsRow w.heap.size 3 1 eh a.length (bz (a.map VU))/\Kp r w wr) (λ_ _ bc _=>A-(US bc).toNat)
  case atStart=>exact⟨[],rfl,AA.zero Y,by simpa [rq] using co,by simpa [rq] using d4.o,Vp _ _ _ _,Vp _ _ _ _,aq.o⟩
  case round=>
   obtain⟨a,rfl,ci,bb,eq,fb,fd,eo⟩:=hrel;have T:=af ci;have S:=af eq;have ap:=af eo;have Q:=af fb;have R:=af fd;have cs:a.length<=65536:=by have:=M4 a;omega
   have gi:=ci.le;obtain⟨m,c1⟩:∃m,m=y+(rq a).length:=⟨_,rfl⟩;have G:=af c1;rw[<-c1] at bb S;by_cases ba:a.length<A
   ·have O:X ((∀e,Fs e->¬ai (bytesOf s) m (C8 e))->∀b,nT b->¬ai (bytesOf s) p (yO b)):=λz b f c=>by
     obtain⟨J,u⟩:=au.1 c;have L:=cA (by have:=f.each.2;omega) (by omega) J a2.o;rw[L] at u;refine T.o.fail (e:=λ_ e=>C8 e) qO ba (λe j=>?_) b L f.each.1 (by rw[az.o];exact u);rw[<-G.o];exact z e j
    go_wp2_with fail
    refine(jK r m s _ M bb S.o).mono ?_;rintro d gv ⟨V,⟨v,rfl,fv,fl,cp,ch⟩|⟨t,rfl,o⟩⟩;rotate_left
    ·have ar:=O.o (λe j c=>o _ j.n (au.1 c).1);have g:=af ar;have P:=af (ap.o.trans V);go_wp2;exact⟨rfl,P.o,.inr ⟨t,rfl,g.o⟩⟩
    ·have C:=af fv;have B:=af fl;have fx:v<=2147483648:=by omega
     have P:=af (ap.o.trans V);have dp:=af (V.own Q.o x);have dv:=af (V.own R.o x);obtain⟨q,c2⟩:∃q,q=m+(aL v).length:=⟨_,rfl⟩;have i:=af c2;rw[<-c2] at cp ch;have d5:=af ch
     go_wp2_with fail
     refine(Bu r q v s _ M cp fx d5.o).mono ?_;rintro d gx ⟨W,⟨k,rfl,f3,fm,e5,er⟩|⟨t,rfl,o⟩⟩;rotate_left
     ·have g:X (∀b,nT b->¬ai (bytesOf s) p (yO b)):=O.o (λe j c=>o (bytesOf e.1.name) (by rw[aj];exact Ch j C.o B.o c) (by unfold C8 at c;rw[Ch j C.o B.o (by unfold C8;exact c)] at c;rw[i.o];exact(au.1 (au.1 c).2).1));have D:=af (P.o.trans W);go_wp2;exact⟨rfl,D.o,.inr ⟨t,rfl,g.o⟩⟩
     ·have U:=af fm;have H:=af f3;have dc:=af (P.o.trans W);have dq:=af (W.own dp.o x);have dC:=af (W.own dv.o x);have b0:=af er;have f2:k.size<=65536:=by omega
      have c9:X (∀l,bH 66 #[.string k] l λd N=>d= .returned (.string k)/\aP l N):=λl=>xV k l f2
      go_upto_region 4 with(go_at_call 66;refine(c9.o _).mono ?_;rintro d gc ⟨rfl,ad⟩)
      have bm:=af (dc.o.trans (Kp.cr ad));have dr:=af (aK dq.o ad);have dE:=af (aK dC.o ad);have d6:X (gc.heap[r]? =I (cg s (q+v))):=(ad.block _ (Ue b0.o)).trans b0.o
      go_wp2_with fail
      refine(AG r (q+v) s _ M e5 d6.o).mono ?_;rintro d c4 ⟨aa,⟨kd,rfl,cn,ft,e6,es⟩|⟨t,rfl,o⟩⟩;rotate_left
      ·have g:X (∀b,nT b->¬ai (bytesOf s) p (yO b)):=O.o (λe j c=>o _ (dH.2 (eW.1 (by have:=(Ci j C.o B.o H.o (by rw[<-i.o];exact U.o) c).2;rw[<-i.o] at this;exact this)).1));have D:=af (bm.o.trans aa);go_wp2;exact⟨rfl,D.o,.inr ⟨t,rfl,g.o⟩⟩
      ·have b2:=af ft;have bo:=af (bm.o.trans aa);have cv:=aa.own dr.o x;have av:=af cv;have bA:=af (aa.own dE.o x);have d7:=af es;have gq:=bo.o.size;have gs:=(QH cn).2;have bv:=af cn;have E:=af cs;have df:=af e6
       go_upto_region 5 with(at_builtin;refine wpList_append_lies _ Y _ _ 44 Y w.heap.size 63 f7 _ 2 24 ay.underlying44 e3 f4 f5 f6 Y (by decide) _ a.length _ Y (cv.alloc _) ⟨c4.heap.size,0,K⟩ 1 1 [.string k,.int .i64 (kd:Int)] Y Y (IK c4 _ _ _) (by intro f9 z;simp at z;rcases z with rfl|rfl<;>rfl) (by decide) (by have:=E.o;unfold Uq;omega) (by have:=E.o;omega) (by simp;omega) _ Y ?_;intro el b5 bd fe e1 eQ gj)
       have a8:=aR.jj (n:=a.length+1) (cap:=b5) e1 eQ;have br:X (Kp r w bd):=bo.o.grown a8.fO (λa5 a7=>(av.o.lt a5 a7).1);have d8:X (bd.heap[r]? =I (cg s (q+v+1))):=(a8.fO.block r (by omega) (λd=>by have:=(av.o.lt r d.symm).1;omega)).trans d7.o;have ds:=af fe;have dO:X (bd.ownsRow w.heap.size 3 1 u3 a.length (bz (a.map VU))):=bF bA.o a8 (dQ bA.o av.o (by decide));generalize Vg (I ⟨el,0,K⟩) (a.length+1) b5=ef at*
       go_wp2_with fail
       refine(AG r (q+v+1) s _ M df.o d8.o).mono ?_;rintro d c5 ⟨ab,⟨n,rfl,cl,fu,e7,et⟩|⟨t,rfl,o⟩⟩;rotate_left
       ·have g:X (∀b,nT b->¬ai (bytesOf s) p (yO b)):=O.o (λe j c=>o _ (by have:=(Ci j C.o B.o H.o (by rw[<-i.o];exact U.o) c).2;rw[<-i.o] at this;exact(eW.1 this).2));have D:=af (br.o.trans ab);go_wp2;exact⟨rfl,D.o,.inr ⟨t,rfl,g.o⟩⟩
       ·have b3:=af fu;have bs:=af (br.o.trans ab);have bx:=af (ab.own ds.o x);have cx:=ab.own dO.o x;have aw:=af cx;have d9:=af et;have gr:=bs.o.size;have gg:=(QH cl).2;have bl:=af cl;have dk:=af e7
        go_upto_region 6 with(at_builtin;refine wpList_append_lies _ Y _ _ 22 Y w.heap.size 3 f8 _ 1 8 ay.underlying22 fi fz f0 f1 Y (by decide) _ a.length _ Y (cx.alloc _) ⟨c5.heap.size,0,K⟩ 1 1 [.int .i64 (n:Int)] Y Y (gS c5 _ _) (by intro f9 z;simp at z;subst z;rfl) (by decide) (by have:=E.o;unfold Uq;omega) (by have:=E.o;omega) (by simp;omega) _ Y ?_;intro cb a4 al cR e2 e0 gl)
        have a9:=aR.jj (n:=a.length+1) (cap:=a4) e2 e0;have dd:X (Kp r w al):=bs.o.grown a9.fO (λa5 a7=>(aw.o.lt a5 a7).1);have ea:X (al.heap[r]? =I (cg s (q+v+1+1))):=(a9.fO.block r (by omega) (λd=>by have:=(aw.o.lt r d.symm).1;omega)).trans d9.o;have dT:X (al.ownsRow w.heap.size 3 1 (.slice (I ⟨cb,0,K⟩) (a.length+1) a4) (a++[((⟨k,(kd:Int)⟩:bL),(n:Int))]).length (bz ((a++[((⟨k,(kd:Int)⟩:bL),(n:Int))]).map VU))):=by
         show World.ownsRow _ _ _ _ _ _ _;rw[Ua,U0];unfold bz at cR ⊢;rw[U0];exact cR
        have dt:X (al.ownsRow w.heap.size 63 2 ef (a++[((⟨k,(kd:Int)⟩:bL),(n:Int))]).length (eH ((a++[((⟨k,(kd:Int)⟩:bL),(n:Int))]).map Ux))):=by
         have:=bF bx.o a9 (dQ bx.o aw.o (by decide));show World.ownsRow _ _ _ _ _ _ _;rw[Ua,U0,rD];exact this
        have c3:=J2 B.o H.o (by rw[<-i.o];exact U.o) (by rw[<-i.o];exact b2.o) (by rw[<-i.o];exact b3.o) bv.o bl.o;have dl:X (AA rq Fs (bytesOf s) y A (a++[((⟨k,(kd:Int)⟩:bL),(n:Int))])):=T.o.more (e:=λ_ e=>C8 e) qO ba ⟨by have:=H.o;have:=C.o;show k.size<_;omega,by show(0:Int)<=(kd:Int);omega,by have:=bv.o;show(kd:Int)<256;omega,by show(0:Int)<=(n:Int);omega,by have:=bl.o;show(n:Int)<256;omega⟩ (by rw[<-G.o];exact c3.1) (λe j c=>by
         rw[<-G.o] at c;exact Rt j C.o B.o H.o (by rw[<-i.o];exact U.o) (by rw[<-i.o];exact b2.o) (by rw[<-i.o];exact b3.o) c)
        have bB:X (y+(rq (a++[((⟨k,(kd:Int)⟩:bL),(n:Int))])).length=q+v+1+1):=by
         show _=_;have J:=G.o;have u:=i.o;rw[qO,Ua,c3.2];omega
        generalize Vg (I ⟨cb,0,K⟩) (a.length+1) a4=gf at*;have cs:=E.o
        go_wp2_with fail
        go_roundw
        case rel=>exact⟨_,by rw[Ua];go_num,dl.o,by rw[bB.o];exact dk.o,by rw[bB.o];exact ea.o,dt.o,dT.o,dd.o⟩
        case measure=>simp[US];omega
   ·have ao:=T.o.done ba;have a3:X (∀b,nT b->ai (bytesOf s) p (yO b)->b=a):=λb f c=>by
     obtain⟨J,u⟩:=au.1 c;have L:=cA (by have:=f.each.2;omega) (by omega) J a2.o;rw[L,<-az.o] at u;exact ao.2 b L f.each.1 u
    have a0:X (p+(yO a).length=m/\ai (bytesOf s) p (yO a)):=by
     have J:=G.o;have u:=az.o;have cc:=ao.1;refine⟨by unfold yO;rw[Ua,cc];omega,?_⟩;unfold yO;rw[cc];exact au.2 ⟨a2.o,by rw[<-u];exact T.o.st⟩
    have d1:=af bb;obtain⟨b6,aJ,rfl⟩:=bC Q.o;obtain⟨ca,bW,rfl⟩:=bC R.o;have bj:X (vn wr (.slice b6 a.length aJ) (a.map Ux)):=vn.bO (by rw[UG];exact Q.o);have db:X (rA wr (.slice ca a.length bW) (a.map VU)):=rA.bO (by rw[UG];exact R.o);have cu:(a.map Ux).length<=Uq:=by rw[UG];unfold Uq;omega
    have e8:(a.map VU).length<=Uq:=by rw[UG];unfold Uq;omega
    have c7:=af (mv (a.map Ux) _ wr cu bj.o);have c8:X (∀l,aP wr l->bH 57 #[.slice ca a.length bW,.slice b6 a.length aJ] l λd N=>∃b4,d= .returned (.bool b4)/\(b4=Z↔lC (a.map Ux) (a.map VU))/\aP l N):=λl ck=>nV (a.map Ux) (a.map VU) _ _ l cu e8 (bj.o.below ck) (db.o.lower ck);have fa:A=a.length:=ao.1.symm;subst fa
    go_wp2_with fail
    refine c7.o.mono ?_;rintro d c6 ⟨eb,rfl,em,a6⟩;have bt:=af (ap.o.trans (Kp.cr a6));have a1:X (c6.heap[r]? =I (cg s m)):=(a6.block r (Ue S.o)).trans S.o;have am:=af a6;have be:=af em;cases eb
    ·have g:X (∀b,nT b->¬ai (bytesOf s) p (yO b)):=λb f c=>by
      have:=a3.o b f c;rw[this] at f;exact absurd (be.o.2 f.1) (by simp)
     go_wp2_with (go_at_call 97;refine(b8 r m s _ a1.o).mono ?_;rintro d N ⟨rfl,rfl⟩)
     exact⟨rfl,bt.o,.inr ⟨_,rfl,g.o⟩⟩
    ·have da:=af (be.o.1 Y)
     go_wp2_with fail
     refine(c8.o c6 am.o).mono ?_;rintro d ge ⟨ec,rfl,en,ae⟩;have bu:=af (bt.o.trans (Kp.cr ae));have b1:X (ge.heap[r]? =I (cg s m)):=(ae.block r (Ue a1.o)).trans a1.o;have du:=af (aK (aK Q.o am.o) ae);have d0:=af (aK (aK R.o am.o) ae);have bi:=af en;cases ec
     ·have g:X (∀b,nT b->¬ai (bytesOf s) p (yO b)):=λb f c=>by
       have:=a3.o b f c;rw[this] at f;exact absurd (bi.o.2 f.2) (by simp)
      go_wp2_with (go_at_call 97;refine(b8 r m s _ b1.o).mono ?_;rintro d N ⟨rfl,rfl⟩)
      exact⟨rfl,bu.o,.inr ⟨_,rfl,g.o⟩⟩
     ·have d2:X (nT a):=⟨da.o,bi.o.1 Y⟩;go_wp2
      go_ret2
      exact⟨bu.o,.inl ⟨a,_,_,rfl,d2.o,a0.o.2,by rw[a0.o.1];exact d1.o,by rw[a0.o.1];exact b1.o,du.o,d0.o,a3.o⟩⟩
def LR{W:F}{base n cap:Nat}{co:Option UJ}{cs:List bL}(h:W.ownsRow base 63 2 (.slice co n cap) cs.length (eH cs))(l:0<cs.length):∃g,co=I ⟨g,0,K⟩/\base<=g/\g<W.heap.size/\xB W co g 0 cs:=by
 rcases h.2 with⟨e,m⟩|⟨g,j,k,e,i,f,q,o,p,r⟩
 ·omega
 ·cases e;have d:=h.cells (g:=g) Y;refine⟨g,rfl,i,Ue f,⟨λ_=>rfl,λ_=>Ue f,λc b=>?_,λc b=>?_⟩⟩
  ·have:=d _ _ (lQ (λa:bL=>[Value.string a.name,VY .i64 a.kind]) 2 (λ_=>rfl) cs c b 0 _ Y);simpa [VL] using this
  ·have:=d _ _ (lQ (λa:bL=>[Value.string a.name,VY .i64 a.kind]) 2 (λ_=>rfl) cs c b 1 _ Y);simpa [VL] using this
def Cr(cs:List bL)(dO:U)(r p q t base:Nat)(s z:ByteArray)(w:F)(ha:r≠q)(g7:s.size<=65536)(hc:z.size<=65536)(ge:p<=s.size)(gf:t<=z.size)(h:w.heap[r]? =I (cg s p))(k:w.heap[q]? =I (cg z t))(f2:r<base)(f3:q<base)
 (cf:w.ownsRow base 63 2 dO cs.length (eH cs)) (g5:cs.length<=8) (d9:∀i (h:i<cs.length),cs[i].kind=1\/cs[i].kind=2\/cs[i].kind=3):
 bH 96 #[.pointer (I ⟨r,0,K⟩),.pointer (I ⟨q,0,K⟩),dO] w (Sc cs w r p s q t z):=by
 obtain⟨gm,f7,gg,gi,gj⟩:=Ve ay.Ik;have a5:r<w.heap.size:=Ue h;have a4:q<w.heap.size:=Ue k;have ci:s.size<=Uq:=by unfold Uq;omega
 have gl:z.size<=Uq:=by unfold Uq;omega
 have fg:=af d9;obtain⟨fz,aJ,rfl⟩:=bC cf;have e8:=af cf;have df:X ((w.alloc (.cells #[.int .i64 0,aO] 139)).heap[r]? =I (cg s p)):=by
  show _=_;rw[UN _ _ r a5];exact h
 have c8:X ((w.alloc (.cells #[.int .i64 0,aO] 139)).heap[q]? =I (cg z t)):=by
  show _=_;rw[UN _ _ q a4];exact k
 have bo:X (jQ r q w (w.alloc (.cells #[.int .i64 0,aO] 139))):=(jQ.refl r q w).alloc _;clear h k cf d9;go_enter ay.func96,Tryz.ntmps96
 go_wp2_with fail
 refine(jK r p s _ ci ge df.o).mono ?_;rintro P E ⟨ab,⟨c,rfl,el,eq,ec,d1⟩|⟨m,rfl,C⟩⟩;rotate_left
 ·have G:X (∀b,eL cs b->ai (bytesOf s) p (ek cs b)->¬ai (bytesOf z) t (ct b.chunks)):=λb x ad=>(C _ (by have:=x.hi;omega) (au.1 ad).1).elim;have fa:X (jQ r q w E):=bo.o.trans (jQ.jw ab);clear C ab;go_wp2;exact⟨rfl,fa.o,.inr ⟨m,rfl,G.o⟩⟩
 ·have dT:E.heap[q]? =I (cg z t):=Kp.block ab c8.o (by omega);have f:mh w (E.alloc (.cells #[.int .i64 (c:Int),aO] 139)) E.heap.size r q c aO []:=by
   refine⟨?_,bk E _,Vp _ _ _ _,(bo.o.trans (jQ.jw ab)).alloc _⟩;have:=Kp.block ab (V4 w (.cells #[.int .i64 0,aO] 139)) (by omega);exact alloc_old _ (by simpa using Ue this) this
  have aw:w.heap.size<E.heap.size:=by have:=ab.size;simp at this;omega
  have cb:(E.alloc (.cells #[.int .i64 (c:Int),aO] 139)).heap[r]? =I (cg s (p+(aL c).length)):=by rw[UN _ _ r (by omega)];exact d1
  have d0:(E.alloc (.cells #[.int .i64 (c:Int),aO] 139)).heap[q]? =I (cg z t):=by rw[UN _ _ q (by omega)];exact dT
  go_upto_region 2 with fail
  generalize E.alloc (.cells #[.int .i64 (c:Int),aO] 139)=gv at*;generalize E.heap.size=j at*;clear ab d1 dT df c8 bo;clear E;obtain⟨M,cl⟩:∃M,M=p+(aL c).length:=⟨_,rfl⟩;have br:=af cl;rw[<-cl] at cb ec;have ba:=af eq;have a9:=af cb;have c9:=af d0;have R:=af f;obtain⟨be,a7,cu⟩:=f.cells;clear eq cl cb d0 f;by_cases d8:1<=c/\c<=100;rotate_left
  ·have G:X (∀b,eL cs b->ai (bytesOf s) p (ek cs b)->¬ai (bytesOf z) t (ct b.chunks)):=λb x ad=>by
    have:=cA (by have:=x.hi;omega) (by omega) (au.1 ad).1 ba.o;have T:=x.lo;have k:=x.hi;omega
   by_cases g4:c<1
   ·have ch:decide ((c:Int)<1)=Z:=by simp;omega
    go_wp2_with (go_at_call 97;refine(b8 r M s _ a9.o).mono ?_;rintro P gs ⟨rfl,rfl⟩)
    exact⟨rfl,R.o.kp,.inr ⟨_,rfl,G.o⟩⟩
   ·have ch:decide ((c:Int)<1)=T7:=by simp;omega
    have d6:decide (100<(c:Int))=Z:=by simp;omega
    go_wp2_with (go_at_call 97;refine(b8 r M s _ a9.o).mono ?_;rintro P gs ⟨rfl,rfl⟩)
    exact⟨rfl,R.o.kp,.inr ⟨_,rfl,G.o⟩⟩
  ·have ch:decide ((c:Int)<1)=T7:=by simp;omega
   have d6:decide (100<(c:Int))=T7:=by simp;omega
   have c3:=af d8;have c7:=af el
   go_upto_region 4 with fail
   clear ch d6 d8 el be a7 cu
   go_wp2_with fail
   go_loopw [26] (λi wr=>∃(a:List kq) (e:U),i= .int .i64 (a.length:Int)/\Q2 (wK cs) ct (Fo cs) (bytesOf s) M (bytesOf z) t cs.length a/\mh w wr j r q c e a/\M+(wK cs a).length<=s.size/\wr.heap[r]? =I (cg s (M+(wK cs a).length))/\t+(ct a).length<=z.size/\wr.heap[q]? =I (cg z (t+(ct a).length))) (λi _=>cs.length-(US i).toNat)
   case atStart=>exact⟨[],_,rfl,Q2.zero Y Y,R.o,by simpa [wK,fo] using ec,by simpa [wK,fo] using a9.o,by simpa [ct] using gf,by simpa [ct] using c9.o⟩
   case round=>
    clear R a9 c9;obtain⟨a,e,rfl,b4,f,eo,b6,cp,b5⟩:=hrel;have ao:=af b4;have R:=af f;obtain⟨D,cn⟩:∃D,D=M+(wK cs a).length:=⟨_,rfl⟩;obtain⟨N,a6⟩:∃N,N=t+(ct a).length:=⟨_,rfl⟩;have a0:=af cn;have ap:=af a6;rw[<-cn] at eo b6;rw[<-a6] at cp b5;have bv:=af b6;have bt:=af b5;have f9:a.length<=cs.length:=b4.le;have hb:w.heap.size<=wr.heap.size:=f.kp.size;have c1:X (wr.ownsRow base 63 2 (.slice fz cs.length aJ) cs.length (eH cs)):=f.kp.own e8.o f2 f3;clear b4 cn a6 b6 b5;by_cases V:a.length<cs.length
    ·have bm:X ((∀O,Fo cs a.length O->ai (bytesOf s) D (Ld cs a O)->¬ai (bytesOf z) N (bytesOf O.text))->∀b,eL cs b->ai (bytesOf s) p (ek cs b)->¬ai (bytesOf z) t (ct b.chunks)):=λa6 b x ad a2=>by
      obtain⟨T,k⟩:=au.1 ad;have a3:=cA (by have:=x.hi;omega) (by have:=c7.o;omega) T ba.o;rw[a3,<-br.o] at k;refine ao.o.fail (e:=Ld cs) (g:=λ_ d=>bytesOf d.text) (uk cs) sA V (λO L l Q=>?_) b.chunks x.len x.each k a2;rw[<-a0.o] at l;rw[<-ap.o] at Q;exact a6 O L l Q
     obtain⟨g1,f6,f4,f5,cd⟩:=LR c1.o (by omega);subst f6;have e2:=cd.c0 a.length V;have e3:=cd.c1 a.length V;simp only[UT] at e2 e3;have c4:X (cs[a.length].kind=1\/cs[a.length].kind=2\/cs[a.length].kind=3):=fg.o a.length V;have am:X (cs.getD a.length ⟨⟨#[]⟩,0⟩=cs[a.length]):=by show _=_;rw[Ui,Um V];rfl
     clear cd f c1 f4 f5;generalize a2:cs[a.length]=d at*;clear a2
     go_upto_region 7 with fail
     have bB:X (mh w (wr.alloc (.cells #[.string d.name,.int .i64 d.kind] 63)) j r q c e a):=R.o.below ((Up _ _).alloc (T8 _) _);have dp:X ((wr.alloc (.cells #[.string d.name,.int .i64 d.kind] 63)).heap[r]? =I (cg s D)):=by show _=_;rw[UN _ _ r (by omega)];exact bv.o
     have da:X ((wr.alloc (.cells #[.string d.name,.int .i64 d.kind] 63)).heap[q]? =I (cg z N)):=by show _=_;rw[UN _ _ q (by omega)];exact bt.o
     have dv:X ((wr.alloc (.cells #[.string d.name,.int .i64 d.kind] 63)).heap[wr.heap.size]? =I (.cells #[.string d.name,.int .i64 d.kind] 63 (0,0))):=bk wr _;have g6:j<wr.heap.size:=Ue R.o.box;generalize wr.alloc (.cells #[.string d.name,.int .i64 d.kind] 63)=gy at*;generalize wr.heap.size=u at*;clear e2 e3 R bv bt;clear wr
     go_wp2_with fail
     refine(jK r D s _ ci eo dp.o).mono ?_;rintro P bi ⟨ar,⟨v,rfl,eQ,er,ee,ca⟩|⟨m,rfl,C⟩⟩;rotate_left
     ·have G:X (∀b,eL cs b->ai (bytesOf s) p (ek cs b)->¬ai (bytesOf z) t (ct b.chunks)):=bm.o (λO L l Q=>C _ L.n (au.1 l).1);have fb:X (jQ r q w bi):=bB.o.kp.trans (jQ.jw ar);clear C ar;go_wp2;exact⟨rfl,fb.o,.inr ⟨m,rfl,G.o⟩⟩
     ·have b1:=af eQ;have bA:=af er;have e0:v<=2147483648:=by omega
      have b0:X (mh w bi j r q c e a):=bB.o.step a5 a4 aw (jQ.jw ar);have db:X (bi.heap[q]? =I (cg z N)):=Kp.block ar da.o (by omega);have dC:X (bi.heap[u]? =I (.cells #[.string d.name,.int .i64 d.kind] 63 (0,0))):=Kp.block ar dv.o (by omega);obtain⟨ae,co⟩:∃ae,ae=D+(aL v).length:=⟨_,rfl⟩;have bs:=af co;rw[<-co] at ee ca;have dk:=af ca;clear er co ar ca bB dp da dv eQ
      go_wp2_with fail
      refine(Bu q N v z _ gl cp e0 db.o).mono ?_;rintro P n ⟨av,⟨g,rfl,e1,es,ef,d2⟩|⟨m,rfl,C⟩⟩;rotate_left
      ·have G:X (∀b,eL cs b->ai (bytesOf s) p (ek cs b)->¬ai (bytesOf z) t (ct b.chunks)):=bm.o (λO L l Q=>C (bytesOf O.text) (by rw[aj];exact cA (by have:=L.n;omega) (by have:=b1.o;omega) (au.1 l).1 bA.o) Q);have fd:X (jQ r q w n):=b0.o.kp.trans (jQ.Eb av);clear C av;go_wp2;exact⟨rfl,fd.o,.inr ⟨m,rfl,G.o⟩⟩
      ·have ds:=af es;have bc:=af e1;have bb:X (mh w n j r q c e a):=b0.o.step a5 a4 aw (jQ.Eb av);have b2:X (n.heap[u]? =I (.cells #[.string d.name,.int .i64 d.kind] 63 (0,0))):=Kp.block av dC.o (by omega);have dq:X (n.heap[r]? =I (cg s ae)):=Kp.block av dk.o (by omega);have dc:=af d2;have fk:=af ef;have dl:X (bH 131 #[.pointer (I ⟨r,0,K⟩),.int .i64 d.kind] n.drew (Hw n.drew r ae s d.kind)):=yY d.kind c4.o r ae s n.drew ci ee dq.o;clear es e1 av d2 b0 dC dk db ef e0;obtain⟨be,a7,cu⟩:=bb.o.cells;have e4:aM n u 1 (.int .i64 d.kind):=by have:=b2.o;simp[Us,this]
       have e7:=af c4.o
       go_upto_region 8 with fail
       refine Un.open_ (λy=>aM y j 1 e/\aM y u 1 (.int .i64 d.kind)) 11 (λ_ _ _ _ _ h=>h) λg9=>?_;have a1:(λy=>aM y j 1 e/\aM y u 1 (.int .i64 d.kind)) n.drew:=⟨a7,e4⟩;refine Un.pk 0 ?_
       try simp only[UW,Uc,Ul,Uk]
       refine Un.ld [11] 1 ?_
       try simp only[UW,Uc,Ul,Uk]
       refine Un.pk 2 ?_
       try simp only[UW,Uc,Ul,Uk]
       refine Un.pk 3 ?_
       try simp only[UW,Uc,Ul,Uk]
       refine Un.pk 4 ?_
       try simp only[UW,Uc,Ul,Uk]
       refine Un.ld [11] 5 ?_
       try simp only[UW,Uc,Ul,Uk]
       refine Un.on 6 λW B=>?_;go_simp;go_at_call 131;refine dl.o.mono ?_;rintro P o ⟨J,⟨b,rfl,d5,et,eh,d3⟩|⟨m,rfl,C⟩⟩;rotate_left
       ·have J:=(Kp.cr (r:=r) ((Up n.heap.size n).drew)).trans J;have G:X (∀b,eL cs b->ai (bytesOf s) p (ek cs b)->¬ai (bytesOf z) t (ct b.chunks)):=bm.o (λO L l Q=>by
         unfold Ld at l;obtain⟨bd,dE⟩:=au.1 l;have f0:=cA (by have:=L.n;omega) (by have:=b1.o;omega) bd bA.o;rw[f0,am.o,<-bs.o] at dE;have x:=L.b;rw[am.o] at x;exact C _ x dE)
        have fe:X (jQ r q w o):=bb.o.kp.trans (jQ.jw J);clear C J;exact⟨rfl,fe.o,.inr ⟨m,rfl,G.o⟩⟩
       ·have J:=(Kp.cr (r:=r) ((Up n.heap.size n).drew)).trans J;unfold FE;have H:X (mh w o j r q c e a):=bb.o.step a5 a4 aw (jQ.jw J);have dr:=af d3;have dd:X (o.heap[q]? =I (cg z (N+v))):=Kp.block J dc.o (by omega);have aq:X (o.heap[u]? =I (.cells #[.string d.name,.int .i64 d.kind] 63 (0,0))):=Kp.block J b2.o (by omega);have e6:=af d5;have fu:=af et;have fl:=af eh;obtain⟨-,cv,-⟩:=H.o.cells;have bj:aM o u 1 (.int .i64 d.kind):=by have:=aq.o;simp[Us,this]
        refine B.o _ _ (λ_=>⟨cv,bj⟩) ?_;clear B W a1 J d3 d5 et eh be a7 cu e4 bb b2 dq dc dl
        try simp only[UW,Uc,Ul,Uk]
        have a1:(λy=>aM y j 1 e/\aM y u 1 (.int .i64 d.kind)) o:=⟨cv,bj⟩;refine Un.pk 7 ?_
        try simp only[UW,Uc,Ul,Uk]
        refine Un.on 8 λW B=>?_;go_simp;have du:X (mh w (o.alloc (.cells (dI ⟨g,b⟩).toArray 143)) j r q c e a):=H.o.below ((Up _ _).alloc (T8 _) _);have e5:(o.alloc (.cells (dI ⟨g,b⟩).toArray 143)).cell? ⟨u,1,K⟩=I (.int .i64 d.kind):=(((Up o.heap.size o).alloc (T8 _) _).cell (p:=⟨u,1,K⟩) (Ue aq.o)).trans bj;refine B.o _ _ (λ_=>⟨du.o.cells.2.1,e5⟩) ?_;clear B W a1
        try simp only[UW,Uc,Ul,Uk]
        refine Un.one (i:=9) (by kernel_rfl) Y (λW B=>?_);have en:=H.o.own;have hd:w.heap.size<=o.heap.size:=H.o.kp.size;refine WK _ (by rfl) _ _ 137 (by rfl) w.heap.size 143 gm _ 8 88 ay.underlying137 f7 gg gi gj Y (by decide) e a.length _ (by rfl) (en.alloc _) ⟨o.heap.size,0,K⟩ 1 1 (dI ⟨g,b⟩) (by rfl) Y (yc o ⟨g,b⟩ _) (us _) (by decide) (by unfold Uq;omega) (by omega) (by simp;omega) _ Y ?_;intro A S al ck d7 d4 gc;have az:=aR.jj (n:=a.length+1) (cap:=S) d7 d4;have em:al.ownsRow w.heap.size 143 8 (.slice (I ⟨A,0,K⟩) (a.length+1) S) (a++[(⟨g,b⟩:kq)]).length (ej (a++[(⟨g,b⟩:kq)])):=by
         unfold ej at ck ⊢;rw[Vi,Vc,Ua];exact ck
        have e9:X (mh w (al.setCell ⟨j,1,K⟩ (.slice (I ⟨A,0,K⟩) (a.length+1) S)) j r q c (.slice (I ⟨A,0,K⟩) (a.length+1) S) (a++[(⟨g,b⟩:kq)])):=H.o.jP aw az em;have bx:X ((al.setCell ⟨j,1,K⟩ (.slice (I ⟨A,0,K⟩) (a.length+1) S)).heap[r]? =I (cg s (ae+(cq d.kind b).length))):=H.o.reader aw az a5 dr.o;have bu:X ((al.setCell ⟨j,1,K⟩ (.slice (I ⟨A,0,K⟩) (a.length+1) S)).heap[q]? =I (cg z (N+v))):=H.o.reader aw az a4 dd.o;obtain⟨cx,gt⟩:=H.o.kept az;have cR:aM al u 1 (.int .i64 d.kind):=by
         have:=(az.fO.block _ (Ue aq.o) (bw H.o.own aq.o (by decide))).trans aq.o;simp[Us,this]
        refine B.o _ _ (λ_=>⟨cx,cR⟩) ?_;clear B W en ck d7 d4 gc em az
        try simp only[UW,Uc,Ul,Uk]
        have a1:(λy=>aM y j 1 e/\aM y u 1 (.int .i64 d.kind)) al:=⟨cx,cR⟩;refine Un.pk 10 ?_
        try simp only[UW,Uc,Ul,Uk]
        refine Un.on 11 λW B=>?_;go_simp;refine B.o _ _ (λh=>absurd h (by decide)) ?_;clear B W a1 cx gt cR cv bj e5;refine Un.done (by kernel_rfl) ?_ _
        try simp only[UW,Uc,Ul,Uk]
        clear H du dr dd aq;generalize al.setCell ⟨j,1,K⟩ (.slice (I ⟨A,0,K⟩) (a.length+1) S)=gx at*;generalize Vg (I ⟨A,0,K⟩) (a.length+1) S=he at*;have c0:X (Fo cs a.length ⟨g,b⟩):=⟨by have:=bc.o;have:=b1.o;show g.size<_;omega,by rw[am.o];exact e6.o⟩;have dt:X (ai (bytesOf s) D (Ld cs a ⟨g,b⟩)):=by
         show ai _ _ (aL g.size++cq (cs.getD a.length ⟨⟨#[]⟩,0⟩).kind b);rw[bc.o,am.o];exact au.2 ⟨bA.o,by rw[<-bs.o];exact fu.o⟩
        have c5:X (M+(wK cs (a++[(⟨g,b⟩:kq)])).length=ae+(cq d.kind b).length):=by
         show _=_;rw[uk,Ua];have T:(Ld cs a ⟨g,b⟩).length=(aL v).length+(cq d.kind b).length:=by
          show(aL g.size++cq (cs.getD a.length ⟨⟨#[]⟩,0⟩).kind b).length=_;rw[bc.o,am.o,Ua]
         have k:=a0.o;have l:=bs.o;omega
        have c6:X (t+(ct (a++[(⟨g,b⟩:kq)])).length=N+v):=by
         show _=_;rw[sA,Ua,aj];have T:=ap.o;have k:=bc.o;simp only;omega
        have fm:X (Q2 (wK cs) ct (Fo cs) (bytesOf s) M (bytesOf z) t cs.length (a++[(⟨g,b⟩:kq)])):=by
         refine ao.o.more (e:=Ld cs) (g:=λ_ d=>bytesOf d.text) (uk cs) sA V c0.o (by rw[<-a0.o];exact dt.o) (by rw[<-ap.o];exact ds.o) (λO L l Q=>?_);rw[<-a0.o] at l;rw[<-ap.o] at Q;exact Q3 (by rw[am.o];exact e7.o) c0.o L dt.o l ds.o Q
        go_wp2_with fail
        go_roundw
        case rel=>exact⟨a++[(⟨g,b⟩:kq)],_,by rw[Ua];go_num,fm.o,e9.o,by rw[c5.o];exact fl.o,by rw[c5.o];exact bx.o,by rw[c6.o];exact fk.o,by rw[c6.o];exact bu.o⟩
        case measure=>simp[US];omega
    ·have a8:=ao.o.done V;obtain⟨gn,fF,ea⟩:=bC f.own;rw[a8.1] at ea;subst ea;generalize f8:Vg gn cs.length fF=e at f;obtain⟨be,a7,-⟩:=f.cells;have T:=Ur wr w.heap.size 0 _ _ (.int .i64 (c:Int)) f.res;have k:=Ur _ w.heap.size 1 _ _ e T;have ft:X (((wr.setCell ⟨w.heap.size,0,K⟩ (.int .i64 (c:Int))).setCell ⟨w.heap.size,1,K⟩ e).ownsRow w.heap.size 143 8 e a.length (ej a)):=by
      have bd:=f.own.kept (aQ wr w.heap.size 0 (.int .i64 (c:Int))) (.inr (bw f.own f.res (by decide)).symm);exact bd.kept (aQ _ w.heap.size 1 e) (.inr (bw bd T (by decide)).symm)
     have fi:X (jQ r q w ((wr.setCell ⟨w.heap.size,0,K⟩ (.int .i64 (c:Int))).setCell ⟨w.heap.size,1,K⟩ e)):=(f.kp.grown (aQ wr w.heap.size 0 _) (λf1 P=>by cases P;exact T8 _)).grown (aQ _ w.heap.size 1 _) (λf1 P=>by cases P;exact T8 _);have bx:X (((wr.setCell ⟨w.heap.size,0,K⟩ (.int .i64 (c:Int))).setCell ⟨w.heap.size,1,K⟩ e).heap[r]? =I (cg s D)):=by
      show _=_;rw[Uu _ _ _ _ (by simp;omega),Uu _ _ _ _ (by simp;omega)];exact bv.o
     have bu:X (((wr.setCell ⟨w.heap.size,0,K⟩ (.int .i64 (c:Int))).setCell ⟨w.heap.size,1,K⟩ e).heap[q]? =I (cg z N)):=by
      show _=_;rw[Uu _ _ _ _ (by simp;omega),Uu _ _ _ _ (by simp;omega)];exact bt.o
     have hf:aM wr w.heap.size 0 (.int .i64 0):=by have:=f.res;simp[Us,this]
     have hg:aM wr w.heap.size 1 aO:=by have:=f.res;simp[Us,this]
     have g2:wr.frozen? ⟨w.heap.size,0,K⟩=T7:=by have:=f.res;simp[UQ,this]
     have g3:wr.frozen? ⟨w.heap.size,1,K⟩=T7:=by have:=f.res;simp[UQ,this]
     have gq:((wr.setCell ⟨w.heap.size,0,K⟩ (.int .i64 (c:Int))).setCell ⟨w.heap.size,1,K⟩ e).cell? ⟨w.heap.size,0,K⟩=I (.int .i64 (c:Int)):=by simp[Us,k]
     have gr:((wr.setCell ⟨w.heap.size,0,K⟩ (.int .i64 (c:Int))).setCell ⟨w.heap.size,1,K⟩ e).cell? ⟨w.heap.size,1,K⟩=I e:=by simp[Us,k]
     have bl:X ((ek cs ⟨c,a⟩).length+p=D/\ai (bytesOf s) p (ek cs ⟨c,a⟩)):=by
      have b3:=br.o;have A:=a0.o;refine⟨by show(aL c++wK cs a).length+p=D;rw[Ua];omega,?_⟩;exact au.2 ⟨ba.o,by rw[<-b3];exact ao.o.st⟩
     have fx:X (∀aa,eL cs aa->ai (bytesOf s) p (ek cs aa)->ai (bytesOf z) t (ct aa.chunks)->aa=⟨c,a⟩):=λaa cc ad a2=>by
      obtain⟨b3,A⟩:=au.1 ad;have a3:=cA (by have:=cc.hi;omega) (by have:=c7.o;omega) b3 ba.o;rw[a3,<-br.o] at A;have eb:=a8.2 aa.chunks cc.len cc.each A a2;obtain⟨g0,b⟩:=aa;simp only at a3 eb;rw[a3,eb]
     have c2:X (eL cs ⟨c,a⟩):=⟨c3.o.1,c3.o.2,a8.1,ao.o.Rn⟩;have fv:=af ao.o.sc;clear T k f a8 f9 V;subst f8;have g8:a.length=cs.length:=c2.o.len;go_wp2;simp[VR,UX,Tryz.results96,go_sem,gq,gr]
     trace_state
     exact⟨fi.o,.inl ⟨⟨c,a⟩,_,rfl,c2.o,bl.o.2,by have:=bl.o.1;omega,by have:=bl.o.1;rw[show p+(ek cs ⟨c,a⟩).length=D by omega];exact bx.o,fv.o,by rw[<-ap.o];exact cp,by rw[<-ap.o];exact bu.o,ft.o,fx.o⟩⟩
structure lE(w W:F)(g r q:Nat)(l:List (bL×Int))(co eo:Option UJ)(cc ec:Nat)(bv:U)(L:List (Bd×U)):Prop where
 res:W.heap[w.heap.size]? =I (.cells #[aO,aO,aO] 105 (0,0))
 box:W.heap[g]? =I (.cells #[.slice co l.length cc,.slice eo l.length ec,bv] 105 (0,0))
 ah:W.ownsRow w.heap.size 63 2 (.slice co l.length cc) l.length (eH (l.map Ux))
 eI:W.ownsRow w.heap.size 3 1 (.slice eo l.length ec) l.length (bz (l.map VU))
 b9:iY W w.heap.size bv L
 kp:jQ r q w W
def lE.step{w W c:F}{g r q:Nat}{l:List (bL×Int)}{co i:Option UJ}{e f:Nat}{d:U}{L:List (Bd×U)}(h:lE w W g r q l co i e f d L)(b:r<w.heap.size)(a:q<w.heap.size)(n:w.heap.size<g)(k:jQ r q W c):lE w c g r q l co i e f d L:=
 ⟨k.keep h.res (by omega) (by omega),k.keep h.box (by omega) (by omega),k.own h.ah b a,k.own h.eI b a,⟨k.own h.b9.own b a,λm j=>k.own (h.b9.each m j) b a⟩,h.kp.trans k⟩
def lE.below{w W b:F}{g r q:Nat}{l:List (bL×Int)}{co f:Option UJ}{d e:Nat}{c:U}{L:List (Bd×U)}(h:lE w W g r q l co f d e c L)(a:aP W b):lE w b g r q l co f d e c L:=
 ⟨(a.block _ (Ue h.res)).trans h.res,(a.block _ (Ue h.box)).trans h.box,aK h.ah a,aK h.eI a,h.b9.below a,h.kp.trans (jQ.cr a)⟩
def lE.cells{w W:F}{g r q:Nat}{l:List (bL×Int)}{co e:Option UJ}{c d:Nat}{b:U}{L:List (Bd×U)}(h:lE w W g r q l co e c d b L):
 aM W g 0 (.slice co l.length c)/\aM W g 1 (.slice e l.length d)/\aM W g 2 b/\W.frozen? ⟨g,2,K⟩=T7:=by
 have a:=h.box;exact⟨by simp[Us,a],by simp[Us,a],by simp[Us,a],by simp[UQ,a]⟩
def lE.kept{w W a:F}{g r q:Nat}{l:List (bL×Int)}{co i:Option UJ}{e f:Nat}{b d:U}{L:List (Bd×U)}(h:lE w W g r q l co i e f b L)(j:aR W a b d):
 aM a g 2 b/\a.frozen? ⟨g,2,K⟩=T7:=by
 have c:=(j.fO.block _ (Ue h.box) (bw h.b9.own h.box (by decide))).trans h.box;exact⟨by simp[Us,c],by simp[UQ,c]⟩
def lE.jP{w W c:F}{g r q:Nat}{l:List (bL×Int)}{co o:Option UJ}{m n:Nat}{i a:U}{L:List (Bd×U)}(h:lE w W g r q l co o m n i L)(z:w.heap.size<g)(d:aR W c i a){b:Bd}{f:U}(x:W.ownsRow w.heap.size 143 8 f b.chunks.length (ej b.chunks))
 (y:c.ownsRow w.heap.size 139 2 a (L++[(b,f)]).length (nH (L++[(b,f)]))):lE w (c.setCell ⟨g,2,K⟩ a) g r q l co o m n a (L++[(b,f)]):=by
 have t:=(d.fO.block _ (Ue h.res) (bw h.b9.own h.res (by decide))).trans h.res;have e:=(d.fO.block _ (Ue h.box) (bw h.b9.own h.box (by decide))).trans h.box;have u:=Ur c g 2 _ _ a e;have j:=bF h.ah d (dQ h.ah h.b9.own (by decide));have k:=bF h.eI d (dQ h.eI h.b9.own (by decide));refine⟨?_,u,j.kept (aQ c _ 2 a) (.inr (bw j e (by decide)).symm),k.kept (aQ c _ 2 a) (.inr (bw k e (by decide)).symm),(h.b9.snoc d x y).put e (by decide) (by decide) _ _,?_⟩
 ·rw[Uu _ _ _ _ (by simp;omega)];exact t
 ·exact(h.kp.grown d.fO (λp v=>(h.b9.own.lt p v).1)).grown (aQ c g 2 a) (λp s=>by cases s;omega)
def lE.reader{w W a:F}{g r q:Nat}{l:List (bL×Int)}{co k:Option UJ}{e j:Nat}{b c:U}{L:List (Bd×U)}(h:lE w W g r q l co k e j b L)(n:w.heap.size<g)(m:aR W a b c){i:Nat}{o:Obj}(p:i<w.heap.size)(d:W.heap[i]? =I o):(a.setCell ⟨g,2,K⟩ c).heap[i]? =I o:=by
 rw[Uu _ _ _ _ (by simp;omega),m.fO.block i (Ue d) (λf=>by have:=(h.b9.own.lt i f.symm).1;omega)];exact d
def zH{B a:List Nat}(h:ai B 0 a)(c:B.length<=a.length):B=a:=by
 have b:a <+:B:=by simpa [ai] using h
 exact(b.eq_of_length_le c).symm
def tZ(cs:List bL)(bs:List Bd)(b:Bd):cQ cs (bs++[b])=cQ cs bs++ek cs b:=by
 unfold cQ;rw[Vi,Vc]
def I4(cs:List bL)(b:Bd):1<=(ek cs b).length:=by unfold ek;rw[Ua];have:=E8 b.rows;omega
def I5(cs:List bL)(bs:List Bd):bs.length<=(cQ cs bs).length:=by
 induction bs with
 |nil=>simp
 |cons a c b=>
  have:=I4 cs a;unfold cQ at b ⊢;rw[WR,Ua,VI];omega
def QB{cs:List bL}{bs:List Bd}(h:∀b∈bs,eL cs b):sE (λ_=>eL cs) bs:=λc a=>h _ (Uj a)
def Rb{cs:List bL}{bs:List Bd}(h:sE (λ_=>eL cs) bs):∀b∈bs,eL cs b:=λb a=>by
 obtain⟨d,c,rfl⟩:=Vv a;exact h d c
def Mz{l:List (bL×Int)}(h:nT l):∀i (h:i<(l.map Ux).length),(l.map Ux)[i].kind=1\/(l.map Ux)[i].kind=2\/(l.map Ux)[i].kind=3:=by
 intro i a;have:=(h.1.2.2 i a).1;simp only[n5,fX,Uw,decide_eq_true_eq] at this;omega
def Se (w:F)(r:Nat)(s:ByteArray)(q:Nat)(z:ByteArray)(e:WS)(w':F):Prop:=
 jQ r q w w'/\((∃(a:List (bL×Int)) (b:List Bd) (f:List (Bd×U)) (i k:Option UJ) (h j:Nat) (g:U),e= .returned (.agg #[.slice i a.length h,.slice k a.length j,g])/\xe a b/\f.map Ux=b/\ai (bytesOf s) 0 (qE a b)/\(qE a b).length<=s.size/\w'.heap[r]? =I (cg s (qE a b).length)/\bytesOf z=bR b/\
  w'.ownsRow w.heap.size 63 2 (.slice i a.length h) a.length (eH (a.map Ux))/\w'.ownsRow w.heap.size 3 1 (.slice k a.length j) a.length (bz (a.map VU))/\iY w' w.heap.size g f/\(∀d c,xe d c->ai (bytesOf s) 0 (qE d c)->bytesOf z=bR c->d=a/\c=b))\/
  (∃m,e= .panicked (eD m)/\∀a b,xe a b->ai (bytesOf s) 0 (qE a b)->bytesOf z≠bR b))
def y8(r q:Nat)(s z:ByteArray)(w:F)(gl:r≠q)(eh:s.size<=65536)(gs:z.size<=65536)(h:w.heap[r]? =I (cg s 0))(k:w.heap[q]? =I (cg z 0)):
 bH 64 #[.pointer (I ⟨r,0,K⟩),.pointer (I ⟨q,0,K⟩)] w (Se w r s q z):=by
 obtain⟨gt,f9,gn,gq,gr⟩:=Ve ay.Ij;have a8:r<w.heap.size:=Ue h;have a7:q<w.heap.size:=Ue k;have gf:s.size<=Uq:=by unfold Uq;omega
 have e0:z.size<=Uq:=by unfold Uq;omega
 have df:X ((w.alloc (.cells #[aO,aO,aO] 105)).heap[r]? =I (cg s 0)):=by
  show _=_;rw[UN _ _ r a8];exact h
 have da:X ((w.alloc (.cells #[aO,aO,aO] 105)).heap[q]? =I (cg z 0)):=by
  show _=_;rw[UN _ _ q a7];exact k
 have bu:X (jQ r q w (w.alloc (.cells #[aO,aO,aO] 105))):=(jQ.refl r q w).alloc _;clear h k;go_enter ay.func64,Tryz.ntmps64
 go_wp2_with fail
 refine(wP r 0 s _ eh (UE _) df.o).mono ?_;rintro p L ⟨am,⟨a,g3,g4,rfl,ap,eo,ea,cf,ck,cl,et⟩|⟨m,rfl,aa⟩⟩;rotate_left
 ·have O:X (∀a b,xe a b->ai (bytesOf s) 0 (qE a b)->bytesOf z≠bR b):=λa b l E=>(aa a l.pl (au.1 E).1).elim;have fb:X (jQ r q w L):=bu.o.trans (jQ.jw am);clear aa am;go_wp2;exact⟨rfl,fb.o,.inr ⟨m,rfl,O.o⟩⟩
 ·obtain⟨d,e,rfl⟩:=bC ck;obtain⟨f,g,rfl⟩:=bC cl;have dO:L.heap[q]? =I (cg z 0):=Kp.block am da.o (by omega);have J:lE w (L.alloc (.cells #[.slice d a.length e,.slice f a.length g,aO] 105)) L.heap.size r q a d f e g aO []:=by
   refine⟨?_,bk L _,(bM ck (by simp)).alloc _,(bM cl (by simp)).alloc _,⟨Vp _ _ _ _,λhf gj=>by simp at gj⟩,(bu.o.trans (jQ.jw am)).alloc _⟩;have:=Kp.block am (V4 w (.cells #[aO,aO,aO] 105)) (by omega);exact alloc_old _ (by simpa using Ue this) this
  have a5:w.heap.size<L.heap.size:=by have:=am.size;simp at this;omega
  obtain⟨R,cu⟩:∃R,R=(yO a).length:=⟨_,rfl⟩;rw[UT,<-cu] at ea cf;have bx:X (R=(yO a).length):=cu;have f2:X (ai (bytesOf s) 0 (yO a)):=eo;have c9:X (nT a):=ap;have du:X (∀j,nT j->ai (bytesOf s) 0 (yO j)->j=a):=et;have d2:(L.alloc (.cells #[.slice d a.length e,.slice f a.length g,aO] 105)).heap[r]? =I (cg s R):=by rw[UN _ _ r (by omega)];exact cf
  have d0:(L.alloc (.cells #[.slice d a.length e,.slice f a.length g,aO] 105)).heap[q]? =I (cg z 0):=by rw[UN _ _ q (by omega)];exact dO
  have ee:a.length<=8:=by have:=ap.1.2.1;simpa using this
  have e5:X ((a.map Ux).length<=8):=by show _<=_;simpa using ee
  go_upto_region 3 with fail
  generalize L.alloc (.cells #[.slice d a.length e,.slice f a.length g,aO] 105)=b3 at*;generalize L.heap.size=x at*;have dp:X (b3.heap[r]? =I (cg s R)):=d2;have dc:X (b3.heap[q]? =I (cg z 0)):=d0;have M:X (lE w b3 x r q a d f e g aO []):=J;clear eo cu d2 d0 J ap et ck cl am cf dO df da bu ee;clear L
  go_wp2_with fail
  refine(jK r R s _ gf ea dp.o).mono ?_;rintro p br ⟨a4,⟨t,rfl,el,eq,eb,ch⟩|⟨m,rfl,aa⟩⟩;rotate_left
  ·have O:X (∀a b,xe a b->ai (bytesOf s) 0 (qE a b)->bytesOf z≠bR b):=λj b l E _=>by
    obtain⟨y,k⟩:=au.1 E;obtain rfl:=du.o j l.pl y;rw[UT,<-bx.o] at k;refine aa _ ?_ (au.1 k).1;have A:=tB b (λc ao=>(l.b9 c ao).lo);have:=l.rows;omega
   have fd:X (jQ r q w br):=M.o.kp.trans (jQ.jw a4);clear aa a4;go_wp2;exact⟨rfl,fd.o,.inr ⟨m,rfl,O.o⟩⟩
  ·have ds:X (lE w br x r q a d f e g aO []):=M.o.step a8 a7 a5 (jQ.jw a4);have dd:X (br.heap[q]? =I (cg z 0)):=Kp.block a4 dc.o (by omega);obtain⟨D,cv⟩:∃D,D=R+(aL t).length:=⟨_,rfl⟩;have c8:X (D=R+(aL t).length):=cv;rw[<-cv] at eb ch;have dq:X (br.heap[r]? =I (cg s D)):=ch;have dr:X (ai (bytesOf s) R (aL t)):=eq;have ft:X (t<2147483648):=el;have gg:(t:Int)<2147483648:=by omega
   have c4:X (∀j o,xe j o->ai (bytesOf s) 0 (qE j o)->j=a/\o.length=t/\ai (bytesOf s) D (cQ (a.map Ux) o)):=λj o l E=>by
    obtain⟨y,k⟩:=au.1 E;obtain rfl:=du.o j l.pl y;rw[UT,<-bx.o] at k;obtain⟨A,T⟩:=au.1 k;have b6:=tB o (λc ao=>(l.b9 c ao).lo);have g9:=l.rows;have d7:=cA (by omega) (by have:=ft.o;omega) A dr.o;rw[d7,<-c8.o] at T;exact⟨rfl,d7,T⟩
   clear eq cv a4 ch M dp dc el
   go_wp2_with fail
   go_loopw [18] (λc0 wr=>∃(b:List Bd) (n:List (Bd×U)) (i:U),c0= .int .i64 (b.length:Int)/\n.map Ux=b/\Q2 (cQ (a.map Ux)) bR (λ_=>eL (a.map Ux)) (bytesOf s) D (bytesOf z) 0 t b/\lE w wr x r q a d f e g i n/\D+(cQ (a.map Ux) b).length<=s.size/\wr.heap[r]? =I (cg s (D+(cQ (a.map Ux) b).length))/\(bR b).length<=z.size/\wr.heap[q]? =I (cg z (bR b).length)) (λc0 _=>t-(US c0).toNat)
   case atStart=>exact⟨[],[],_,rfl,rfl,Q2.zero Y Y,ds.o,by simpa [cQ] using eb,by simpa [cQ] using dq.o,by simp[bR],by simpa [bR] using dd.o⟩
   case round=>
    clear ds dq dd;obtain⟨b,n,i,rfl,ca,cb,J,ap,cd,es,cc⟩:=hrel;have ad:X (Q2 (cQ (a.map Ux)) bR (λ_=>eL (a.map Ux)) (bytesOf s) D (bytesOf z) 0 t b):=cb;have M:X (lE w wr x r q a d f e g i n):=J;have bb:X (n.map Ux=b):=ca;have bv:X (n.length=b.length):=by show _=_;rw[<-ca,UG]
    have d4:b.length<=65536:=by have:=I5 (a.map Ux) b;omega
    obtain⟨u,cx⟩:∃u,u=D+(cQ (a.map Ux) b).length:=⟨_,rfl⟩;obtain⟨v,ab⟩:∃v,v=(bR b).length:=⟨_,rfl⟩;have az:X (u=D+(cQ (a.map Ux) b).length):=cx;have av:X (v=(bR b).length):=ab;rw[<-cx] at ap cd;rw[<-ab] at es cc;have a1:X (wr.heap[r]? =I (cg s u)):=cd;have a0:X (wr.heap[q]? =I (cg z v)):=cc;have gc:b.length<=t:=cb.le;have gm:w.heap.size<=wr.heap.size:=J.kp.size;clear cb cx ab cd cc ca;by_cases bi:b.length<t
    ·have e8:X ((∀B,eL (a.map Ux) B->ai (bytesOf s) u (ek (a.map Ux) B)->¬ai (bytesOf z) v (ct B.chunks))->∀a b,xe a b->ai (bytesOf s) 0 (qE a b)->bytesOf z≠bR b):=λab j o l E W=>by
      obtain⟨y,k,A⟩:=c4.o j o l E;rw[y] at l;refine ad.o.fail (e:=λ_ B=>ek (a.map Ux) B) (g:=λ_ B=>ct B.chunks) (tZ _) r8 bi (λB cR T b6=>?_) o k (QB l.b9) A (eO W.symm);rw[<-az.o] at T;rw[UT,<-av.o] at b6;exact ab B cR T b6
     have dl:X (bH 96 #[.pointer (I ⟨r,0,K⟩),.pointer (I ⟨q,0,K⟩),.slice d a.length e] wr.drew (Sc (a.map Ux) wr.drew r u s q v z)):=Cr (a.map Ux) _ r u q v w.heap.size s z wr.drew gl eh gs ap es a1.o a0.o a8 a7 (by rw[UG];exact(aK M.o.ah ((Up wr.heap.size wr).drew))) e5.o (Mz c9.o);obtain⟨bj,bl,a9,bm⟩:=J.cells;clear J
     go_upto_region 5 with fail
     refine Un.open_ (λal=>aM al x 2 i) 9 (λ_ _ _ _ _ h=>h) λhb=>?_;have a3:(λal=>aM al x 2 i) wr.drew:=a9;refine Un.pk 0 ?_
     try simp only[UW,Uc,Ul,Uk]
     refine Un.ld [9] 1 ?_
     try simp only[UW,Uc,Ul,Uk]
     refine Un.pk 2 ?_
     try simp only[UW,Uc,Ul,Uk]
     refine Un.pk 3 ?_
     try simp only[UW,Uc,Ul,Uk]
     refine Un.pk 4 ?_
     try simp only[UW,Uc,Ul,Uk]
     refine Un.on 5 λae H=>?_;go_simp;go_at_call 96;refine dl.o.mono ?_;rintro p N ⟨V,⟨c,he,rfl,d5,er,ec,d1,d6,ef,dT,cn,eQ⟩|⟨m,rfl,aa⟩⟩;rotate_left
     ·have V:=(jQ.cr (r:=r) (q:=q) ((Up wr.heap.size wr).drew)).trans V;have O:X (∀a b,xe a b->ai (bytesOf s) 0 (qE a b)->bytesOf z≠bR b):=e8.o aa;have fe:X (jQ r q w N):=M.o.kp.trans V;clear aa V;exact⟨rfl,fe.o,.inr ⟨m,rfl,O.o⟩⟩
     ·have V:=(jQ.cr (r:=r) (q:=q) ((Up wr.heap.size wr).drew)).trans V;obtain⟨aq,fF,rfl⟩:=bC cn;have P:X (lE w N x r q a d f e g i n):=M.o.step a8 a7 a5 V;have c5:X (N.ownsRow w.heap.size 143 8 (.slice aq c.chunks.length fF) c.chunks.length (ej c.chunks)):=bM cn (by simpa using gm);have e3:X (eL (a.map Ux) c):=d5;have f3:X (ai (bytesOf s) u (ek (a.map Ux) c)):=er;have fi:X (u+(ek (a.map Ux) c).length<=s.size):=ec;have dk:X (N.heap[r]? =I (cg s (u+(ek (a.map Ux) c).length))):=d1;have e4:X (ai (bytesOf z) v (ct c.chunks)):=d6;have fk:X (v+(ct c.chunks).length<=z.size):=ef;have db:X (N.heap[q]? =I (cg z (v+(ct c.chunks).length))):=dT;have f5:X (∀bd,eL (a.map Ux) bd->ai (bytesOf s) u (ek (a.map Ux) bd)->ai (bytesOf z) v (ct bd.chunks)->bd=c):=eQ;have c2:=P.o.cells.2.2.1;refine H.o _ _ (λ_=>c2) ?_;clear H ae a3 V cn d5 er ec d1 d6 ef dT eQ bj bl a9 bm dl M a1 a0
      try simp only[UW,Uc,Ul,Uk]
      have a3:(λal=>aM al x 2 i) N:=c2;refine Un.on 6 λae H=>?_;go_simp;have dt:X (lE w (N.alloc (.cells (n6 (c,.slice aq c.chunks.length fF)).toArray 139)) x r q a d f e g i n):=P.o.below ((Up _ _).alloc (T8 _) _);refine H.o _ _ (λ_=>dt.o.cells.2.2.1) ?_;clear H ae a3
      try simp only[UW,Uc,Ul,Uk]
      refine Un.one (i:=7) (by kernel_rfl) Y (λae H=>?_);have cp:=P.o.b9.own;rw[bv.o] at cp;have hd:w.heap.size<=N.heap.size:=P.o.kp.size;refine WK _ (by rfl) _ _ 103 (by rfl) w.heap.size 139 gt _ 2 32 ay.underlying103 f9 gn gq gr Y (by decide) i b.length _ (by rfl) (cp.alloc _) ⟨N.heap.size,0,K⟩ 1 1 (n6 (c,.slice aq c.chunks.length fF)) (by rfl) Y (IJ N _ _ _) (by intro v ab;simp[n6] at ab;rcases ab with rfl|rfl<;>rfl) (by decide) (by unfold Uq;omega) (by omega) (by simp;omega) _ Y ?_;intro Q S aw cs d9 d3 ge;have a6:=aR.jj (n:=b.length+1) (cap:=S) d9 d3;have em:aw.ownsRow w.heap.size 139 2 (.slice (I ⟨Q,0,K⟩) (b.length+1) S) (n++[(c,Vg aq c.chunks.length fF)]).length (nH (n++[(c,Vg aq c.chunks.length fF)])):=by
       unfold nH at cs ⊢;rw[Vi,Vc,Ua,bv.o];exact cs
      have e9:X (lE w (aw.setCell ⟨x,2,K⟩ (.slice (I ⟨Q,0,K⟩) (b.length+1) S)) x r q a d f e g (.slice (I ⟨Q,0,K⟩) (b.length+1) S) (n++[(c,Vg aq c.chunks.length fF)])):=P.o.jP a5 a6 c5.o em;have b1:X ((aw.setCell ⟨x,2,K⟩ (.slice (I ⟨Q,0,K⟩) (b.length+1) S)).heap[r]? =I (cg s (u+(ek (a.map Ux) c).length))):=P.o.reader a5 a6 a8 dk.o;have fz:X ((aw.setCell ⟨x,2,K⟩ (.slice (I ⟨Q,0,K⟩) (b.length+1) S)).heap[q]? =I (cg z (v+(ct c.chunks).length))):=P.o.reader a5 a6 a7 db.o;obtain⟨c3,g0⟩:=P.o.kept a6;refine H.o _ _ (λ_=>c3) ?_;clear H ae cp cs d9 d3 ge em a6
      try simp only[UW,Uc,Ul,Uk]
      have a3:(λal=>aM al x 2 i) aw:=c3;refine Un.pk 8 ?_
      try simp only[UW,Uc,Ul,Uk]
      refine Un.on 9 λae H=>?_;go_simp;refine H.o _ _ (λh=>absurd h (by decide)) ?_;clear H ae a3 c3 g0 c2;refine Un.done (by kernel_rfl) ?_ _
      try simp only[UW,Uc,Ul,Uk]
      clear P dt dk db c5;generalize aw.setCell ⟨x,2,K⟩ (.slice (I ⟨Q,0,K⟩) (b.length+1) S)=g1 at*;generalize Vg (I ⟨Q,0,K⟩) (b.length+1) S=g2 at*;have c6:X (D+(cQ (a.map Ux) (b++[c])).length=u+(ek (a.map Ux) c).length):=by
       show _=_;rw[tZ,Ua];have A:=az.o;omega
      have c7:X ((bR (b++[c])).length=v+(ct c.chunks).length):=by
       show _=_;rw[r8,Ua,av.o]
      have fm:X (Q2 (cQ (a.map Ux)) bR (λ_=>eL (a.map Ux)) (bytesOf s) D (bytesOf z) 0 t (b++[c])):=by
       refine ad.o.more (e:=λ_ B=>ek (a.map Ux) B) (g:=λ_ B=>ct B.chunks) (tZ _) r8 bi e3.o (by rw[<-az.o];exact f3.o) (by rw[UT,<-av.o];exact e4.o) (λB cR A T=>?_);rw[<-az.o] at A;rw[UT,<-av.o] at T;exact f5.o B cR A T
      have fl:X ((n++[(c,Vg aq c.chunks.length fF)]).map Ux=b++[c]):=by show _=_;rw[U0,bb.o];rfl
      go_wp2_with fail
      go_roundw
      case rel=>exact⟨b++[c],_,_,by rw[Ua];go_num,fl.o,fm.o,e9.o,by rw[c6.o];exact fi.o,by rw[c6.o];exact b1.o,by rw[c7.o];exact fk.o,by rw[c7.o];exact fz.o⟩
      case measure=>simp[US];omega
    ·have ba:=ad.o.done bi;have e6:X (b.length=t):=ba.1;have e7:X (∀a2:List Bd,a2.length=t->sE (λ_=>eL (a.map Ux)) a2->ai (bytesOf s) D (cQ (a.map Ux) a2)->ai (bytesOf z) 0 (bR a2)->a2=b):=ba.2;have gi:t=b.length:=ba.1.symm;have bt:X (∀c∈b,eL (a.map Ux) c):=Rb ad.o.Rn;have b2:X (∀j o,xe j o->ai (bytesOf s) 0 (qE j o)->bytesOf z=bR o->j=a/\o=b):=λj o l E W=>by
      obtain⟨y,k,A⟩:=c4.o j o l E;rw[y] at l;exact⟨y,e7.o o k (QB l.b9) A (eO W.symm)⟩
     have b0:X (bH 45 #[.agg #[.slice d a.length e,.slice f a.length g,i]] wr λp bo=>p= .returned (.int .i64 (eV (n.map Ux):Int))/\aP wr bo):=AR d f _ _ _ _ w.heap.size i n wr J.b9 (by rw[bv.o];exact d4) (by rw[bb.o];exact λc ao=>(bt.o c ao).hi);rw[bb.o] at b0;have hc:eV b<=6553600:=by have:=Ex b (λc ao=>(bt.o c ao).hi);have:=Nat.mul_le_mul_right 100 d4;omega
     have bs:X ((qE a b).length=u/\ai (bytesOf s) 0 (qE a b)):=by
      have f7:=bx.o;have Q:=c8.o;have g8:=az.o;unfold qE;rw[e6.o];refine⟨by rw[Ua,Ua];omega,?_⟩;exact au.2 ⟨f2.o,by rw[UT,<-f7];exact au.2 ⟨dr.o,by rw[<-Q];exact ad.o.st⟩⟩
     have f4:X (ai (bytesOf z) 0 (bR b)):=ad.o.sc;obtain⟨b5,b4,ci⟩:=bC J.b9.own;subst ci;obtain⟨bj,bl,a9,bm⟩:=J.cells;subst gi;clear J ba ad bi gc gg
     go_wp2_with fail
     refine b0.o.mono ?_;rintro p ar ⟨rfl,be⟩;have bc:X (lE w ar x r q a d f e g (.slice b5 n.length b4) n):=M.o.below be;have bB:X (ar.heap[r]? =I (cg s u)):=(be.block r (Ue a1.o)).trans a1.o;have bA:X (ar.heap[q]? =I (cg z v)):=(be.block q (Ue a0.o)).trans a0.o;clear be M a1 a0 bj bl a9 bm b0;by_cases ha:2000<eV b
     ·have f8:decide ((2000:Int)<(eV b:Int))=Z:=by simp;omega
      have O:X (∀a b,xe a b->ai (bytesOf s) 0 (qE a b)->bytesOf z≠bR b):=λj o l E W=>by
       obtain⟨y,k⟩:=b2.o j o l E W;have:=l.rows;rw[k] at this;omega
      go_wp2_with (go_at_call 97;refine(b8 r u s _ bB.o).mono ?_;rintro p bo ⟨rfl,rfl⟩)
      exact⟨rfl,bc.o.kp,.inr ⟨_,rfl,O.o⟩⟩
     ·have f8:decide ((2000:Int)<(eV b:Int))=T7:=by simp;omega
      have f1:X (eV b<=2000):=by show _<=_;omega
      by_cases d8:v<z.size
      ·have O:X (∀a b,xe a b->ai (bytesOf s) 0 (qE a b)->bytesOf z≠bR b):=λj o l E W=>by
        obtain⟨y,k⟩:=b2.o j o l E W;have A:=congrArg XD W;rw[aj,k,<-av.o] at A;omega
       go_wp2_with (go_at_call 93;refine(BX q v z _ e0 d8 bA.o).mono ?_;rintro p bo ⟨rfl,m,rfl⟩)
       exact⟨rfl,bc.o.kp.trans (jQ.jw ((Kp.refl r ar).drewN _)),.inr ⟨_,rfl,O.o⟩⟩
      ·have f6:X (bytesOf z=bR b):=by
        show _=_;refine(zH f4.o ?_);rw[aj,<-av.o];omega
       have fa:X (xe a b):=⟨c9.o,bt.o,f1.o⟩
       go_upto_region 10 with(go_at_call 93;refine(FY q v z _ e0 d8 bA.o).mono ?_;rintro p bo ⟨rfl,m,rfl⟩)
       have C:lE w (ar.drewN m) x r q a d f e g (.slice b5 n.length b4) n:=bc.o.below (below_drewN (Up _ _) _);have f0:X ((ar.drewN m).heap[r]? =I (cg s u)):=bB.o;generalize ar.drewN m=G at*;generalize ci:Vg b5 n.length b4=i at C;obtain⟨bj,bl,a9,bm⟩:=C.cells;obtain⟨hg,hh,hi⟩:=cB C.res;have g5:G.frozen? ⟨w.heap.size,0,K⟩=T7:=by have:=C.res;simp[UQ,this]
       have g6:G.frozen? ⟨w.heap.size,1,K⟩=T7:=by have:=C.res;simp[UQ,this]
       have g7:G.frozen? ⟨w.heap.size,2,K⟩=T7:=by have:=C.res;simp[UQ,this]
       have y:=Ur G w.heap.size 0 _ _ (.slice d a.length e) C.res;have k:=Ur _ w.heap.size 1 _ _ (.slice f a.length g) y;have A:=Ur _ w.heap.size 2 _ _ i k;obtain⟨gv,gx,gy⟩:=cB (show _=I (Obj.cells #[.slice d a.length e,.slice f a.length g,i] 105 (0,0)) from A);have fu:X (iY (((G.setCell ⟨w.heap.size,0,K⟩ (.slice d a.length e)).setCell ⟨w.heap.size,1,K⟩ (.slice f a.length g)).setCell ⟨w.heap.size,2,K⟩ i) w.heap.size i n):=
        ((C.b9.put C.res (by decide) (by decide) _ _).put y (by decide) (by decide) _ _).put k (by decide) (by decide) _ _
       have c1:∀{q:U} {t p e1:Nat} {e2:List U},p≠105->G.ownsRow w.heap.size p e1 q t e2->(((G.setCell ⟨w.heap.size,0,K⟩ (.slice d a.length e)).setCell ⟨w.heap.size,1,K⟩ (.slice f a.length g)).setCell ⟨w.heap.size,2,K⟩ i).ownsRow w.heap.size p e1 q t e2:=λco en=>by
        have dv:=en.kept (aQ G w.heap.size 0 (.slice d a.length e)) (.inr (bw en C.res co.symm).symm);have dC:=dv.kept (aQ _ w.heap.size 1 (.slice f a.length g)) (.inr (bw dv y co.symm).symm);exact dC.kept (aQ _ w.heap.size 2 i) (.inr (bw dC k co.symm).symm)
       have fv:X ((((G.setCell ⟨w.heap.size,0,K⟩ (.slice d a.length e)).setCell ⟨w.heap.size,1,K⟩ (.slice f a.length g)).setCell ⟨w.heap.size,2,K⟩ i).ownsRow w.heap.size 63 2 (.slice d a.length e) a.length (eH (a.map Ux))):=c1 (by decide) C.ah;have fx:X ((((G.setCell ⟨w.heap.size,0,K⟩ (.slice d a.length e)).setCell ⟨w.heap.size,1,K⟩ (.slice f a.length g)).setCell ⟨w.heap.size,2,K⟩ i).ownsRow w.heap.size 3 1 (.slice f a.length g) a.length (bz (a.map VU))):=c1 (by decide) C.eI;have fg:X (jQ r q w (((G.setCell ⟨w.heap.size,0,K⟩ (.slice d a.length e)).setCell ⟨w.heap.size,1,K⟩ (.slice f a.length g)).setCell ⟨w.heap.size,2,K⟩ i)):=((C.kp.grown (aQ G w.heap.size 0 _) (λdE p=>by cases p;exact T8 _)).grown (aQ _ w.heap.size 1 _) (λdE p=>by cases p;exact T8 _)).grown (aQ _ w.heap.size 2 _) (λdE p=>by cases p;exact T8 _);have b1:X ((((G.setCell ⟨w.heap.size,0,K⟩ (.slice d a.length e)).setCell ⟨w.heap.size,1,K⟩ (.slice f a.length g)).setCell ⟨w.heap.size,2,K⟩ i).heap[r]? =I (cg s u)):=by
        show _=_;rw[Uu _ _ _ _ (by simp;omega),Uu _ _ _ _ (by simp;omega),Uu _ _ _ _ (by simp;omega)];exact f0.o
       clear y k A C bc bB bA c1;subst ci;go_wp2;simp[VR,UX,Tryz.results64,go_sem,gv,gx,gy];exact⟨fg.o,.inl ⟨a,b,n,d,f,e,g,_,rfl,fa.o,bb.o,bs.o.2,by rw[bs.o.1];exact ap,by rw[bs.o.1];exact b1.o,f6.o,fv.o,fx.o,fu.o,b2.o⟩⟩
def oA:Array U:= #[aO,aO,aO]
def fK{w:F}{g:Nat}{a b c:U}{t:Uh}(h:w.heap[g]? =I (.cells #[a,b,c] t (0,0))):(aM w g 0 a/\aM w g 1 b/\aM w g 2 c)/\(w.frozen? ⟨g,0,K⟩=T7/\w.frozen? ⟨g,1,K⟩=T7/\w.frozen? ⟨g,2,K⟩=T7):=by
 refine⟨⟨?_,?_,?_⟩,?_,?_,?_⟩<;>simp[Us,UQ,h]
def gT (w:F)(g:Nat)(a b c:U):F:=((w.setCell ⟨g,0,K⟩ a).setCell ⟨g,1,K⟩ b).setCell ⟨g,2,K⟩ c
def qQ{w:F}{g:Nat}{a b c:U}{t:Uh}(x y z:U)(h:w.heap[g]? =I (.cells #[a,b,c] t (0,0))):(gT w g x y z).heap[g]? =I (.cells #[x,y,z] t (0,0)):=by
 have d:=Ur w g 0 _ _ x h;have e:=Ur _ g 1 _ _ y d;exact Ur _ g 2 _ _ z e
def kH{w:F}{g i:Nat}(x y z:U)(h:i≠g):(gT w g x y z).heap[i]? =w.heap[i]? :=by
 unfold gT;rw[Uu _ _ _ _ (by simp;omega),Uu _ _ _ _ (by simp;omega),Uu _ _ _ _ (by simp;omega)]
def mN{w w0:F}{g n:Nat}(x y z:U)(h:Below n w0 w)(b:n<=w0.heap.size)(a:n<=g):Below n w0 (gT w g x y z):=
 bT (bT (bT h b a _ _) b a _ _) b a _ _
def uf(b a:Nat)(x y z v:U)(u:Uh)(h:U)(g:List PanicEntry)(w:F)(r:b≠a)(hL:w.heap[b]? =I (.cells #[x,y,z] 105 (0,0)))(f:w.heap[a]? =I (.cells #[v] 4 (0,0))):
 CallsD (aB T4) 92 #[.pointer (I ⟨b,0,K⟩),.pointer (I ⟨a,0,K⟩)] (.panicking ({v:=.iface u h,recovered:=T7}::g)) w λe G w'=>
  e= .returned (.tuple #[])/\G= .panicking ({v:=.iface u h,recovered:=Z}::g)/\w'=(gT (w.alloc (.cells oA 105)) b aO aO aO).setCell ⟨a,0,K⟩ (.bool T7):=by
 have q:=Ue hL;have p:=Ue f;have n:(w.alloc (.cells oA 105)).heap[b]? =I (.cells #[x,y,z] 105 (0,0)):=by rw[UN _ _ b q];exact hL
 have l:(w.alloc (.cells oA 105)).heap[a]? =I (.cells #[v] 4 (0,0)):=by rw[UN _ _ a p];exact f
 have o:(w.alloc (.cells oA 105)).heap[w.heap.size]? =I (.cells #[aO,aO,aO] 105 (0,0)):=bk w _;refine callsD_of_wpS ay.func92 Y λJ H s=>?_;apply wpS_seq;apply wpS_region;simp[wpOpsS,go_sem,recoverD,s,Tryz.ntmps92,Exit.thenS];refine wpS_cond (t:=Z) (by simp[Act.eval,U3]) ?_;simp only[if_true];apply wpS_seq;apply wpS_region;simp[wpOpsS,go_sem,Exit.thenS];apply wpS_region;obtain⟨⟨C,D,E⟩,-⟩:=fK o;obtain⟨⟨t,A,B⟩,i,j,k⟩:=fK n;have m:(gT (w.alloc (.cells oA 105)) b aO aO aO).heap[a]? =I (.cells #[v] 4 (0,0)):=by rw[kH _ _ _ r.symm];exact l
 obtain⟨c,d⟩:=dF m;unfold gT at c d ⊢;unfold oA at*;simp[wpOpsS,go_sem,C,D,E,t,A,B,i,j,k,c,d,bodyPostS,UX,Tryz.results92]
def Du(d c:UJ)(w:F):
 CallsD (aB T4) 92 #[.pointer (I d),.pointer (I c)] .returning w λe f w'=>e= .returned (.tuple #[])/\f= .returning/\w'=w:=by
 refine callsD_of_wpS ay.func92 Y λa g b=>?_;apply wpS_seq;apply wpS_region;simp[wpOpsS,go_sem,recoverD,b,Tryz.ntmps92,Exit.thenS];refine wpS_cond (t:=T7) (by simp[Act.eval,U3]) ?_;simp only[UB,if_false];refine wpS_of_wp (wp_skip ?_);cases a;simp_all [bodyPostS,UX,Tryz.results92]
def ME{r q:Nat}{w d e:F}(h:Kp r w d)(k:jQ r q d e)(g:w.heap.size<=q):Kp r w e:=
 ⟨k.os.trans h.os,k.tape.trans h.tape,k.output.trans h.output,Uy (Kp.size h) k.size,λc a b=>(k.block c (Ud a (Kp.size h)) (λf=>b (by rw[f])) (by omega)).trans (Wv h c a b)⟩
structure cO(W:F)(base:Nat)(l:List (bL×Int))(L:List (Bd×U))(a b c:U):Prop where
 ah:W.ownsRow base 63 2 a l.length (eH (l.map Ux))
 eI:W.ownsRow base 3 1 b l.length (bz (l.map VU))
 b9:iY W base c L
def cO.below{W e:F}{base:Nat}{l:List (bL×Int)}{L:List (Bd×U)}{a b c:U}(h:cO W base l L a b c)(d:aP W e):cO e base l L a b c:=⟨aK h.ah d,aK h.eI d,h.b9.below d⟩
def cO.base{W:F}{base e:Nat}{l:List (bL×Int)}{L:List (Bd×U)}{a b c:U}(h:cO W base l L a b c)(d:e<=base):cO W e l L a b c:=⟨bM h.ah d,bM h.eI d,⟨bM h.b9.own d,λg f=>bM (h.b9.each g f) d⟩⟩
def cO.put{W:F}{base:Nat}{l:List (bL×Int)}{L:List (Bd×U)}{a b c:U}(h:cO W base l L a b c){g:Nat}{cs:Array U}{t:Uh}(e:W.heap[g]? =I (.cells cs t (0,0)))(d:t=105\/t=4\/t=9)(o:Nat)(u:U):cO (W.setCell ⟨g,o,K⟩ u) base l L a b c:=by
 have f:t≠63:=by rcases d with rfl|rfl|rfl<;>decide
 have i:t≠3:=by rcases d with rfl|rfl|rfl<;>decide
 have j:t≠139:=by rcases d with rfl|rfl|rfl<;>decide
 have k:t≠143:=by rcases d with rfl|rfl|rfl<;>decide
 exact⟨h.ah.kept (aQ W g o u) (.inr (bw h.ah e f).symm),h.eI.kept (aQ W g o u) (.inr (bw h.eI e i).symm),h.b9.put e j k o u⟩
def cO.gT{W:F}{base:Nat}{l:List (bL×Int)}{L:List (Bd×U)}{a b c:U}(h:cO W base l L a b c){g:Nat}{x y z:U}(f i k:U)(e:W.heap[g]? =I (.cells #[x,y,z] 105 (0,0))):cO (Ec.gT W g f i k) base l L a b c:=by
 have d:=Ur W g 0 _ _ f e;have j:=Ur _ g 1 _ _ i d;exact((h.put e (.inl Y) _ _).put d (.inl Y) _ _).put j (.inl Y) _ _
def cO.Ib{W:F}{base:Nat}{l:List (bL×Int)}{L:List (Bd×U)}{a b c:U}(h:cO W base l L a b c):∃d ac bo e co f,a= .slice d l.length ac/\b= .slice bo l.length e/\c= .slice co L.length f:=by
 obtain⟨d,ac,g⟩:=bC h.ah;obtain⟨bo,e,i⟩:=bC h.eI;obtain⟨co,f,j⟩:=bC h.b9.own;exact⟨d,ac,bo,e,co,f,g,i,j⟩
def TR (w:F)(r:Nat)(s z:ByteArray)(e:WS)(w':F):Prop:=
 Kp r w w'/\((∃(b:List (bL×Int)) (a:List Bd) (f:List (Bd×U)) (g h i:U),e= .returned (.agg #[g,h,i])/\xe b a/\f.map Ux=a/\ai (bytesOf s) 0 (qE b a)/\(qE b a).length<=s.size/\w'.heap[r]? =I (cg s (qE b a).length)/\bytesOf z=bR a/\cO w' w.heap.size b f g h i/\(∀d c,xe d c->ai (bytesOf s) 0 (qE d c)->bytesOf z=bR c->d=b/\c=a))\/
  (∃m,e= .panicked (eD m)/\∀b a,xe b a->ai (bytesOf s) 0 (qE b a)->bytesOf z≠bR a))
def J1(r cb:Nat)(s z:ByteArray)(w:F)(a6:s.size<=65536)(Z:z.size<=65536)(h:w.heap[r]? =I (cg s 0))(y:w.heap[cb]? =I (.cells #[.string z] 9 (0,0))):
 bH 63 #[.pointer (I ⟨r,0,K⟩),.pointer (I ⟨cb,0,K⟩)] w (TR w r s z):=by
 have a7:r<w.heap.size:=Ue h;have a5:cb<w.heap.size:=Ue y;have a4:(w.alloc (.cells #[aO,aO,aO] 105)).cell? ⟨cb,0,K⟩=I (.string z):=(dF (t:=9) (by rw[UN _ _ cb a5];exact y)).1;have A:X (∀o,bH 66 #[.string z] o λc bb=>c= .returned (.string z)/\aP o bb):=λo=>xV z o Z;have u:X ((w.alloc (.cells #[aO,aO,aO] 105)).heap[r]? =I (cg s 0)):=by
  show _=_;rw[UN _ _ r a7];exact h
 have v:X ((w.alloc (.cells #[aO,aO,aO] 105)).heap[w.heap.size]? =I (.cells #[aO,aO,aO] 105 (0,0))):=bk w _;have B:X (Kp r w (w.alloc (.cells #[aO,aO,aO] 105))):=(Kp.refl r w).alloc _;clear h y;go_enter ay.func63,Tryz.ntmps63
 go_wp2_with fail
 refine(A.o _).mono ?_;rintro c b ⟨rfl,q⟩;have E:X (b.heap[r]? =I (cg s 0)):=(q.block r (Ue u.o)).trans u.o;have x:X (b.heap[w.heap.size]? =I (.cells #[aO,aO,aO] 105 (0,0))):=(q.block _ (Ue v.o)).trans v.o;have C:X (Kp r w b):=B.o.trans (Kp.cr q);clear a4 q u v B A
 go_wp2_with fail
 refine(nM z _).mono ?_;rintro c bi ⟨rfl,rfl⟩;have a9:w.heap.size<b.heap.size:=Ue x.o;have G:X ((b.alloc (cg z 0)).heap[r]? =I (cg s 0)):=by show _=_;rw[UN _ _ r (by omega)];exact E.o
 have D:X ((b.alloc (cg z 0)).heap[b.heap.size]? =I (cg z 0)):=bk b _;have H:X ((b.alloc (cg z 0)).heap[w.heap.size]? =I (.cells #[aO,aO,aO] 105 (0,0))):=by show _=_;rw[UN _ _ _ a9];exact x.o
 have t:X (Kp r w (b.alloc (cg z 0))):=C.o.alloc _;have a8:w.heap.size<=(b.alloc (cg z 0)).heap.size:=by simp;omega
 clear E x C;generalize b.alloc (cg z 0)=a2 at*;generalize b.heap.size=ba at*;clear b
 go_wp2_with fail
 refine(y8 r ba s z a2 (by omega) a6 Z G.o D.o).mono ?_;rintro c e ⟨n,⟨a,J,d,g,j,f,i,a3,rfl,Q,N,W,R,O,P,U,V,T,Y⟩|⟨m,rfl,S⟩⟩;rotate_left
 ·have ar:=af S;have am:X (Kp r w e):=ME t.o n (by omega);clear S n;go_wp2;exact⟨rfl,am.o,.inr ⟨m,rfl,ar.o⟩⟩
 ·have M:Kp r w e:=ME t.o n (by omega);have p:e.heap[w.heap.size]? =I (.cells #[aO,aO,aO] 105 (0,0)):=n.keep H.o (by omega) (by omega);have hF:cO e w.heap.size a d (.slice g a.length f) (.slice j a.length i) a3:=(cO.mk U V T).base a8;obtain⟨-,-,-,-,l,k,-,-,rfl⟩:=hF.Ib;have ae:X (cO (gT e w.heap.size (.slice g a.length f) (.slice j a.length i) (.slice l d.length k)) w.heap.size a d (.slice g a.length f) (.slice j a.length i) (.slice l d.length k)):=hF.gT _ _ _ p;have av:X ((gT e w.heap.size (.slice g a.length f) (.slice j a.length i) (.slice l d.length k)).heap[r]? =I (cg s (qE a J).length)):=by show _=_;rw[kH _ _ _ (by omega)];exact O
  have ao:X (Kp r w (gT e w.heap.size (.slice g a.length f) (.slice j a.length i) (.slice l d.length k))):=((M.grown (aQ _ w.heap.size 0 _) (λL c=>by cases c;exact T8 _)).grown (aQ _ w.heap.size 1 _) (λL c=>by cases c;exact T8 _)).grown (aQ _ w.heap.size 2 _) (λL c=>by cases c;exact T8 _);have a0:X ((gT e w.heap.size (.slice g a.length f) (.slice j a.length i) (.slice l d.length k)).heap[w.heap.size]? =I (.cells #[.slice g a.length f,.slice j a.length i,.slice l d.length k] 105 (0,0))):=qQ _ _ _ p;obtain⟨⟨bj,bl,bm⟩,bc,bd,be⟩:=fK p;have al:=af Q;have ap:=af N;have aw:=af W;have aq:=af R;have a1:=af P;have az:=af Y;clear M p hF O n Q N W R P Y U V T G D H t;obtain⟨⟨aa,ab,ad⟩,-⟩:=fK a0.o;unfold gT at aa ab ad;go_wp2;simp[VR,UX,Tryz.results63,go_sem,aa,ab,ad];exact⟨ao.o,.inl ⟨a,J,d,_,_,_,rfl,al.o,ap.o,aw.o,aq.o,av.o,a1.o,ae.o,az.o⟩⟩
def wh(t:ByteArray):(t.toList==[83,84,82,65])=Z↔bytesOf t=[83,84,82,65]:=by
 rw[beq_iff_eq,XJ];unfold bytesOf;constructor
 ·intro d;rw[d];rfl
 ·intro d;have e:t.data.toList.map UInt8.toNat=[(83:UInt8),84,82,65].map UInt8.toNat:=by rw[d];rfl
  have g:∀(c a:List UInt8),c.map UInt8.toNat=a.map UInt8.toNat->c=a:=by
   intro c
   induction c with
   |nil=>intro a b;cases a with|nil=>rfl|cons _ _=>simp at b
   |cons j i f=>
    intro a b;cases a with
    |nil=>simp at b
    |cons k h=>
     simp only[Xw,Xj] at b;rw[UInt8.toNat_inj.1 b.1,f h b.2]
  exact g _ _ e
def PE{s:ByteArray}(c:4<=s.size):bytesOf (s.extract 0 4)=[83,84,82,65]↔∃b,bytesOf s=[83,84,82,65]++b:=by
 rw[dz,List.drop_zero];constructor
 ·intro a;exact⟨(bytesOf s).drop 4,by rw[<-a];exact(Ww 4 _).symm⟩
 ·rintro⟨b,a⟩;rw[a];simp
def P4{s:ByteArray}(d:4<=s.size):bytesOf (s.extract (s.size-4) s.size)=[83,84,82,65]↔∃b,bytesOf s=b++[83,84,82,65]:=by
 rw[dz];constructor
 ·intro a;refine⟨(bytesOf s).take (s.size-4),?_⟩;rw[<-a,UO (l:=(bytesOf s).drop (s.size-4)) (by rw[Xa,aj];omega)];exact(Ww _ _).symm
 ·rintro⟨b,a⟩;have c:=congrArg XD a;rw[aj] at c;simp at c;rw[a,show s.size-4=b.length by omega,List.drop_left];exact UO (by simp;omega)
def Ag(s:ByteArray)(w:F)(f:s.size<=Uq):
 bH 150 #[.string s,.string ⟨#[83,84,82,65]⟩] w λe w'=>∃bb,e= .returned (.bool bb)/\(bb=Z↔4<=s.size/\∃c,bytesOf s=[83,84,82,65]++c)/\w'=w:=by
 unfold Uq at f;by_cases b:4<=s.size
 ·have d:decide ((4:Int)<=(s.size:Int))=Z:=by simp;omega
  have g:(4:Int)<=(s.size:Int):=by omega
  go_enter ay.func150,Tryz.ntmps150;go_wp2;go_ret;exact⟨_,rfl,by rw[wh,PE b];exact⟨λa=>⟨b,a⟩,λa=>a.2⟩,rfl⟩
 ·have d:decide ((4:Int)<=(s.size:Int))=T7:=by simp;omega
  go_enter ay.func150,Tryz.ntmps150;go_wp2;go_ret;exact⟨T7,rfl,⟨λa=>(by simp at a),λa=>absurd a.1 b⟩,rfl⟩
def Aj(s:ByteArray)(w:F)(f:s.size<=Uq):
 bH 151 #[.string s,.string ⟨#[83,84,82,65]⟩] w λe w'=>∃bb,e= .returned (.bool bb)/\(bb=Z↔4<=s.size/\∃c,bytesOf s=c++[83,84,82,65])/\w'=w:=by
 unfold Uq at f;by_cases b:4<=s.size
 ·have d:decide ((4:Int)<=(s.size:Int))=Z:=by simp;omega
  have g:(4:Int)<=(s.size:Int):=by omega
  have h:Vb ((s.size:Int)-4)=((s.size-4:Nat):Int):=by unfold Vb;omega
  have i:((s.size-4:Nat):Int)<=(s.size:Int):=by omega
  have j:((s.size:Int)-4).toNat=s.size-4:=by omega
  go_enter ay.func151,Tryz.ntmps151;go_wp2;go_ret;exact⟨_,rfl,by rw[wh,P4 b];exact⟨λa=>⟨b,a⟩,λa=>a.2⟩,rfl⟩
 ·have d:decide ((4:Int)<=(s.size:Int))=T7:=by simp;omega
  go_enter ay.func151,Tryz.ntmps151;go_wp2;go_ret;exact⟨T7,rfl,⟨λa=>(by simp at a),λa=>absurd a.1 b⟩,rfl⟩
def Qr (s:ByteArray)(e:WS):Prop:=∃(b:ByteArray) (a:Bool),e= .returned (.tuple #[.string b,.bool a])/\((a=Z/\bytesOf s=[83,84,82,65]++bytesOf b)\/(a=T7/\b=s/\∀c,bytesOf s≠[83,84,82,65]++c))
def Qt (s:ByteArray)(e:WS):Prop:=∃(b:ByteArray) (a:Bool),e= .returned (.tuple #[.string b,.bool a])/\((a=Z/\bytesOf s=bytesOf b++[83,84,82,65])\/(a=T7/\b=s/\∀c,bytesOf s≠c++[83,84,82,65]))
def wU(s:ByteArray)(w:F)(g:s.size<=Uq):
 bH 126 #[.string s,.string ⟨#[83,84,82,65]⟩] w λe w'=>Qr s e/\w'=w:=by
 have k:=g;unfold Uq at k;go_enter ay.func126,Tryz.ntmps126
 go_wp2_with fail
 refine(Ag s _ g).mono ?_;rintro e m ⟨j,rfl,a,rfl⟩;cases j
 ·have h:X (∀b,bytesOf s≠[83,84,82,65]++b):=λb c=>by
   have d:4<=s.size:=by
    have:=congrArg XD c;rw[aj] at this;simp at this;omega
   exact absurd (a.2 ⟨d,b,c⟩) (by simp)
  clear a;go_wp2
  go_ret2
  exact⟨⟨s,T7,rfl,.inr ⟨rfl,rfl,h.o⟩⟩,rfl⟩
 ·have d:=(a.1 Y).1;have i:=af ((a.1 Y).2);have l:(4:Int)<=(s.size:Int):=by omega
  clear a;go_wp2
  go_ret2
  refine⟨⟨s.extract 4 s.size,Z,rfl,.inl ⟨rfl,?_⟩⟩,rfl⟩;obtain⟨b,f⟩:=i.o;rw[dz,f,UO (by rw[Xa,<-f,aj];omega)];simp
def wV(s:ByteArray)(w:F)(h:s.size<=Uq):
 bH 127 #[.string s,.string ⟨#[83,84,82,65]⟩] w λe w'=>Qt s e/\w'=w:=by
 have l:=h;unfold Uq at l;go_enter ay.func127,Tryz.ntmps127
 go_wp2_with fail
 refine(Aj s _ h).mono ?_;rintro e q ⟨k,rfl,b,rfl⟩;cases k
 ·have i:X (∀a,bytesOf s≠a++[83,84,82,65]):=λa c=>by
   have d:4<=s.size:=by
    have:=congrArg XD c;rw[aj] at this;simp at this;omega
   exact absurd (b.2 ⟨d,a,c⟩) (by simp)
  clear b;go_wp2
  go_ret2
  exact⟨⟨s,T7,rfl,.inr ⟨rfl,rfl,i.o⟩⟩,rfl⟩
 ·have d:=(b.1 Y).1;have j:=af ((b.1 Y).2);have m:(4:Int)<=(s.size:Int):=by omega
  have n:Vb ((s.size:Int)-4)=((s.size-4:Nat):Int):=by unfold Vb;omega
  have o:((s.size-4:Nat):Int)<=(s.size:Int):=by omega
  have p:((s.size:Int)-4).toNat=s.size-4:=by omega
  clear b;go_wp2
  go_ret2
  refine⟨⟨s.extract 0 (s.size-4),Z,rfl,.inl ⟨rfl,?_⟩⟩,rfl⟩;obtain⟨a,f⟩:=j.o;have g:=congrArg XD f;rw[aj] at g;simp at g;rw[dz,f,List.drop_zero,show s.size-4-0=a.length by omega,List.take_left]
def Ab(s:ByteArray)(w:F)(d:s.size<=Uq):
 bH 89 #[.string s,.string ⟨#[83,84,82,65]⟩] w λe w'=>Qr s e/\w'=w:=by
 go_enter ay.func89,Tryz.ntmps89
 go_wp2_with fail
 refine(wU s _ d).mono ?_;rintro e g ⟨⟨f,b,rfl,c⟩,rfl⟩;have a:=af c;go_wp2
 go_ret2
 exact⟨⟨f,b,rfl,a.o⟩,rfl⟩
def rE(s:ByteArray)(w:F)(d:s.size<=Uq):
 bH 90 #[.string s,.string ⟨#[83,84,82,65]⟩] w λe w'=>Qt s e/\w'=w:=by
 go_enter ay.func90,Tryz.ntmps90
 go_wp2_with fail
 refine(wV s _ d).mono ?_;rintro e g ⟨⟨f,b,rfl,c⟩,rfl⟩;have a:=af c;go_wp2
 go_ret2
 exact⟨⟨f,b,rfl,a.o⟩,rfl⟩
def si (s:ByteArray):Nat->Nat
 |0=>0
 |k+1=>si s k+256^k*(bytesOf s).getD k 0
def sS(s:ByteArray)(k:Nat):(bytesOf s).getD k 0<256:=by
 by_cases a:k<s.size
 ·rw[Ui,sL s k a];exact s[k].toNat_lt
 ·rw[Ui,List.getElem?_eq_none (by rw[aj];omega)];simp
theorem xu(s:ByteArray):∀k,si s k<256^k
 |0=>by simp[si]
 |k+1=>by
  have a:=xu s k;have b:=sS s k;have c:256^k*(bytesOf s).getD k 0<=256^k*255:=Nat.mul_le_mul_left _ (by omega);rw[si,Nat.pow_succ];omega
def Rw(j:Nat):(256:Nat)^j=2^(8*j):=by rw[Nat.pow_mul]
def Pz(a c j:Nat)(e:j<=3)(b:a<256^j)(hc:c<256):bits .or .u64 (a:Int) (Wl.wrap ((c:Int)*2^(8*j)))=((a+256^j*c:Nat):Int):=by
 have i:(256:Nat)^3=16777216:=by decide
 have g:256^j<=256^3:=Nat.pow_le_pow_right (by omega) e;have k:2^(8*j)*c<18446744073709551616:=by
  rw[<-Rw];have:=Ws g (show c<=255 by omega);omega
 have d:(c:Int)*2^(8*j)=((2^(8*j)*c:Nat):Int):=by push_cast;rw[Int.mul_comm]
 have h:Wl.wrap ((c:Int)*2^(8*j))=((2^(8*j)*c:Nat):Int):=by rw[d,wrap_u64];omega
 have f:=(bits_nat .u64 64 (by decide) vm a (2^(8*j)*c) (by omega) (by omega)).2;rw[h,f,Nat.or_comm,<-Nat.two_pow_add_eq_or_of_lt (by rw[<-Rw];exact b) c,Nat.add_comm,Rw]
def y9(s:ByteArray)(w:F)(h:s.size=4):
 bH 91 #[.string s] w λe w'=>e= .returned (.int .u64 (si s 4:Int))/\w'=w:=by
 go_enter ay.func91,Tryz.ntmps91
 go_wp2_with fail
 go_loopw [3,5] (λg b wr=>∃a:Nat,a<=4/\b= .int .i64 (a:Int)/\g= .int .u64 (si s a:Int)/\wr=w) (λ_ b _=>4-(US b).toNat)
 case atStart=>exact⟨0,by omega,rfl,rfl,rfl⟩
 case round=>
  obtain⟨a,i,rfl,rfl,rfl⟩:=hrel;by_cases k:a<4
  ·have f:a<s.size:=by omega
   have j:(a:Int)<(s.size:Int):=by omega
   have c:X (s[a].toNat=(bytesOf s).getD a 0):=by show _=_;rw[Ui,sL s a f];rfl
   have d:s[a].toNat<256:=s[a].toNat_lt;have l:=Pz (si s a) s[a].toNat a (by omega) (xu s a) d;have m:Wl.wrap (s[a].toNat:Int)=(s[a].toNat:Int):=by rw[wrap_u64];omega
   go_wp2_with fail
   refine⟨⟨a+1,by omega,by go_num,?_,trivial⟩,by simp[US];omega⟩;rw[si,<-c.o]
   push_cast
   rfl
  ·obtain rfl:a=4:=by omega
   go_wp2;go_ret;exact⟨rfl,rfl⟩
def AX(E:ByteArray)(h:E.size=4):iA (si E 4)=bytesOf E:=by
 have f:(bytesOf E).length=4:=by rw[aj,h]
 have b:=sS E 0;have c:=sS E 1;have d:=sS E 2;have e:=sS E 3;simp only[si];generalize bytesOf E=a at*
 match a,f with
 | [g,i,j,k],_=>
  simp at b c d e;simp[iA];omega
def JJ(E:ByteArray)(n:Nat)(e:n<=65536)(h:bytesOf E=iA n):si E 4=n:=by
 have c:E.size=4:=by rw[<-aj,h];rfl
 have b:=AX E c;have a:iA (si E 4)=iA n:=by rw[b,h]
 have d:=xu E 4;unfold iA at a;simp at a;have:(256:Nat)^4=4294967296:=by decide
 omega
def S0 (s:ByteArray)(e:WS):Prop:=
 (∃a b:ByteArray,e= .returned (.tuple #[.string a,.string b,.bool Z])/\Cut s (bytesOf a) (bytesOf b))\/(e= .returned (.tuple #[.string ⟨#[]⟩,.string ⟨#[]⟩,.bool T7])/\∀a b,¬Cut s a b)
def OJ(s:ByteArray)(w:F)(v:s.size<=Uq):
 bH 61 #[.string s] w λe w'=>S0 s e/\aP w w':=by
 have K:=v;unfold Uq at K;by_cases T:65536<s.size
 ·have H:decide ((65536:Int)<(s.size:Int))=Z:=by simp;omega
  have i:X (∀c a,¬Cut s c a):=λc a f=>by have:=f.1;omega
  go_enter ay.func61,Tryz.ntmps61;go_wp2;simp[VR,UX,Tryz.results61,go_sem];exact⟨.inr ⟨rfl,i.o⟩,Up _ _⟩
 ·have H:decide ((65536:Int)<(s.size:Int))=T7:=by simp;omega
  go_enter ay.func61,Tryz.ntmps61
  go_wp2_with fail
  refine(Ab s _ v).mono ?_;rintro e av ⟨⟨o,D,rfl,n⟩,rfl⟩;rcases n with⟨rfl,n⟩|⟨rfl,rfl,n⟩;rotate_left
  ·have i:X (∀c a,¬Cut o c a):=λc a f=>n _ f.2;clear n
   go_wp2_with fail
   refine(rE o _ v).mono ?_;rintro e A ⟨⟨d,D,rfl,h⟩,rfl⟩;clear h;go_wp2;simp[VR,UX,Tryz.results61,go_sem];exact⟨.inr ⟨rfl,i.o⟩,Up _ _⟩
  ·have Y:o.size+4=s.size:=by
    have:=congrArg XD n;rw[aj,Ua,aj] at this;simp at this;omega
   have M:o.size<=Uq:=by unfold Uq;omega
   have r:=af n;clear n
   go_wp2_with fail
   refine(rE o _ M).mono ?_;rintro e A ⟨⟨d,D,rfl,h⟩,rfl⟩;rcases h with⟨rfl,h⟩|⟨rfl,rfl,h⟩;rotate_left
   ·have i:X (∀c a,¬Cut s c a):=λc a f=>by
     have j:=f.2;rw[r.o] at j;have l:=List.append_cancel_left (show[83,84,82,65]++bytesOf _=[83,84,82,65]++_ from j);exact h (c++(a++iA a.length)) (by rw[l];simp[dN])
    clear h;go_wp2;simp[VR,UX,Tryz.results61,go_sem];exact⟨.inr ⟨rfl,i.o⟩,Up _ _⟩
   ·have aa:d.size+4=o.size:=by
     have:=congrArg XD h;rw[aj,Ua,aj] at this;simp at this;omega
    have p:X (∀c a,Cut s c a->bytesOf d=c++(a++iA a.length)):=λc a f=>by
     have j:=f.2;rw[r.o] at j;have l:=List.append_cancel_left (show[83,84,82,65]++bytesOf _=[83,84,82,65]++_ from j);rw[h] at l;have z:bytesOf d++[83,84,82,65]=(c++(a++iA a.length))++[83,84,82,65]:=by rw[l];simp[dN]
     exact List.append_cancel_right z
    have t:X (∀c a,bytesOf d=c++(a++iA a.length)->Cut s c a):=λc a f=>by
     refine⟨by omega,?_⟩;rw[r.o,h,f];simp[dN]
    clear h r;by_cases z:d.size<4
    ·have I:decide ((d.size:Int)-4<0)=Z:=by simp;omega
     have N:Vb ((d.size:Int)-4)=(d.size:Int)-4:=by unfold Vb;omega
     have i:X (∀c a,¬Cut s c a):=λc a f=>by
      have:=congrArg XD (p.o c a f);rw[aj] at this;simp[iA] at this;omega
     clear p t;go_wp2;simp[VR,UX,Tryz.results61,go_sem];exact⟨.inr ⟨rfl,i.o⟩,Up _ _⟩
    ·obtain⟨b,L⟩:∃b,d.size=b+4:=⟨d.size-4,by omega⟩;have I:decide ((b:Int)<0)=T7:=by simp
     have N:Vb ((d.size:Int)-4)=(b:Int):=by unfold Vb;omega
     have Q:(b:Int)<=(d.size:Int):=by omega
     have R:(d.size:Int)-4=(b:Int):=by omega
     obtain⟨g,u⟩:∃g,g=d.extract b (b+4):=⟨_,rfl⟩;have q:g.size=4:=by rw[u,ByteArray.size_extract];omega
     have y:X (bytesOf d=(bytesOf d).take b++bytesOf g):=by
      show _=_;rw[u,dz,UO (l:=(bytesOf d).drop b) (by rw[Xa,aj];omega),Ww]
     have C:X (bH 91 #[.string (d.extract b (b+4))] A λe w'=>e= .returned (.int .u64 (si g 4:Int))/\w'=A):=by rw[<-u];exact y9 g _ q
     have B:=af (AX g q);have P:=af (xu g 4);have x:X (∀c a,Cut s c a->si g 4=a.length/\a.length<=b):=λc a f=>by
      have E:=p.o c a f;have j:=y.o;have J:=congrArg XD E;rw[aj] at J;simp[iA] at J;have l:(bytesOf d).take b++bytesOf g=(c++a)++iA a.length:=by rw[<-j,E,UC]
      have G:=(List.append_inj' l (by rw[aj,q];rfl)).2;exact⟨JJ g _ (by omega) G,by omega⟩
     clear u;generalize si g 4=k at*
     go_wp2_with fail
     refine C.o.mono ?_;rintro e aw ⟨rfl,rfl⟩;have aq:Wl.wrap (b:Int)=(b:Int):=by rw[wrap_u64];omega
     have ad:=af L;have ab:=af q;have ao:b<=65536:=by omega
     have ae:X (s.size<=65536):=by show _<=_;omega
     have ap:(b:Int)<=(d.size:Int):=by omega
     clear C N R Q I Y aa M L q H K v T z;by_cases S:b<k
     ·have U:(b:Int)<(k:Int):=by omega
      have i:X (∀c a,¬Cut s c a):=λc a f=>by have:=x.o c a f;omega
      clear p t x;go_wp2;simp[VR,UX,Tryz.results61,go_sem];exact⟨.inr ⟨rfl,i.o⟩,Up _ _⟩
     ·have U:decide ((b:Int)<(k:Int))=T7:=by simp;omega
      obtain⟨m,W⟩:∃m,b=m+k:=⟨b-k,by omega⟩;have ar:(b:Int)-(k:Int)=(m:Int):=by omega
      have G:(m:Int)<=(b:Int):=by omega
      have al:(m:Int)<=(d.size:Int):=by omega
      have O:X (Cut s (bytesOf (d.extract 0 m)) (bytesOf (d.extract m b))):=by
       refine t.o _ _ ?_;have V:(bytesOf (d.extract m b)).length=k:=by rw[aj,ByteArray.size_extract];omega
       rw[V,B.o];have j:=y.o;rw[dz,dz,List.drop_zero,<-UC];have l:((bytesOf d).take (m-0))++((bytesOf d).drop m).take (b-m)=(bytesOf d).take b:=by
        rw[show b=m+(b-m) by omega,List.take_add,show m+(b-m)-m=b-m by omega];rfl
       rw[l];exact j
      have am:k<=65536:=by omega
      clear p t x y B P W S
      go_upto_region 12 with fail
      go_quiet (fail)
      go_wp2;simp[VR,UX,Tryz.results61,go_sem];exact⟨.inl ⟨_,_,rfl,O.o⟩,below_drewN (Up _ _) _⟩
def TS (w:F)(s z:ByteArray)(e:WS)(w':F):Prop:=
 aP w w'/\((∃(b:List (bL×Int)) (a:List Bd) (f:List (Bd×U)) (g h i:U),e= .returned (.tuple #[.agg #[g,h,i],.bool Z])/\xe b a/\f.map Ux=a/\bytesOf s=qE b a/\bytesOf z=bR a/\cO w' w.heap.size b f g h i/\(∀d c,xe d c->bytesOf s=qE d c->bytesOf z=bR c->d=b/\c=a))\/
  (e= .returned (.tuple #[.agg #[aO,aO,aO],.bool T7])/\∀b a,xe b a->bytesOf s=qE b a->bytesOf z≠bR a))
def AK{w w4:F}{x y z v:U}(q:Nat)(hL:w4.heap[w.heap.size]? =I (.cells #[x,y,z] 105 (0,0)))(a:w4.heap[w.heap.size+1]? =I (.cells #[v] 4 (0,0))):
 CallsD (aB T4) 92 #[.pointer (I ⟨w.heap.size,0,K⟩),.pointer (I ⟨w.heap.size+1,0,K⟩)] (.panicking (eD q)) w4 λe b w'=>
  e= .returned (.tuple #[])/\b= .panicking [{v:=.iface 205 (.agg #[.int .i64 (q:Int)]),recovered:=Z}]/\w'=(gT (w4.alloc (.cells oA 105)) w.heap.size aO aO aO).setCell ⟨w.heap.size+1,0,K⟩ (.bool T7):=
 uf _ _ _ _ _ _ _ _ [] w4 (by omega) hL a
def sC{w w4:F}{x y z v:U}(a b c u:U)(hL:w4.heap[w.heap.size]? =I (.cells #[x,y,z] 105 (0,0)))(g:w4.heap[w.heap.size+1]? =I (.cells #[v] 4 (0,0)))(f:aP w w4):
 let W:=(gT w4 w.heap.size a b c).setCell ⟨w.heap.size+1,0,K⟩ u
 (aM W w.heap.size 0 a/\aM W w.heap.size 1 b/\aM W w.heap.size 2 c)/\aM W (w.heap.size+1) 0 u/\aP w W:=by
 have d:=qQ a b c hL;have e:(gT w4 w.heap.size a b c).heap[w.heap.size+1]? =I (.cells #[v] 4 (0,0)):=by rw[kH _ _ _ (by omega)];exact g
 refine⟨(fK (t:=105) (by rw[Uu _ _ _ _ (by simp)];exact d)).1,(dF (sY u e)).1,?_⟩;exact(mN _ _ _ f (T8 _) (T8 _)).setCell (Nat.le_succ _) _
def Hj(cb:Nat)(s z:ByteArray)(w:F)(b5:s.size<=65536)(b6:z.size<=65536)(ab:w.heap[cb]? =I (.cells #[.string z] 9 (0,0))):
 bH 62 #[.string s,.func (.func 63) #[] #[.pointer (I ⟨cb,0,K⟩)]] w (TS w s z):=by
 have b4:cb<w.heap.size:=Ue ab;have a8:s.size<=Uq:=by unfold Uq;omega
 have ad:=af ab;clear ab;have cf:∀(ap:Fn) (first al:Array U) (w:F),(Instr.makeFunc ap first al).run (aB T4) w= .ok (.func ap first al) w:=λ_ _ _ _=>rfl
 go_enter_defers ay.func62,Tryz.ntmps62
 go_wp2_with (go_at_call 65;refine(nM s _).mono ?_;rintro q bc ⟨rfl,rfl⟩)
 have M:(((w.alloc (.cells #[aO,aO,aO] 105)).alloc (.cells #[.bool T7] 4)).alloc (cg s 0)).heap[w.heap.size]? =I (.cells #[aO,aO,aO] 105 (0,0)):=CS _ _ _ _;have L:(((w.alloc (.cells #[aO,aO,aO] 105)).alloc (.cells #[.bool T7] 4)).alloc (cg s 0)).heap[w.heap.size+1]? =I (.cells #[.bool T7] 4 (0,0)):=CU _ _ _ _;have aa:(((w.alloc (.cells #[aO,aO,aO] 105)).alloc (.cells #[.bool T7] 4)).alloc (cg s 0)).heap[w.heap.size+1+1]? =I (cg s 0):=CV _ _ _ _;have a4:(((w.alloc (.cells #[aO,aO,aO] 105)).alloc (.cells #[.bool T7] 4)).alloc (cg s 0)).heap.size=w.heap.size+3:=by simp
 have A:aP w (((w.alloc (.cells #[aO,aO,aO] 105)).alloc (.cells #[.bool T7] 4)).alloc (cg s 0)):=(((Up _ _).alloc (T8 _) _).alloc (by simp) _).alloc (by simp;omega) _;generalize (((w.alloc (.cells #[aO,aO,aO] 105)).alloc (.cells #[.bool T7] 4)).alloc (cg s 0))=P at*;refine(J1 (w.heap.size+1+1) cb s z P b5 b6 aa ((A.block cb b4).trans ad.o)).mono ?_;rintro q h ⟨o,⟨a,i,b,bv,bx,bA,rfl,a7,a0,a9,cd,a2,a5,hF,ba⟩|⟨ch,rfl,a1⟩⟩
 ·have l:h.heap[w.heap.size]? =I (.cells #[aO,aO,aO] 105 (0,0)):=Kp.block o M (by omega);have v:h.heap[w.heap.size+1]? =I (.cells #[.bool T7] 4 (0,0)):=Kp.block o L (by omega);have H:aP w h:=A.trans ((o.below (by omega)).mono (by omega));have W:cO h w.heap.size a b bv bx bA:=hF.base (by omega);obtain⟨c,ac,e,d,g,f,rfl,rfl,rfl⟩:=W.Ib;have N:X (cO (gT h w.heap.size (.slice c a.length ac) (.slice e a.length d) (.slice g b.length f)) w.heap.size a b (.slice c a.length ac) (.slice e a.length d) (.slice g b.length f)):=W.gT _ _ _ l;have az:(gT h w.heap.size (.slice c a.length ac) (.slice e a.length d) (.slice g b.length f)).heap[w.heap.size]? =I (.cells #[.slice c a.length ac,.slice e a.length d,.slice g b.length f] 105 (0,0)):=qQ _ _ _ l;have av:(gT h w.heap.size (.slice c a.length ac) (.slice e a.length d) (.slice g b.length f)).heap[w.heap.size+1]? =I (.cells #[.bool T7] 4 (0,0)):=by rw[kH _ _ _ (by omega)];exact v
  have a3:(gT h w.heap.size (.slice c a.length ac) (.slice e a.length d) (.slice g b.length f)).heap[w.heap.size+1+1]? =I (cg s (qE a i).length):=by rw[kH _ _ _ (by omega)];exact a2
  have ar:aP w (gT h w.heap.size (.slice c a.length ac) (.slice e a.length d) (.slice g b.length f)):=mN _ _ _ H (T8 _) (T8 _);obtain⟨⟨be,bi,bj⟩,ao,r,t⟩:=fK l;have br:=af a7;have bs:=af a0;have bt:=af a9;have bu:=af a5;have ae:X (∀n j,xe n j->bytesOf s=qE n j->bytesOf z=bR j->n=a/\j=i):=λn j y u T=>ba n j y (eO u.symm) T;have E:=af az;have D:=af av;have C:=af ar;have G:=af a3;clear M L aa a4 A l v H W hF o a2 a7 a0 a9 a5 ba az av a3 ar ad;clear P
  go_upto_region 4 with fail
  unfold gT at N E D C G;generalize ((h.setCell ⟨w.heap.size,0,K⟩ (.slice c a.length ac)).setCell ⟨w.heap.size,1,K⟩ (.slice e a.length d)).setCell ⟨w.heap.size,2,K⟩ (.slice g b.length f)=k at*;clear be bi bj ao r t;by_cases a6:(qE a i).length<s.size
  ·have O:X (∀a i,xe a i->bytesOf s=qE a i->bytesOf z≠bR i):=λn j y u T=>by
    obtain⟨am,bB⟩:=ae.o n j y u T;have:=congrArg XD u;rw[aj,am,bB] at this;omega
   go_wp2_with (go_at_call 93;refine(BX (w.heap.size+1+1) _ s _ a8 a6 G.o).mono ?_;rintro q bc ⟨rfl,m,rfl⟩)
   have p:(k.drewN m).heap[w.heap.size]? =I (.cells #[.slice c a.length ac,.slice e a.length d,.slice g b.length f] 105 (0,0)):=E.o;have x:(k.drewN m).heap[w.heap.size+1]? =I (.cells #[.bool T7] 4 (0,0)):=D.o;have J:aP w (k.drewN m):=below_drewN C.o m;generalize k.drewN m=B at*;obtain⟨⟨r,t,Q⟩,R,S⟩:=sC aO aO aO (.bool T7) (w4:=B.alloc (.cells oA 105)) (by rw[UN _ _ _ (Ue p)];exact p) (by rw[UN _ _ _ (Ue x)];exact x) (J.alloc (by have:=Ue p;omega) _);refine leaves_cons (f:=92) (args:= #[.pointer (I ⟨w.heap.size,0,K⟩),.pointer (I ⟨w.heap.size+1,0,K⟩)]) (by simp) (by simp[go_sem]) ?_;refine(AK _ p x).mono ?_;rintro q bb bd ⟨rfl,rfl,rfl⟩;simp[Leaves,settle,UX,Tryz.results62,go_sem,r,t,Q,R];exact⟨S,.inr ⟨rfl,O.o⟩⟩
  ·have bm:X (bytesOf s=qE a i):=zH bt.o (by rw[aj];omega)
   go_upto_region 5 with(go_at_call 93;refine(FY (w.heap.size+1+1) _ s _ a8 a6 G.o).mono ?_;rintro q bc ⟨rfl,m,rfl⟩)
   have p:(k.drewN m).heap[w.heap.size]? =I (.cells #[.slice c a.length ac,.slice e a.length d,.slice g b.length f] 105 (0,0)):=E.o;have x:(k.drewN m).heap[w.heap.size+1]? =I (.cells #[.bool T7] 4 (0,0)):=D.o;have J:aP w (k.drewN m):=below_drewN C.o m;have aw:cO (k.drewN m) w.heap.size a b (.slice c a.length ac) (.slice e a.length d) (.slice g b.length f):=N.o.below (below_drewN (Up _ _) _);generalize k.drewN m=B at*;obtain⟨⟨b0,b1,b2⟩,b3,aq⟩:=sC (.slice c a.length ac) (.slice e a.length d) (.slice g b.length f) (.bool Z) p x J;have bl:=af aq;have V:(gT B w.heap.size (.slice c a.length ac) (.slice e a.length d) (.slice g b.length f)).heap[w.heap.size+1]? =I (.cells #[.bool T7] 4 (0,0)):=by rw[kH _ _ _ (by omega)];exact x
   have bo:X (cO ((gT B w.heap.size (.slice c a.length ac) (.slice e a.length d) (.slice g b.length f)).setCell ⟨w.heap.size+1,0,K⟩ (.bool Z)) w.heap.size a b (.slice c a.length ac) (.slice e a.length d) (.slice g b.length f)):=(aw.gT _ _ _ p).put V (.inr (.inl Y)) _ _;obtain⟨⟨be,bi,bj⟩,ao,r,t⟩:=fK p;obtain⟨cc,am⟩:=dF V;clear aq aw J N E D C G V;unfold gT at*;go_wp2;generalize (((B.setCell ⟨w.heap.size,0,K⟩ (.slice c a.length ac)).setCell ⟨w.heap.size,1,K⟩ (.slice e a.length d)).setCell ⟨w.heap.size,2,K⟩ (.slice g b.length f)).setCell ⟨w.heap.size+1,0,K⟩ (.bool Z)=ca at*;refine leaves_cons (f:=92) (args:= #[.pointer (I ⟨w.heap.size,0,K⟩),.pointer (I ⟨w.heap.size+1,0,K⟩)]) (by simp) (by simp[go_sem]) ?_;refine(Du ⟨w.heap.size,0,K⟩ ⟨w.heap.size+1,0,K⟩ _).mono ?_;rintro q bb bd ⟨rfl,rfl,rfl⟩;simp[Leaves,settle,UX,Tryz.results62,go_sem,b0,b1,b2,b3];exact⟨bl.o,.inl ⟨a,i,b,_,_,_,rfl,br.o,bs.o,bm.o,bu.o,bo.o,ae.o⟩⟩
 ·have l:h.heap[w.heap.size]? =I (.cells #[aO,aO,aO] 105 (0,0)):=Kp.block o M (by omega);have v:h.heap[w.heap.size+1]? =I (.cells #[.bool T7] 4 (0,0)):=Kp.block o L (by omega);have H:aP w h:=A.trans ((o.below (by omega)).mono (by omega));have O:X (∀a i,xe a i->bytesOf s=qE a i->bytesOf z≠bR i):=λn j y u=>a1 n j y (eO u.symm);clear M L aa a4 A o a1;clear P;obtain⟨⟨r,t,Q⟩,R,S⟩:=sC aO aO aO (.bool T7) (w4:=h.alloc (.cells oA 105)) (by rw[UN _ _ _ (Ue l)];exact l) (by rw[UN _ _ _ (Ue v)];exact v) (H.alloc (by have:=Ue l;omega) _);refine leaves_cons (f:=92) (args:= #[.pointer (I ⟨w.heap.size,0,K⟩),.pointer (I ⟨w.heap.size+1,0,K⟩)]) (by simp) (by simp[go_sem]) ?_;refine(AK _ l v).mono ?_;rintro q bb bd ⟨rfl,rfl,rfl⟩;simp[Leaves,settle,UX,Tryz.results62,go_sem,r,t,Q,R];exact⟨S,.inr ⟨rfl,O.o⟩⟩
def ig (v low:aE):Bool:= !low.null&&decide (fp v low<0)
def ic (v high:aE):Bool:= !high.null&&decide (0<fp v high)
def vF(v low:aE)(w:F):bH 114 #[v.agg,low.agg] w λe w'=>e= .returned (.bool (ig v low))/\aP w w':=by
 have g:=λi=>jI v low i;obtain⟨f,a,b⟩:=low;unfold aE.agg;have d:X (aP w ((w.alloc (.cells (gZ v) 59)).alloc (.cells #[.bool f,.int .i64 a,.string b] 59))):=((Up _ _).alloc (T8 _) _).alloc (by simp) _;cases f
 ·have c:ig v ⟨T7,a,b⟩=decide (fp v ⟨T7,a,b⟩<0):=by simp[ig]
  rw[c];go_enter ay.func114,Tryz.ntmps114
  go_wp2_with (go_at_call 125;refine(g _).mono ?_;rintro e w' ⟨rfl,j⟩;have h:X (aP w w'):=d.o.trans (j.mono (by simp;omega)))
  go_ret;exact⟨rfl,h.o⟩
 ·have c:ig v ⟨Z,a,b⟩=T7:=by simp[ig]
  rw[c];go_enter ay.func114,Tryz.ntmps114;go_wp2;go_ret;exact⟨rfl,d.o⟩
def vE(v low:aE)(w:F):bH 115 #[v.agg,low.agg] w λe w'=>e= .returned (.bool (ic v low))/\aP w w':=by
 have g:=λi=>jI v low i;obtain⟨f,a,b⟩:=low;unfold aE.agg;have d:X (aP w ((w.alloc (.cells (gZ v) 59)).alloc (.cells #[.bool f,.int .i64 a,.string b] 59))):=((Up _ _).alloc (T8 _) _).alloc (by simp) _;cases f
 ·have c:ic v ⟨T7,a,b⟩=decide (0<fp v ⟨T7,a,b⟩):=by simp[ic]
  rw[c];go_enter ay.func115,Tryz.ntmps115
  go_wp2_with (go_at_call 125;refine(g _).mono ?_;rintro e w' ⟨rfl,j⟩;have h:X (aP w w'):=d.o.trans (j.mono (by simp;omega)))
  go_ret;exact⟨rfl,h.o⟩
 ·have c:ic v ⟨Z,a,b⟩=T7:=by simp[ic]
  rw[c];go_enter ay.func115,Tryz.ntmps115;go_wp2;go_ret;exact⟨rfl,d.o⟩
def qv (a b c d e:U)(sk:Bool):U:=.agg #[a,b,c,d,e,.bool sk]
def Af(h:Option UJ)(n cap:Nat)(b c d e:U)(sk:Bool)(k:Int)(w:F):bH 106 #[qv (.slice h n cap) b c d e sk,.int .i64 k] w λf w'=>f= .returned (.bool (decide (0<=k)&&decide (k<(n:Int))))/\aP w w':=by
 unfold qv;have g:X (aP w (w.alloc (.cells #[.slice h n cap,b,c,d,e,.bool sk] 115))):=(Up _ _).alloc (T8 _) _;by_cases i:0<=k
 ·have a:decide (0<=k)=Z:=by simpa using i
  rw[a];go_enter ay.func106,Tryz.ntmps106;go_wp2;go_ret;exact⟨rfl,g.o⟩
 ·have a:decide (0<=k)=T7:=by simpa using i
  rw[a];go_enter ay.func106,Tryz.ntmps106;go_wp2;go_ret;exact⟨rfl,g.o⟩
structure cF where
 col:Int
 low:aE
 high:aE
def sj (x:cF):List U:=[.int .i64 x.col,.bool x.low.null,.int .i64 x.low.n,.string x.low.s,.bool x.high.null,.int .i64 x.high.n,.string x.high.s]
def dL (l:List cF):List U:=l.flatMap sj
structure dB(w:F)(ao:Option UJ)(b off:Nat)(l:List cF):Prop where
 addr:0<l.length->ao=I ⟨b,off,K⟩
 lt:0<l.length->b<w.heap.size
 c0:∀j (h:j<l.length),aM w b (off+j*7) (.int .i64 l[j].col)
 c1:∀j (h:j<l.length),aM w b (off+j*7+1) (.bool l[j].low.null)
 c2:∀j (h:j<l.length),aM w b (off+j*7+2) (.int .i64 l[j].low.n)
 c3:∀j (h:j<l.length),aM w b (off+j*7+3) (.string l[j].low.s)
 c4:∀j (h:j<l.length),aM w b (off+j*7+4) (.bool l[j].high.null)
 c5:∀j (h:j<l.length),aM w b (off+j*7+5) (.int .i64 l[j].high.n)
 c6:∀j (h:j<l.length),aM w b (off+j*7+6) (.string l[j].high.s)
def dB.kept{w w':F}{f:Option UJ}{b off:Nat}{l:List cF}(h:dB w f b off l)(j:w.heap.size<=w'.heap.size)(i:0<l.length->w'.heap[b]? =w.heap[b]?):dB w' f b off l:=by
 have d:∀a,a<l.length->∀e,w'.cell? ⟨b,e,K⟩=w.cell? ⟨b,e,K⟩:=λa c e=>by unfold Us;rw[i (by omega)]
 exact⟨h.addr,λg=>Ud (h.lt g) j,λa c=>(d a c _).trans (h.c0 a c),λa c=>(d a c _).trans (h.c1 a c),λa c=>(d a c _).trans (h.c2 a c),λa c=>(d a c _).trans (h.c3 a c),λa c=>(d a c _).trans (h.c4 a c),λa c=>(d a c _).trans (h.c5 a c),λa c=>(d a c _).trans (h.c6 a c)⟩
def dB.below{w w':F}{a:Option UJ}{b off:Nat}{l:List cF}(h:dB w a b off l)(c:aP w w'):dB w' a b off l:=h.kept c.size λd=>c.block b (h.lt d)
theorem oa:∀(l:List cF) (j:Nat) (h:j<l.length) (i:Nat) (v:U),(sj l[j])[i]? =I v->(dL l)[j*7+i]? =I v
 | [],j,h,i,v,a=>by simp at h
 |x::l,0,h,i,v,a=>by
  simp only[List.getElem_cons_zero] at a;simp only[dL,WR,Nat.zero_mul,UT];exact Vw (UA.1 a).1▸a
 |x::l,j+1,h,i,v,a=>by
  simp only[List.getElem_cons_succ] at a;have:=oa l j (by simpa using h) i v a;have b:(j+1)*7+i=j*7+i+7:=by omega
  rw[b];simpa [dL,sj] using this
def rI(l:List cF):(dL l).length=l.length*7:=by
 induction l with
 |nil=>rfl
 |cons b l a=>simp only[dL,WR,Ua,VI,sj,XH] at a ⊢;omega
def dB.Ea{w:F}{b off:Nat}{l:List cF}(e:b<w.heap.size)(hc:∀i v,(dL l)[i]? =I v->aM w b (off+i) v):dB w (I ⟨b,off,K⟩) b off l:=by
 have d:∀a (c:a<l.length) i v,(sj l[a])[i]? =I v->aM w b (off+a*7+i) v:=λa c i v f=>by
  have:=hc _ _ (oa l a c i v f);rw[Nat.add_assoc];exact this
 exact⟨λ_=>rfl,λ_=>e,λa c=>d a c 0 _ Y,λa c=>d a c 1 _ Y,λa c=>d a c 2 _ Y,λa c=>d a c 3 _ Y,λa c=>d a c 4 _ Y,λa c=>d a c 5 _ Y,λa c=>d a c 6 _ Y⟩
structure sH(w:F)(lb m:Nat)(c:Int)(p:Nat)(v:aE):Prop where
 ex:∃j g n cap:Nat,c=(j:Int)/\j<m/\lb<w.heap.size/\aM w lb j (.slice (I ⟨g,0,K⟩) n cap)/\p<n/\g<w.heap.size/\aM w g (p*3) (.bool v.null)/\aM w g (p*3+1) (.int .i64 v.n)/\aM w g (p*3+2) (.string v.s)
def sH.below{w w':F}{lb m:Nat}{c:Int}{p:Nat}{v:aE}(h:sH w lb m c p v)(a:aP w w'):sH w' lb m c p v:=by
 obtain⟨e,b,r,f,g,i,j,k,l,d,n,o,q⟩:=h.ex;have s:=a.size;exact⟨e,b,r,f,g,i,by omega,(a.cell (p:=⟨lb,e,K⟩) j).trans k,l,by omega,(a.cell (p:=⟨b,p*3,K⟩) d).trans n,(a.cell (p:=⟨b,p*3+1,K⟩) d).trans o,(a.cell (p:=⟨b,p*3+2,K⟩) d).trans q⟩
def sg (v:aE)(r:cF):Bool:= !(v.null||ig v r.low||ic v r.high)
def iU(w:F)(o:Obj):(w.alloc o).heap[w.heap.size]? =I o:=by
 show(w.heap.push o)[w.heap.size]? =I o;simp
def jM{W:F}{g:Nat}{a b c d e f h:U}{t:Uh}(i:W.heap[g]? =I (.cells #[a,b,c,d,e,f,h] t (0,0))):aM W g 0 a/\aM W g 1 b/\aM W g 2 c/\aM W g 3 d/\aM W g 4 e/\aM W g 5 f/\aM W g 6 h:=by
 unfold Us;simp[i]
def yE(rs:List cF)(val:Int->aE)(p lb m bm:Nat)(a b c d:U)(ro:Option UJ)(rb bh aN:Nat)(sk:Bool)(w:F)(bj:rs.length<=Uq)(q:dB w ro rb bh rs)(be:∀r∈rs,sH w lb m r.col p (val r.col)):
 bH 118 #[qv a b c d (.slice ro rs.length aN) sk,.slice (I ⟨lb,0,K⟩) m bm,.int .i64 (p:Int)] w λe w'=>∃bb,e= .returned (.bool bb)/\(bb=Z↔∀i (h:i<rs.length),sg (val rs[i].col) rs[i]=Z)/\aP w w':=by
 unfold qv;unfold Uq at bj;have a3:=af q;have a1:=af be;go_enter ay.func118,Tryz.ntmps118
 go_wp2_with fail
 go_loopw [13] (λi wr=>∃g:Nat,g<=rs.length/\i= .int .i64 g/\(∀i (h:i<rs.length),i<g->sg (val rs[i].col) rs[i]=Z)/\aP w wr) (λi _=>rs.length-(US i).toNat)
 case atStart=>exact⟨0,UE _,rfl,λcv _ h=>by omega,(Up _ _).alloc (T8 _) _⟩
 case round=>
  obtain⟨g,cl,rfl,bc,J⟩:=hrel;have aa:=af bc;have ab:=af J;have bl:=J.size;by_cases u:g<rs.length
  ·have q:=a3.o.below J;obtain rfl:=q.addr (by omega);have bo:=q.c0 g u;have br:=q.c1 g u;have bs:=q.c2 g u;have bt:=q.c3 g u;have bu:=q.c4 g u;have bv:=q.c5 g u;have bx:=q.c6 g u;obtain⟨C,P,cn,b6,ae,ca,a6,a7,cb,O,a8,a9,ba⟩:=((a1.o rs[g] (Uj u)).below J).ex;have M:X (sg (val rs[g].col) rs[g]=T7->¬∀i (h:i<rs.length),sg (val rs[i].col) rs[i]=Z):=λh bd=>by
    have:=bd g u;rw[h] at this;cases this
   have a4:X (sg (val rs[g].col) rs[g]=Z->∀i (h:i<rs.length),i<g+1->sg (val rs[i].col) rs[i]=Z):=λh i bi ci=>by
    by_cases e:i=g
    ·subst e;exact h
    ·exact aa.o i bi (by omega)
   generalize rs[g]=a0 at*;generalize val a0.col=v at*;obtain⟨cx,l,k⟩:=a0;dsimp only at ae bo br bs bt bu bv bx;subst ae
   go_upto_region 4 with fail
   have bA:=jM (iU wr (.cells #[.int .i64 (C:Int),.bool l.null,.int .i64 l.n,.string l.s,.bool k.null,.int .i64 k.n,.string k.s] 61));obtain⟨co,bB,b0,b1,b2,b3,b4⟩:=bA;have n:aP wr (wr.alloc (.cells #[.int .i64 (C:Int),.bool l.null,.int .i64 l.n,.string l.s,.bool k.null,.int .i64 k.n,.string k.s] 61)):=(Up _ _).alloc (T8 _) _;have cc:=(n.cell (p:=⟨lb,C,K⟩) a6).trans a7;have cd:=(n.cell (p:=⟨P,p*3,K⟩) O).trans a8;have cf:=(n.cell (p:=⟨P,p*3+1,K⟩) O).trans a9;have ch:=(n.cell (p:=⟨P,p*3+2,K⟩) O).trans ba;have ad:=af (ab.o.trans (n.mono bl));have E:wr.heap.size<(wr.alloc (.cells #[.int .i64 (C:Int),.bool l.null,.int .i64 l.n,.string l.s,.bool k.null,.int .i64 k.n,.string k.s] 61)).heap.size:=by simp
   generalize wr.alloc (.cells #[.int .i64 (C:Int),.bool l.null,.int .i64 l.n,.string l.s,.bool k.null,.int .i64 k.n,.string k.s] 61)=s at*;generalize wr.heap.size=j at*;have ck:(C:Int)<(m:Int):=by omega
   go_upto_region 5 with fail
   obtain⟨H,R,S⟩:=qz s (.bool v.null) (.int .i64 v.n) (.string v.s) 59;have n:aP s (s.alloc (.cells (gZ v) 59)):=(Up _ _).alloc (T8 _) _;have cp:=(n.cell (p:=⟨j,1,K⟩) E).trans bB;have cs:=(n.cell (p:=⟨j,2,K⟩) E).trans b0;have cu:=(n.cell (p:=⟨j,3,K⟩) E).trans b1;have T:=(n.cell (p:=⟨j,4,K⟩) E).trans b2;have V:=(n.cell (p:=⟨j,5,K⟩) E).trans b3;have W:=(n.cell (p:=⟨j,6,K⟩) E).trans b4;have A:X (aP w (s.alloc (.cells (gZ v) 59))):=ad.o.trans (n.mono (by have:=ad.o.size;omega));have x:j<(s.alloc (.cells (gZ v) 59)).heap.size:=by simp;omega
   have y:s.heap.size<(s.alloc (.cells (gZ v) 59)).heap.size:=by simp
   generalize s.alloc (.cells (gZ v) 59)=b5 at*;generalize s.heap.size=t at*;have z:=λN=>vF v l N;have D:=λN=>vE v k N;unfold aE.agg at z D;have o:sg v ⟨(C:Int),l,k⟩= !(v.null||ig v l||ic v k):=rfl;cases ao:v.null
   ·rw[ao] at H z D o;cases am:ig v l
    ·rw[am] at z o;cases al:ic v k
     ·rw[al] at D o;have a5:=af (a4.o o)
      go_wp2_with (first|(go_at_call 114;refine(z _).mono ?_;rintro e w' ⟨rfl,f⟩;have B:X (aP w w'):=A.o.trans (f.mono (by have:=A.o.size;omega));have ap:=(f.cell (p:=⟨t,0,K⟩) y).trans H;have aq:=(f.cell (p:=⟨t,1,K⟩) y).trans R;have ar:=(f.cell (p:=⟨t,2,K⟩) y).trans S;have av:=(f.cell (p:=⟨j,4,K⟩) x).trans T;have aw:=(f.cell (p:=⟨j,5,K⟩) x).trans V;have az:=(f.cell (p:=⟨j,6,K⟩) x).trans W)|(go_at_call 115;refine(D _).mono ?_;rintro e Y ⟨rfl,Q⟩;have L:X (aP w Y):=B.o.trans (Q.mono (by have:=B.o.size;omega))))
      go_roundw
      case rel=>exact⟨g+1,by omega,by go_num,a5.o,L.o⟩
      case measure=>simp[US];omega
     ·rw[al] at D o;have G:=af (M.o o)
      go_wp2_with (first|(go_at_call 114;refine(z _).mono ?_;rintro e w' ⟨rfl,f⟩;have B:X (aP w w'):=A.o.trans (f.mono (by have:=A.o.size;omega));have ap:=(f.cell (p:=⟨t,0,K⟩) y).trans H;have aq:=(f.cell (p:=⟨t,1,K⟩) y).trans R;have ar:=(f.cell (p:=⟨t,2,K⟩) y).trans S;have av:=(f.cell (p:=⟨j,4,K⟩) x).trans T;have aw:=(f.cell (p:=⟨j,5,K⟩) x).trans V;have az:=(f.cell (p:=⟨j,6,K⟩) x).trans W)|(go_at_call 115;refine(D _).mono ?_;rintro e Y ⟨rfl,Q⟩;have L:X (aP w Y):=B.o.trans (Q.mono (by have:=B.o.size;omega))))
      go_ret;exact⟨T7,rfl,by simp only[UB,false_iff];exact G.o,L.o⟩
    ·rw[am] at z o;have G:=af (M.o o)
     go_wp2_with (go_at_call 114;refine(z _).mono ?_;rintro e w' ⟨rfl,f⟩;have B:X (aP w w'):=A.o.trans (f.mono (by have:=A.o.size;omega));have ap:=(f.cell (p:=⟨t,0,K⟩) y).trans H;have aq:=(f.cell (p:=⟨t,1,K⟩) y).trans R;have ar:=(f.cell (p:=⟨t,2,K⟩) y).trans S;have av:=(f.cell (p:=⟨j,4,K⟩) x).trans T;have aw:=(f.cell (p:=⟨j,5,K⟩) x).trans V;have az:=(f.cell (p:=⟨j,6,K⟩) x).trans W)
     go_ret;exact⟨T7,rfl,by simp only[UB,false_iff];exact G.o,B.o⟩
   ·rw[ao] at H o;have G:=af (M.o o);go_wp2;go_ret;exact⟨T7,rfl,by simp only[UB,false_iff];exact G.o,A.o⟩
  ·have a2:X (∀i (h:i<rs.length),sg (val rs[i].col) rs[i]=Z):=λi h=>aa.o i h (by omega);go_wp2;go_ret;exact⟨Z,rfl,by simp only[true_iff];exact a2.o,ab.o⟩
def Be(ah:List Int)(val:Int->aE)(p lb m ae:Nat)(a b c f:U)(co:Option UJ)(cb bE aJ:Nat)(sk:Bool)(w:F)(a4:ah.length<=1000)(M:0<ah.length->co=I ⟨cb,bE,K⟩)(O:0<ah.length->cb<w.heap.size)(q:∀j,j<ah.length->aM w cb (bE+j) (.int .i64 (ah.getD j 0)))(P:∀k∈ah,sH w lb m k p (val k)):
 bH 119 #[qv a b c (.slice co ah.length aJ) f sk,.slice (I ⟨lb,0,K⟩) m ae,.int .i64 (p:Int)] w λe w'=>aP w w'/\∃v,e= .returned v/\w'.ownsRow w.heap.size 59 3 v ah.length (aH (ah.map val)):=by
 unfold qv;obtain⟨u,r,Z,t,aa⟩:=Ve ay.mJ;have D:=af M;have G:=af O;have E:=af q;have C:=af P;have B:X (aP w (w.alloc (.cells #[a,b,c,.slice co ah.length aJ,f,.bool sk] 115))):=(Up _ _).alloc (T8 _) _;have a7:(w.alloc (.cells #[a,b,c,.slice co ah.length aJ,f,.bool sk] 115)).heap.size=w.heap.size+1:=by simp
 go_enter ay.func119,Tryz.ntmps119
 go_wp2_with (at_make;refine wpList_make_own _ Y _ _ 43 Y (w.heap.size+1) 59 u _ 3 ay.underlying43 r Z t .i64 .i64 _ ah.length Y Y Y (by rw[aa];omega) (by unfold Uq;omega) (by simp) ?_;intro y V S;have o:=(Up (w.heap.size+1) (w.alloc (.cells #[a,b,c,.slice co ah.length aJ,f,.bool sk] 115))).grown S (by simp) (by simp);have a6:aM y w.heap.size 3 (.slice co ah.length aJ):=(o.cell (p:=⟨w.heap.size,3,K⟩) (by simp)).trans (by unfold Us;rw[iU];rfl))
 have z:X (aP w y):=B.o.trans (o.mono (by omega))
 go_loopw [7,17] (λad l wr=>∃k:Nat,k<=ah.length/\l= .int .i64 (k:Int)/\ad= .slice (I ⟨w.heap.size+1,0,K⟩) k ah.length/\wr.ownsRow (w.heap.size+1) 59 3 (.slice (I ⟨w.heap.size+1,0,K⟩) k ah.length) k (aH ((ah.take k).map val))/\aP w wr) (λ_ l _=>ah.length-(US l).toNat)
 case atStart=>exact⟨0,UE _,rfl,rfl,by simpa [aH] using V,z.o⟩
 case round=>
  obtain⟨k,a3,rfl,rfl,h,d⟩:=hrel;have n:=af d;have W:=d.size;have a2:=(h.lt (w.heap.size+1) Y).2;by_cases g:k<ah.length
  ·obtain rfl:=D.o (by omega);have N:=G.o (by omega);have x:aM wr cb (bE+k) (.int .i64 (ah.getD k 0)):=(d.cell (p:=⟨cb,bE+k,K⟩) N).trans (E.o k g);have R:ah.getD k 0=ah[k]:=by rw[Ui,Um g];rfl
   rw[R] at x;obtain⟨ab,L,al,ao,J,ap,aq,ar,av,aw,az,a0,a1⟩:=((C.o ah[k] (Uj g)).below d).ex;have H:X (aH ((ah.take k).map val)++[.bool (val ah[k]).null,.int .i64 (val ah[k]).n,.string (val ah[k]).s]=aH ((ah.take (k+1)).map val)):=by
    show _=_;rw[Uo g,U0,Wp,eX]
   have q:(ab:Int)<(m:Int):=by omega
   have a5:(p:Int)<(al:Int):=by omega
   generalize a8:val ah[k]=i at*;rw[J] at x
   go_wp2_with (at_builtin;refine wpList_append_fits _ Y _ _ 43 Y (w.heap.size+1) 59 u 3 ay.underlying43 r t (w.heap.size+1) k ah.length _ Y (h.alloc _) ⟨wr.heap.size,0,K⟩ 1 1 [.bool i.null,.int .i64 i.n,.string i.s] Y Y (by exact jr _ _ _ _ _) (fC i) (by omega) ?_;intro am s T)
   have A:X (aP w am):=(n.o.alloc W _).grown T (by simp;omega) (by intro L Q;simp at Q;omega);rw[H.o] at s;go_wp2
   go_roundw
   case rel=>exact⟨k+1,by omega,by go_num,rfl,s,A.o⟩
   case measure=>simp[US];omega
  ·obtain rfl:k=ah.length:=by omega
   rw[Vf] at h;go_wp2;go_ret;exact⟨n.o,_,rfl,bM h (by omega)⟩
def ay.Sq:((aB T4).info? 4).map (λi=>(i.zero,i.size,i.bytes))=I (I (.bool T7),1,1):=by kernel_rfl
def aY (n:Nat)(l:List Int):List Bool:=(UK n).map fun(a:Nat)=>l.any λb=>b==(a:Int)
def xQ (l:List Bool):List U:=l.map WN
def jl(n:Nat)(l:List Int):(aY n l).length=n:=by simp[aY]
def vH(n:Nat)(l:List Int)(j:Nat):(xQ (aY n l)).set j (.bool Z)=xQ (aY n (l++[(j:Int)])):=by
 apply List.ext_getElem?;intro c;simp only[xQ,aY,List.getElem?_set,UG,List.length_range,List.getElem?_map,List.any_append];by_cases b:j=c
 ·subst b;by_cases a:j<n
  ·simp[a]
  ·simp[a]
 ·rcases Vy c n with a|a
  ·have d:((j:Int)==(c:Int))=T7:=by simpa using λa=>b (by omega)
   simp[b,a,d]
  ·simp[b,a]
def Ew{W:F}{g:Nat}{a:List U}{t:Uh}(h:W.heap[g]? =I (.cells a.toArray t (0,0))){j:Nat}{v:U}(b:a[j]? =I v):aM W g j v/\W.frozen? ⟨g,j,K⟩=T7:=by
 constructor
 ·unfold Us;simp only[h];simpa using b
 ·unfold UQ;simp only[h];simp
def Iy{W:F}{g:Nat}{a:List U}{t:Uh}(h:W.heap[g]? =I (.cells a.toArray t (0,0)))(j:Nat)(v:U):(W.setCell ⟨g,j,K⟩ v).heap[g]? =I (.cells (a.set j v).toArray t (0,0)):=by
 have:=Ur W g j _ _ v h;rw[this];simp
def oV(n:Nat)(ah:List Int)(rs:List cF)(s:Option UJ)(q:Nat)(b c:U)(co:Option UJ)(cb bE aJ:Nat)(ro:Option UJ)(rb bh aN:Nat)(sk:Bool)(w:F)(bt:n<=1000)(a8:ah.length<=Uq)(a9:rs.length<=Uq)
 (W:0<ah.length->co=I ⟨cb,bE,K⟩) (ab:0<ah.length->cb<w.heap.size) (aa:∀j,j<ah.length->aM w cb (bE+j) (.int .i64 (ah.getD j 0))) (m:dB w ro rb bh rs) (al:∀k∈ah,0<=k/\k<(n:Int)) (am:∀r∈rs,0<=r.col/\r.col<(n:Int)):
 bH 76 #[qv (.slice s n q) b c (.slice co ah.length aJ) (.slice ro rs.length aN) sk] w λe w'=>aP w w'/\∃g,e= .returned (.slice (I ⟨g,0,K⟩) n n)/\w.heap.size<=g/\w'.heap[g]? =I (.cells (xQ (aY n (ah++rs.map cF.col))).toArray 4 (0,0)):=by
 unfold qv;obtain⟨bj,a6,bd,be,bi⟩:=Ve ay.Sq;unfold Uq at a8 a9;have E:=af W;have H:=af ab;have G:=af aa;have A:=af m;have J:=af al;have z:=af am;have V:X (aP w (w.alloc (.cells #[.slice s n q,b,c,.slice co ah.length aJ,.slice ro rs.length aN,.bool sk] 115))):=(Up _ _).alloc (T8 _) _;clear W ab aa m al am;go_enter ay.func76,Tryz.ntmps76
 go_wp2_with (at_make;refine wpList_make_full _ Y _ _ 160 Y (w.heap.size+1) 4 bj (.bool T7) 1 ay.underlying160 a6 bd be .i64 .i64 _ _ n Y Y Y Y (by rw[bi];omega) (by unfold Uq;omega) (by simp) ?_;intro C B ae;have o:=(Up (w.heap.size+1) (w.alloc (.cells #[.slice s n q,b,c,.slice co ah.length aJ,.slice ro rs.length aN,.bool sk] 115))).grown ae (by simp) (by simp);have ba:aM C w.heap.size 3 (.slice co ah.length aJ):=(o.cell (p:=⟨w.heap.size,3,K⟩) (by simp)).trans (by unfold Us;rw[iU];rfl))
 have S:X (aP w C):=V.o.trans (o.mono (by omega));have t:C.heap[w.heap.size]? =I (.cells #[.slice s n q,b,c,.slice co ah.length aJ,.slice ro rs.length aN,.bool sk] 115 (0,0)):=(o.block w.heap.size (by omega)).trans (iU _ _);have p:X (C.heap[w.heap.size+1]? =I (.cells (xQ (aY n [])).toArray 4 (0,0))):=by
  have e:(madeCells (WN T7).cells (n*1)).toList=xQ (aY n []):=by
   show(madeCells #[.bool T7] (n*1)).toList=_;rw[toList_madeCells_one];refine List.ext_getElem (by simp[xQ,jl]) λj br bs=>?_;simp[xQ,aY]
  rw[e] at B;have bc:(w.alloc (.cells #[.slice s n q,b,c,.slice co ah.length aJ,.slice ro rs.length aN,.bool sk] 115)).heap.size=w.heap.size+1:=by simp
  rw[bc] at B;exact zZ B
 have T:=af t;clear ae o V ba B t
 go_loopw [16] (λu wr=>∃k:Nat,k<=ah.length/\u= .int .i64 (k:Int)/\wr.heap[w.heap.size+1]? =I (.cells (xQ (aY n (ah.take k))).toArray 4 (0,0))/\wr.heap[w.heap.size]? =I (.cells #[.slice s n q,b,c,.slice co ah.length aJ,.slice ro rs.length aN,.bool sk] 115 (0,0))/\aP w wr) (λu _=>ah.length-(US u).toNat)
 case atStart=>exact⟨0,UE _,rfl,p.o,T.o,S.o⟩
 case round=>
  clear p S T;obtain⟨k,a7,rfl,l,t,i⟩:=hrel;have y:=af i;have P:=i.size;by_cases h:k<ah.length
  ·obtain rfl:=E.o (by omega);have a4:=H.o (by omega);have R:aM wr cb (bE+k) (.int .i64 (ah.getD k 0)):=(i.cell (p:=⟨cb,bE+k,K⟩) a4).trans (G.o k h);have ad:ah.getD k 0=ah[k]:=by rw[Ui,Um h];rfl
   rw[ad] at R;obtain⟨v,Q⟩:=J.o ah[k] (Uj h);obtain⟨a,x⟩:=WB v;rw[x] at R Q;have N:a<n:=by omega
   obtain⟨a2,a3⟩:=Ew l (j:=a) (v:=.bool ((ah.take k).any λk=>k==(a:Int))) (by simp[xQ,aY,N]);have L:X ((wr.setCell ⟨w.heap.size+1,a,K⟩ (.bool Z)).heap[w.heap.size+1]? =I (.cells (xQ (aY n (ah.take (k+1)))).toArray 4 (0,0))):=by
    show _=_;rw[Iy l,vH,Uo h,x]
   have a1:X ((wr.setCell ⟨w.heap.size+1,a,K⟩ (.bool Z)).heap[w.heap.size]? =I (.cells #[.slice s n q,b,c,.slice (I ⟨cb,bE,K⟩) ah.length aJ,.slice ro rs.length aN,.bool sk] 115 (0,0))):=by
    show _=_;rw[Uu _ _ _ _ (by simp)];exact t
   have D:X (aP w (wr.setCell ⟨w.heap.size+1,a,K⟩ (.bool Z))):=i.setCell (by show w.heap.size<=w.heap.size+1;omega) _;clear i ad v E H G J z A l t x;go_wp2
   go_roundw
   case rel=>exact⟨k+1,by omega,by go_num,L.o,a1.o,D.o⟩
   case measure=>simp[US];omega
  ·obtain rfl:k=ah.length:=by omega
   rw[Vf] at l;have bb:aM wr w.heap.size 4 (.slice ro rs.length aN):=by unfold Us;rw[t];rfl
   have p:=af l;clear i l t E H G J
   go_wp2_with fail
   clear bb
   go_loopw [27] (λu a0=>∃k:Nat,k<=rs.length/\u= .int .i64 (k:Int)/\a0.heap[w.heap.size+1]? =I (.cells (xQ (aY n (ah++(rs.take k).map cF.col))).toArray 4 (0,0))/\aP w a0) (λu _=>rs.length-(US u).toNat)
   case atStart=>exact⟨0,UE _,rfl,by simpa using p.o,y.o⟩
   case round=>
    clear p y P;obtain⟨k,a7,rfl,l,i⟩:=hrel;have y:=af i;have P:=i.size;by_cases h:k<rs.length
    ·have m:=A.o.below i;obtain rfl:=m.addr (by omega);have ao:=m.c0 k h;have ap:=m.c1 k h;have aq:=m.c2 k h;have ar:=m.c3 k h;have av:=m.c4 k h;have aw:=m.c5 k h;have az:=m.c6 k h;obtain⟨v,Q⟩:=z.o rs[k] (Uj h);have M:X ((rs.take (k+1)).map cF.col=(rs.take k).map cF.col++[rs[k].col]):=by
      show _=_;rw[Uo h,U0,Wp]
     generalize rs[k]=bl at*;obtain⟨bu,f,d⟩:=bl;dsimp only at ao ap aq ar av aw az v Q M;obtain⟨a,x⟩:=WB v;subst x;have N:a<n:=by omega
     have a5:w.heap.size+1<wr.heap.size:=Ue l;have o:aP wr (wr.alloc (.cells #[.int .i64 (a:Int),.bool f.null,.int .i64 f.n,.string f.s,.bool d.null,.int .i64 d.n,.string d.s] 61)):=(Up _ _).alloc (T8 _) _;have O:=(o.block (w.heap.size+1) a5).trans l;obtain⟨a2,a3⟩:=Ew O (j:=a) (v:=.bool ((ah++(rs.take k).map cF.col).any λk=>k==(a:Int))) (by simp[xQ,aY,N]);have L:X (((wr.alloc (.cells #[.int .i64 (a:Int),.bool f.null,.int .i64 f.n,.string f.s,.bool d.null,.int .i64 d.n,.string d.s] 61)).setCell ⟨w.heap.size+1,a,K⟩ (.bool Z)).heap[w.heap.size+1]? =I (.cells (xQ (aY n (ah++(rs.take (k+1)).map cF.col))).toArray 4 (0,0))):=by
      show _=_;rw[Iy O,vH,M.o,UC]
     have D:X (aP w ((wr.alloc (.cells #[.int .i64 (a:Int),.bool f.null,.int .i64 f.n,.string f.s,.bool d.null,.int .i64 d.n,.string d.s] 61)).setCell ⟨w.heap.size+1,a,K⟩ (.bool Z))):=(i.trans (o.mono P)).setCell (by show w.heap.size<=w.heap.size+1;omega) _;have R:(wr.alloc (.cells #[.int .i64 (a:Int),.bool f.null,.int .i64 f.n,.string f.s,.bool d.null,.int .i64 d.n,.string d.s] 61)).cell? ⟨wr.heap.size,0,K⟩=I (.int .i64 (a:Int)):=(jM (iU wr _)).1;clear i m A z l O M v o
     go_upto_region 10 with fail
     clear ao ap aq ar av aw az;generalize wr.alloc (.cells #[.int .i64 (a:Int),.bool f.null,.int .i64 f.n,.string f.s,.bool d.null,.int .i64 d.n,.string d.s] 61)=bm at*;generalize wr.heap.size=bo at*;go_wp2
     go_roundw
     case rel=>exact⟨k+1,by omega,by go_num,L.o,D.o⟩
     case measure=>simp[US];omega
    ·obtain rfl:k=rs.length:=by omega
     rw[Vf] at l;have p:=af l;clear i l A z;go_wp2;go_ret;exact⟨y.o,w.heap.size+1,rfl,by omega,p.o⟩
structure zU(w:F)(cb n:Nat)(c:Int)(b:lB):Prop where
 ex:∃j:Nat,c=(j:Int)/\j<n/\cb<w.heap.size/\aM w cb (j*8+1) (.bool b.there)/\aM w cb (j*8+1+1) (.bool b.least.null)/\aM w cb (j*8+1+2) (.int .i64 b.least.n)/\aM w cb (j*8+1+3) (.string b.least.s)/\aM w cb (j*8+1+4) (.bool b.most.null)/\aM w cb (j*8+1+5) (.int .i64 b.most.n)/\aM w cb (j*8+1+6) (.string b.most.s)
def zU.below{w w':F}{cb n:Nat}{c:Int}{b:lB}(h:zU w cb n c b)(e:aP w w'):zU w' cb n c b:=by
 obtain⟨r,f,i,j,k,l,m,o,p,q,g⟩:=h.ex;have s:=e.size;have a:∀d,w'.cell? ⟨cb,d,K⟩=w.cell? ⟨cb,d,K⟩:=λd=>e.cell (p:=⟨cb,d,K⟩) j;exact⟨r,f,i,by omega,(a _).trans k,(a _).trans l,(a _).trans m,(a _).trans o,(a _).trans p,(a _).trans q,(a _).trans g⟩
def wM (b:lB)(r:cF):Bool:=b.there&&(ig b.most r.low||ic b.least r.high)
def nJ(rs:List cF)(eY:Int->lB)(q:Int)(cb n aJ:Nat)(a b c d:U)(ro:Option UJ)(rb bh aN:Nat)(sk:Bool)(w:F)(c2:rs.length<=Uq)(p:dB w ro rb bh rs)(bj:∀r∈rs,zU w cb n r.col (eY r.col)):
 bH 77 #[qv a b c d (.slice ro rs.length aN) sk,.agg #[.int .i64 q,.slice (I ⟨cb,0,K⟩) n aJ]] w λe w'=>∃bb,e= .returned (.bool bb)/\(bb=T7↔∀i (h:i<rs.length),wM (eY rs[i].col) rs[i]=T7)/\aP w w':=by
 unfold qv;unfold Uq at c2;have am:=af p;have al:=af bj;have a4:X (aP w ((w.alloc (.cells #[a,b,c,d,.slice ro rs.length aN,.bool sk] 115)).alloc (.cells #[.int .i64 q,.slice (I ⟨cb,0,K⟩) n aJ] 139))):=((Up _ _).alloc (T8 _) _).alloc (by simp) _;have M:X (((w.alloc (.cells #[a,b,c,d,.slice ro rs.length aN,.bool sk] 115)).alloc (.cells #[.int .i64 q,.slice (I ⟨cb,0,K⟩) n aJ] 139)).heap[w.heap.size+1]? =I (.cells #[.int .i64 q,.slice (I ⟨cb,0,K⟩) n aJ] 139 (0,0))):=by
  have:=iU (w.alloc (.cells #[a,b,c,d,.slice ro rs.length aN,.bool sk] 115)) (.cells #[.int .i64 q,.slice (I ⟨cb,0,K⟩) n aJ] 139 (0,0));have c3:(w.alloc (.cells #[a,b,c,d,.slice ro rs.length aN,.bool sk] 115)).heap.size=w.heap.size+1:=by simp
  rw[c3] at this;exact this
 clear p bj;go_enter ay.func77,Tryz.ntmps77
 go_wp2_with fail
 go_loopw [11] (λi wr=>∃g:Nat,g<=rs.length/\i= .int .i64 g/\(∀i (h:i<rs.length),i<g->wM (eY rs[i].col) rs[i]=T7)/\wr.heap[w.heap.size+1]? =I (.cells #[.int .i64 q,.slice (I ⟨cb,0,K⟩) n aJ] 139 (0,0))/\aP w wr) (λi _=>rs.length-(US i).toNat)
 case atStart=>exact⟨0,UE _,rfl,λdf _ h=>by omega,M.o,a4.o⟩
 case round=>
  clear M a4;obtain⟨g,c7,rfl,bi,W,P⟩:=hrel;have T:=af bi;have aa:=af P;have M:=af W;have bl:=P.size;have cx:=Ue W;clear bi;by_cases u:g<rs.length
  ·have p:=am.o.below P;obtain rfl:=p.addr (by omega);have bm:=p.c0 g u;have bo:=p.c1 g u;have br:=p.c2 g u;have bs:=p.c3 g u;have bt:=p.c4 g u;have bu:=p.c5 g u;have bv:=p.c6 g u;obtain⟨A,a5,ck,a7,a8,a9,ba,bc,bd,be,a6⟩:=((al.o rs[g] (Uj u)).below P).ex;have N:X (wM (eY rs[g].col) rs[g]=Z->¬∀i (h:i<rs.length),wM (eY rs[i].col) rs[i]=T7):=λh cR=>by
    have:=cR g u;rw[h] at this;cases this
   have O:X (wM (eY rs[g].col) rs[g]=T7->∀i (h:i<rs.length),i<g+1->wM (eY rs[i].col) rs[i]=T7):=λh i c1 c6=>by
    by_cases e:i=g
    ·subst e;exact h
    ·exact T.o i c1 (by omega)
   clear p P T am al W;generalize rs[g]=cf at*;generalize eY cf.col=v at*;obtain⟨dk,k,j⟩:=cf;dsimp only at a5 bm bo br bs bt bu bv;subst a5
   go_upto_region 4 with fail
   obtain⟨c4,bx,bA,bB,b0,b1,b2⟩:=jM (iU wr (.cells #[.int .i64 (A:Int),.bool k.null,.int .i64 k.n,.string k.s,.bool j.null,.int .i64 j.n,.string j.s] 61));have m:aP wr (wr.alloc (.cells #[.int .i64 (A:Int),.bool k.null,.int .i64 k.n,.string k.s,.bool j.null,.int .i64 j.n,.string j.s] 61)):=(Up _ _).alloc (T8 _) _;have z:∀Y v,aM wr cb Y v->(wr.alloc (.cells #[.int .i64 (A:Int),.bool k.null,.int .i64 k.n,.string k.s,.bool j.null,.int .i64 j.n,.string j.s] 61)).cell? ⟨cb,Y,K⟩=I v:=λY v h=>(m.cell (p:=⟨cb,Y,K⟩) a7).trans h;have cn:=z _ _ a8;have co:=z _ _ a9;have cp:=z _ _ ba;have cs:=z _ _ bc;have cu:=z _ _ bd;have cv:=z _ _ be;have cl:=z _ _ a6;have ar:=(m.block _ cx).trans M.o;have ci:(wr.alloc (.cells #[.int .i64 (A:Int),.bool k.null,.int .i64 k.n,.string k.s,.bool j.null,.int .i64 j.n,.string j.s] 61)).cell? ⟨w.heap.size+1,1,K⟩=I (.slice (I ⟨cb,0,K⟩) n aJ):=by unfold Us;rw[ar];rfl
   have ab:=af ar;have ae:=af (aa.o.trans (m.mono bl));have H:wr.heap.size<(wr.alloc (.cells #[.int .i64 (A:Int),.bool k.null,.int .i64 k.n,.string k.s,.bool j.null,.int .i64 j.n,.string j.s] 61)).heap.size:=by simp
   clear m bm bo br bs bt bu bv a8 a9 ba bc bd be a6 a7 z ar M aa bl;generalize wr.alloc (.cells #[.int .i64 (A:Int),.bool k.null,.int .i64 k.n,.string k.s,.bool j.null,.int .i64 j.n,.string j.s] 61)=s at*;generalize wr.heap.size=l at*;have c0:(A:Int)<(n:Int):=by omega
   go_upto_region 5 with fail
   obtain⟨b3,av,aw,az,c8,c9,da⟩:=jM (iU s (.cells #[.bool v.there,.bool v.least.null,.int .i64 v.least.n,.string v.least.s,.bool v.most.null,.int .i64 v.most.n,.string v.most.s] 141));have m:aP s (s.alloc (.cells #[.bool v.there,.bool v.least.null,.int .i64 v.least.n,.string v.least.s,.bool v.most.null,.int .i64 v.most.n,.string v.most.s] 141)):=(Up _ _).alloc (T8 _) _;have db:=(m.cell (p:=⟨l,1,K⟩) H).trans bx;have dc:=(m.cell (p:=⟨l,2,K⟩) H).trans bA;have dd:=(m.cell (p:=⟨l,3,K⟩) H).trans bB;have a0:=(m.cell (p:=⟨l,4,K⟩) H).trans b0;have a1:=(m.cell (p:=⟨l,5,K⟩) H).trans b1;have a2:=(m.cell (p:=⟨l,6,K⟩) H).trans b2;have D:X (aP w (s.alloc (.cells #[.bool v.there,.bool v.least.null,.int .i64 v.least.n,.string v.least.s,.bool v.most.null,.int .i64 v.most.n,.string v.most.s] 141))):=ae.o.trans (m.mono (by have:=ae.o.size;omega));have C:X ((s.alloc (.cells #[.bool v.there,.bool v.least.null,.int .i64 v.least.n,.string v.least.s,.bool v.most.null,.int .i64 v.most.n,.string v.most.s] 141)).heap[w.heap.size+1]? =I (.cells #[.int .i64 q,.slice (I ⟨cb,0,K⟩) n aJ] 139 (0,0))):=(m.block _ (Ue ab.o)).trans ab.o;have x:l<(s.alloc (.cells #[.bool v.there,.bool v.least.null,.int .i64 v.least.n,.string v.least.s,.bool v.most.null,.int .i64 v.most.n,.string v.most.s] 141)).heap.size:=by simp;omega
   have y:s.heap.size<(s.alloc (.cells #[.bool v.there,.bool v.least.null,.int .i64 v.least.n,.string v.least.s,.bool v.most.null,.int .i64 v.most.n,.string v.most.s] 141)).heap.size:=by simp
   clear m c4 bx bA bB b0 b1 b2 cn co cp cs cu cv cl ae ab H c0 ck ci;generalize s.alloc (.cells #[.bool v.there,.bool v.least.null,.int .i64 v.least.n,.string v.least.s,.bool v.most.null,.int .i64 v.most.n,.string v.most.s] 141)=c5 at*;generalize s.heap.size=t at*;have B:=λaq=>vF v.most k aq;have J:=λaq=>vE v.least j aq;unfold aE.agg at B J;have o:wM v ⟨(A:Int),k,j⟩=(v.there&&(ig v.most k||ic v.least j)):=rfl;cases Q:v.there
   ·rw[Q] at b3 o;have ap:=af (O.o o);clear N O o Q B J;go_wp2
    go_roundw
    case rel=>exact⟨g+1,by omega,by go_num,ap.o,C.o,D.o⟩
    case measure=>simp[US];omega
   ·rw[Q] at b3 o;cases R:ig v.most k
    ·rw[R] at B o;cases V:ic v.least j
     ·rw[V] at J o;have ap:=af (O.o o);clear N O o R V Q
      go_wp2_with (first|(go_at_call 114;refine(B _).mono ?_;rintro e w' ⟨rfl,f⟩;have E:X (aP w w'):=D.o.trans (f.mono (by have:=D.o.size;omega));have b4:=(f.cell (p:=⟨t,1,K⟩) y).trans av;have b5:=(f.cell (p:=⟨t,2,K⟩) y).trans aw;have b6:=(f.cell (p:=⟨t,3,K⟩) y).trans az;have ca:=(f.cell (p:=⟨l,4,K⟩) x).trans a0;have cc:=(f.cell (p:=⟨l,5,K⟩) x).trans a1;have cd:=(f.cell (p:=⟨l,6,K⟩) x).trans a2;have L:X (w'.heap[w.heap.size+1]? =I (.cells #[.int .i64 q,.slice (I ⟨cb,0,K⟩) n aJ] 139 (0,0))):=(f.block _ (Ue C.o)).trans C.o;clear f)|(go_at_call 115;refine(J _).mono ?_;rintro e S ⟨rfl,G⟩;have ad:X (aP w S):=E.o.trans (G.mono (by have:=E.o.size;omega));have a3:X (S.heap[w.heap.size+1]? =I (.cells #[.int .i64 q,.slice (I ⟨cb,0,K⟩) n aJ] 139 (0,0))):=(G.block _ (Ue L.o)).trans L.o;clear G))
      go_roundw
      case rel=>exact⟨g+1,by omega,by go_num,ap.o,a3.o,ad.o⟩
      case measure=>simp[US];omega
     ·rw[V] at J o;have ao:=af (N.o o);clear N O o R V Q
      go_wp2_with (first|(go_at_call 114;refine(B _).mono ?_;rintro e w' ⟨rfl,f⟩;have E:X (aP w w'):=D.o.trans (f.mono (by have:=D.o.size;omega));have b4:=(f.cell (p:=⟨t,1,K⟩) y).trans av;have b5:=(f.cell (p:=⟨t,2,K⟩) y).trans aw;have b6:=(f.cell (p:=⟨t,3,K⟩) y).trans az;have ca:=(f.cell (p:=⟨l,4,K⟩) x).trans a0;have cc:=(f.cell (p:=⟨l,5,K⟩) x).trans a1;have cd:=(f.cell (p:=⟨l,6,K⟩) x).trans a2;have L:X (w'.heap[w.heap.size+1]? =I (.cells #[.int .i64 q,.slice (I ⟨cb,0,K⟩) n aJ] 139 (0,0))):=(f.block _ (Ue C.o)).trans C.o;clear f)|(go_at_call 115;refine(J _).mono ?_;rintro e S ⟨rfl,G⟩;have ad:X (aP w S):=E.o.trans (G.mono (by have:=E.o.size;omega));have a3:X (S.heap[w.heap.size+1]? =I (.cells #[.int .i64 q,.slice (I ⟨cb,0,K⟩) n aJ] 139 (0,0))):=(G.block _ (Ue L.o)).trans L.o;clear G))
      go_ret;exact⟨Z,rfl,by simp only[Bool.true_eq_false,false_iff];exact ao.o,ad.o⟩
    ·rw[R] at B o;have ao:=af (N.o o);clear N O o R Q
     go_wp2_with (go_at_call 114;refine(B _).mono ?_;rintro e w' ⟨rfl,f⟩;have E:X (aP w w'):=D.o.trans (f.mono (by have:=D.o.size;omega));have b4:=(f.cell (p:=⟨t,1,K⟩) y).trans av;have b5:=(f.cell (p:=⟨t,2,K⟩) y).trans aw;have b6:=(f.cell (p:=⟨t,3,K⟩) y).trans az;have ca:=(f.cell (p:=⟨l,4,K⟩) x).trans a0;have cc:=(f.cell (p:=⟨l,5,K⟩) x).trans a1;have cd:=(f.cell (p:=⟨l,6,K⟩) x).trans a2;have L:X (w'.heap[w.heap.size+1]? =I (.cells #[.int .i64 q,.slice (I ⟨cb,0,K⟩) n aJ] 139 (0,0))):=(f.block _ (Ue C.o)).trans C.o;clear f)
     go_ret;exact⟨Z,rfl,by simp only[Bool.true_eq_false,false_iff];exact ao.o,E.o⟩
  ·have ch:X (∀i (h:i<rs.length),wM (eY rs[i].col) rs[i]=T7):=λi h=>T.o i h (by omega);clear T P am al W M;go_wp2;go_ret;exact⟨T7,rfl,by simp only[true_iff];exact ch.o,aa.o⟩
end Ec
namespace Cc
open Go Go.Conc
open Go.RowKit (Below)
open Ec (aE aH cF dB sH sg qv)
def m7 (W w:F)(b:Nat):Prop:=∀a,w.heap[b]? =I a->bn (aB T4) a->W.heap[b]? =I a
abbrev dy:=Nat×List aE
structure Cons(P0 P:Uf)(Post:U->F->Prop)(l:Nat)(J:List dy->(Nat->Prop)->F->Prop)(Go:List dy->Bool):Prop where
 j8:∀pre M W W',J pre M W->(∀b,M b->W'.heap[b]? =W.heap[b]?)->W.heap.size<=W'.heap.size->J pre M W'
 bound:∀pre M W,J pre M W->∀b,M b->b<W.heap.size
 round:∀pre M W (nm:Nat) (row:List aE) v,J pre M W->pre.length<2000->nm<=1000000->row.length<=1000->W.ownsRow 0 59 3 v row.length (aH row)->(∀g,v.ownBlock=I g->¬M g)->Ft P0 P Post l #[.int .i64 (nm:Int),v] W λu W'=>u= .bool (Go (pre++[(nm,row)]))/\∃M',J (pre++[(nm,row)]) M' W'/\(∀b,b<W.heap.size->¬M b->I b≠v.ownBlock->W'.heap[b]? =W.heap[b]?)/\∀b,M' b->M b\/I b=v.ownBlock\/W.heap.size<=b
def feed (Go:List dy->Bool):List dy->List dy->List dy×Bool
 |pre,[]=>(pre,Z)
 |pre,a::b=>if Go (pre++[a]) then feed Go (pre++[a]) b else(pre++[a],T7)
def eB (jj:Nat->Bool)(a:Nat->List aE)(first:Nat):Nat->Nat->List dy
 |p,0=>[]
 |p,b+1=>if jj p then(first+p,a p)::eB jj a first (p+1) b else eB jj a first (p+1) b
structure SP(W:F)(ah:List Int)(rs:List cF)(co:Option UJ)(cb bE:Nat)(ro:Option UJ)(rb bh:Nat)(lb m N:Nat)(val:Int->Nat->aE):Prop where
 ca:0<ah.length->co=I ⟨cb,bE,K⟩
 cl:0<ah.length->cb<W.heap.size
 cc:∀j,j<ah.length->aM W cb (bE+j) (.int .i64 (ah.getD j 0))
 nr:dB W ro rb bh rs
 lc:∀p,p<N->∀k,(k∈ah\/∃r∈rs,r.col=k)->sH W lb m k p (val k p)
structure Kept(w0 w:F)(M0 M own:Nat->Prop):Prop where
 keep:∀b,b<w0.heap.size->¬M0 b->own b/\w.heap[b]? =w0.heap[b]?
 ext:∀b,M b->M0 b\/w0.heap.size<=b
 rm:∀b,M b->own b
 size:w0.heap.size<=w.heap.size
 tape:w.tape=w0.tape
 os:w.os=w0.os
 output:w.output=w0.output
def Kept.rel{w0 w w':F}{M0 e own own':Nat->Prop}(h:Kept w0 w M0 e own)(c:RelB own w w')(f:∀b,own b->own' b):Kept w0 w' M0 e own':=
 ⟨λb a d=>⟨f b (h.keep b a d).1,(c.at_ b (h.keep b a d).1).trans (h.keep b a d).2⟩,h.ext,λb a=>f b (h.rm b a),Uy h.size c.size,c.tape.trans h.tape,c.os.trans h.os,c.output.trans h.output⟩
def iy (fn:WC):WV:=match fn.body with
 |some (.seq _ (.seq (.seq _ (.block _ (.loop a))) _))=>a
 |_=>.skip
def qF (fn:WC):WV:=match fn.body with
 |some (.seq _ (.seq _ a))=>a
 |_=>.skip
structure Fq(J:List dy->(Nat->Prop)->F->Prop)(w0 w:F)(M0 M own:Nat->Prop)(q:Array U)(lists:U)(l first N p qb:Nat)(pre:List dy)(a:V6):Prop where
 kn:Knows a 33 [(13,.int .i64 (p:Int)),(12,.int .i64 (N:Int)),(5,.pointer (I ⟨qb,0,K⟩)),(4,.func (.yield l) #[] #[]),(2,.int .i64 (first:Int)),(1,lists)]
 df:a.defers=[]
 j:J pre M w
 kept:Kept w0 w M0 M own
 bd:∀b,own b->b<w.heap.size
 oq:own qb
 nq:¬M qb
 lq:w0.heap.size<=qb
 hq:w.heap[qb]? =I (.cells q 115 (0,0))
def RY:(Tryz.f118.name == "runtime.NumGoroutine")=T7:=by kernel_rfl
def SM:(Tryz.f119.name == "runtime.NumGoroutine")=T7:=by kernel_rfl
def uI:(T4.info? 115).map (·.size)=I 6:=by kernel_rfl
def xm (fn:WC):Array Vu:=match iy fn with
 | .seq _ (.seq _ (.seq (.block _ (.seq _ (.seq (.region _ a _) _))) _))=>a
 |_=> #[]
def mI (fn:WC):List WM:=match iy fn with
 | .seq _ (.seq _ (.seq (.block _ (.seq _ (.seq _ a))) b))=>[.code a,.inBlock 1,.code b,.inLoop (iy fn),.inBlock 0,.code (qF fn)]
 |_=>[]
def OU:(mI Wy).all (yA (aB T4))=Z:=by kernel_rfl
def Ml:yA (aB T4) (.inRegion (xm Wy) [])=Z:=by kernel_rfl
def B3{a:V6}{l:List Nat}(b:a.defers=[]):eN (aB T4) ((base 79).at a (.inRegion (xm Wy) l::mI Wy)) []:=
 dJ Y b (by rw[List.all_cons,OU,Bool.and_true];exact Ml)
end Cc
namespace Cc
open Go Go.Conc
open Go.RowKit (Below)
open Ec (aE aH cF dB sH sg qv yE Be)
section
variable {Post:U->F->Prop}{J:List dy->(Nat->Prop)->F->Prop}{Go:List dy->Bool}{w0 w:F}{M0 M own:Nat->Prop}{l first N p qb:Nat}{pre:List dy}{a:V6}{cs:List Ut}{ah:List Int}{rs:List cF}{co:Option UJ}{cb bE aJ:Nat}{ro:Option UJ}{rb bh aN lb m mc:Nat}{val:Int->Nat->aE}{a0 b0 c0:U}{sk:Bool}{c:Ut}
def Kept.same{W:F}(h:Kept w0 w M0 M own)(g:∀b o,own b->w.heap[b]? =I o->bn (aB T4) o->W.heap[b]? =I o)(j:w.heap.size<=W.heap.size):(∀b,b<w0.heap.size->¬M0 b->m7 W w0 b)/\w0.heap.size<=W.heap.size:=
 ⟨λb d e o i f=>g b o (h.keep b d e).1 ((h.keep b d e).2.trans i) f,Uy h.size j⟩
def Cg{W' w':F}{base:Nat}{e:Uh}{d:Nat}{v:U}{n:Nat}{f:List U}(r:Un W' w')(h:W'.ownsRow base e d v n f):w'.ownsRow base e d v n f:=by
 obtain⟨b,h|⟨j,g,i,rfl,k,o,q⟩⟩:=h
 ·exact⟨b,.inl h⟩
 ·exact⟨b,.inr ⟨j,g,i,rfl,k,r.row.1 o,q⟩⟩
def jW{W W':F}{base:Nat}{e:Uh}{j:Nat}{v:U}{n:Nat}{k:List U}(h:W.ownsRow base e j v n k){b:Nat}(t:b<=base)(s:∀g,v.ownBlock=I g->base<=g->g<W.heap.size->W'.heap[g]? =W.heap[g]?):W'.ownsRow b e j v n k:=by
 obtain⟨i,h|⟨g,o,q,rfl,d,f,r⟩⟩:=h
 ·exact⟨i,.inl h⟩
 ·exact⟨i,.inr ⟨g,o,q,rfl,Uy t d,(s g Y d (Ub.1 f).1).trans f,r⟩⟩
def td{W:F}{base:Nat}{e:Uh}{i:Nat}{v:U}{n:Nat}{j:List U}(h:W.ownsRow base e i v n j){g:Nat}(b:v.ownBlock=I g):base<=g/\g<W.heap.size:=by
 obtain⟨s,⟨rfl,_⟩|⟨q,k,o,rfl,d,f,r⟩⟩:=h
 ·cases b
 ·cases b;exact⟨d,(Ub.1 f).1⟩
def xJ{a:V6}{x y:U6}{u v:U}(h1:a.eval x=u)(b:a.eval y=v): #[x,y].map a.eval=#[u,v]:=by simp[h1,b]
def BG{a:V6}{x y z:U6}{u v t:U}(h1:a.eval x=u)(b:a.eval y=v)(d:a.eval z=t): #[x,y,z].map a.eval=#[u,v,t]:=by simp[h1,b,d]
def DU(C:Cons (aB T4) T4 Post l J Go)(hF:∀W,(∀b,b<w0.heap.size->¬M0 b->m7 W w0 b)->w0.heap.size<=W.heap.size->SP W ah rs co cb bE ro rb bh lb m N val)(a1:p<N)(bc:pre.length<2000)(bB:first+N<=1000000)(hc:ah.length<=1000)(bo:rs.length<=Uq)
 (d:Knows a 33 [(11,.int .i64 (p:Int)),(13,.int .i64 (p:Int)),(12,.int .i64 (N:Int)),(5,.pointer (I ⟨qb,0,K⟩)),(4,.func (.yield l) #[] #[]),(2,.int .i64 (first:Int)),(1,.slice (I ⟨lb,0,K⟩) m mc)]) (H:a.defers=[]) (U:J pre M w) (R:Kept w0 w M0 M own) (a9:∀b,own b->b<w.heap.size) (V:own qb) (az:¬M qb) (b3:w0.heap.size<=qb) (a2:w.heap[qb]? =I (.cells #[a0,b0,c0,.slice co ah.length aJ,.slice ro rs.length aN,.bool sk] 115 (0,0)))
 (bi:∀own' w' a',(¬∀i (h:i<rs.length),sg (val rs[i].col p) rs[i]=Z)->Knows a' 33 [(31,.bool T7),(13,.int .i64 (p:Int)),(12,.int .i64 (N:Int)),(5,.pointer (I ⟨qb,0,K⟩)),(4,.func (.yield l) #[] #[]),(2,.int .i64 (first:Int)),(1,.slice (I ⟨lb,0,K⟩) m mc)]->a'.defers=[]->J pre M w'->Kept w0 w' M0 M own'->(∀b,own' b->b<w'.heap.size)->own' qb->w'.heap[qb]? =I (.cells #[a0,b0,c0,.slice co ah.length aJ,.slice ro rs.length aN,.bool sk] 115 (0,0))->Xe (aB T4) T4 Post own' ((base 79).at a' (mI Wy)) cs w')
 (bu:∀own' n w' a',(∀i (h:i<rs.length),sg (val rs[i].col p) rs[i]=Z)->Knows a' 33 [(31,.bool (!Go (pre++[(first+p,ah.map λk=>val k p)]))),(13,.int .i64 (p:Int)),(12,.int .i64 (N:Int)),(5,.pointer (I ⟨qb,0,K⟩)),(4,.func (.yield l) #[] #[]),(2,.int .i64 (first:Int)),(1,.slice (I ⟨lb,0,K⟩) m mc)]->a'.defers=[]->J (pre++[(first+p,ah.map λk=>val k p)]) n w'->Kept w0 w' M0 n own'->(∀b,own' b->b<w'.heap.size)->own' qb->¬n qb->w'.heap[qb]? =I (.cells #[a0,b0,c0,.slice co ah.length aJ,.slice ro rs.length aN,.bool sk] 115 (0,0))->Xe (aB T4) T4 Post own' ((base 79).at a' (mI Wy)) cs w'):
 Xe (aB T4) T4 Post own ((base 79).at a (.code (.region 4 (xm Wy) T7)::mI Wy)) cs w:=by
 have e:=ir (aB T4) T4 Post;have a3:∀W:F,W.heap[qb]? =I (.cells #[a0,b0,c0,.slice co ah.length aJ,.slice ro rs.length aN,.bool sk] 115 (0,0))->W.rangeAt qb 0 [a0,b0,c0,.slice co ah.length aJ,.slice ro rs.length aN,.bool sk]:=λW G b5 v U=>by
  unfold Us;simp only[G];rw[UT];simpa using U
 refine bq e [0,1,2,3,4,5,6,7,8,9,10,11,12,13,14,15] Y ?_;refine rf e d Y (qv a0 b0 c0 (.slice co ah.length aJ) (.slice ro rs.length aN) sk) (fj (cs:=[a0,b0,c0,.slice co ah.length aJ,.slice ro rs.length aN,.bool sk]) Y (d.of Y) WE Y uI (.inr V) (a3 w a2)) λd=>?_;refine cH e d λd=>?_;refine cH e d λd=>?_;refine C5 (R:=λW j o=>∃s,j= .returned (.bool s)/\(s=Z↔∀i (h:i<rs.length),sg (val rs[i].col p) rs[i]=Z)) cV Y Y Y Y (BG (d.of Y) (d.of Y) (d.of Y)) Tryz.func118 RY Y (jX Y Y Y).symm (B3 (by simp only[put_defers];exact H)) (λW G ab=>?_) λv r W o G ab bx ae b1 hrel=>?_
 ·have t:=hF W (R.same G ab).1 (R.same G ab).2;refine(yE rs (λk=>val k p) p lb m mc a0 b0 c0 (.slice co ah.length aJ) ro rb bh aN sk W bo t.nr (λa4 br=>t.lc p a1 a4.col (.inr ⟨a4,br,rfl⟩))).mono λj o h=>?_;obtain⟨s,rfl,E,z⟩:=h;exact⟨z,_,rfl,s,rfl,E⟩
 ·obtain⟨s,a8,ar⟩:=ae;cases a8;have u:=R.rel (own':=grown own W.heap.size r.heap.size) hrel (λb h=>.inl h);have av:=C.j8 _ _ _ r U (λb f=>hrel.at_ b (R.rm b f)) hrel.size;have aa:=(hrel.at_ qb V).trans a2;have Q:∀b,grown own W.heap.size r.heap.size b->b<r.heap.size:=λb f=>f.elim (λh=>Ud (a9 b h) hrel.size) (λh=>h.2);have L:grown own W.heap.size r.heap.size qb:=.inl V;replace d:=d.put (d:=19) (by decide) (.bool s);generalize grown own W.heap.size r.heap.size=al at*;refine cH e d λd=>?_;cases s with
  |false=>
   refine sN e d λd=>?_;refine sN e d λd=>?_;refine sN e d λd=>?_;refine sN e d λd=>?_;refine sN e d λd=>?_;refine sN e d λd=>?_;refine sN e d λd=>?_;refine sN e d λd=>?_;refine sN e d λd=>?_;refine sN e d λd=>?_;refine dD e d Y (.bool T7) (yL Y (d.of Y) Y) λd=>?_;refine ak e ?_;refine bi al r _ (λh=>by have:=ar.2 h;cases this) ((((((d.nil.cons (d.slot 1 _ rfl)).cons (d.slot 2 _ rfl)).cons (d.slot 4 _ rfl)).cons (d.slot 5 _ rfl)).cons (d.slot 12 _ rfl)).cons (d.slot 13 _ rfl) |>.cons (d.slot 31 _ rfl)) (by simp only[put_defers];exact H) av u Q L aa
  |true=>
   have bd:=ar.1 Y;refine mC e (by decide) Y (d.want (d:=20) (want:=Z) (b:=Z) Y Y Y (by decide)) _ (cj Y (d.of Y)) ?_;replace d:=d.put (d:=21) (by decide) (.func (.yield l) #[] #[]);refine mC e (by decide) Y (d.want (d:=20) (want:=Z) (b:=Z) Y Y Y (by decide)) _ (cj Y (d.of Y)) ?_;replace d:=d.put (d:=22) (by decide) (.int .i64 (first:Int));refine mC e (by decide) Y (d.want (d:=20) (want:=Z) (b:=Z) Y Y Y (by decide)) _ (cj Y (d.of Y)) ?_;replace d:=d.put (d:=23) (by decide) (.int .i64 (p:Int));refine mC e (by decide) Y (d.want (d:=20) (want:=Z) (b:=Z) Y Y Y (by decide)) _ (nO Y (d.of Y) (d.of Y) (by omega)) ?_;replace d:=d.put (d:=24) (by decide) (.int .i64 ((first+p:Nat):Int));refine ox e (by decide) Y (d.want (d:=20) (want:=Z) (b:=Z) Y Y Y (by decide)) _ (fj (cs:=[a0,b0,c0,.slice co ah.length aJ,.slice ro rs.length aN,.bool sk]) Y (d.of Y) WE Y uI (.inr L) (a3 r aa)) ?_;replace d:=d.put (d:=25) (by decide) (qv a0 b0 c0 (.slice co ah.length aJ) (.slice ro rs.length aN) sk);refine mC e (by decide) Y (d.want (d:=20) (want:=Z) (b:=Z) Y Y Y (by decide)) _ (cj Y (d.of Y)) ?_;replace d:=d.put (d:=26) (by decide) (.slice (I ⟨lb,0,K⟩) m mc);refine mC e (by decide) Y (d.want (d:=20) (want:=Z) (b:=Z) Y Y Y (by decide)) _ (cj Y (d.of Y)) ?_;replace d:=d.put (d:=27) (by decide) (.int .i64 (p:Int));refine C5 (R:=λW j o=>∃v,j= .returned v/\o.ownsRow W.heap.size 59 3 v ah.length (aH (ah.map λk=>val k p))) cV Y Y (d.want (d:=20) (want:=Z) (b:=Z) Y Y Y (by decide)) Y (BG (d.of Y) (d.of Y) (d.of Y)) Tryz.func119 SM Y (jX Y Y Y).symm (B3 (by simp only[put_defers];exact H)) (λy T ad=>?_) λv S y bv T ad bA ae a7 B=>?_
   ·have t:=hF y (u.same T ad).1 (u.same T ad).2;refine(Be ah (λk=>val k p) p lb m mc a0 b0 c0 (.slice ro rs.length aN) co cb bE aJ sk y hc t.ca t.cl t.cc (λk bb=>t.lc p a1 k (.inl bb))).mono λj o h=>?_;obtain⟨E,v,rfl,z⟩:=h;exact⟨E,v,rfl,v,rfl,z⟩
   ·obtain⟨cd,bt,bj⟩:=ae;cases bt;have q:=u.rel (own':=grown al y.heap.size S.heap.size) B (λb h=>.inl h);have ba:=C.j8 _ _ _ S av (λb f=>B.at_ b (u.rm b f)) B.size;have bm:=(B.at_ qb L).trans aa;have b2:∀b,grown al y.heap.size S.heap.size b->b<S.heap.size:=λb f=>f.elim (λh=>Ud (Q b h) B.size) (λh=>h.2);have X:=Cg a7 bj;have b4:=Q qb L;replace d:=d.put (d:=28) (by decide) v;refine Qh (l:=l) (vs:= #[.int .i64 ((first+p:Nat):Int),v]) (R:=λam a5 o=>a5= .bool (Go (pre++[(first+p,ah.map λk=>val k p)]))/\∃n,J (pre++[(first+p,ah.map λk=>val k p)]) n o/\(∀b,b<am.heap.size->¬M b->I b≠v.ownBlock->o.heap[b]? =am.heap[b]?)/\∀b,n b->M b\/I b=v.ownBlock\/am.heap.size<=b) cV Y (d.want (d:=20) (want:=Z) (b:=Z) Y Y Y (by decide)) Y (d.of Y) (xJ (d.of Y) (d.of Y)) (B3 (by simp only[put_defers];exact H)) (λao g=>?_) λao a5 O g bs D bl=>?_
    ·refine C.round pre M ao (first+p) (ah.map λk=>val k p) v (C.j8 _ _ _ ao ba (λb f=>g.at_ b (q.rm b f)) g.size) bc (by omega) (by rw[UG];exact hc) ?_ λP A x=>?_
     ·rw[UG];exact jW X (UE _) λP E z a6=>g.at_ P (.inr ⟨z,a6⟩)
     ·have E:=(td X A).1;have z:=Q P (u.rm P x);omega
    ·obtain⟨rfl,n,ap,aw,aq⟩:=bs;have A:∀b,I b=v.ownBlock->y.heap.size<=b:=λb f=>(td X f.symm).1;have b6:=u.size;have ca:=g.size;have cc:=B.size;refine Xe.go (own:=λb=>b<O.heap.size) ?_ (λb h=>h) bl;replace d:=d.put (d:=29) (by decide) (.bool (Go (pre++[(first+p,ah.map λk=>val k p)])));refine mC e (by decide) Y (d.want (d:=20) (want:=Z) (b:=Z) Y Y Y (by decide)) _ (yK Y (d.of Y)) ?_;replace d:=d.put (d:=30) (by decide) (.bool (!Go (pre++[(first+p,ah.map λk=>val k p)])));refine dD e d Y (.bool (!Go (pre++[(first+p,ah.map λk=>val k p)]))) (yM Y (d.of Y) (d.of Y)) λd=>?_;refine ak e ?_;refine bu (λb=>b<O.heap.size) n O _ bd ((((((d.nil.cons (d.slot 1 _ Y)).cons (d.slot 2 _ Y)).cons (d.slot 4 _ Y)).cons (d.slot 5 _ Y)).cons (d.slot 12 _ Y)).cons (d.slot 13 _ Y) |>.cons (d.slot 31 _ Y)) (by simp only[put_defers];exact H) ap ⟨λb f x=>?_,λb f=>?_,λb f=>C.bound _ _ _ ap b f,?_,D.tape.trans (g.tape.trans q.tape),D.os.trans (g.os.trans q.os),D.output.trans (g.output.trans q.output)⟩ (λb h=>h) ?_ (λx=>?_) ?_
     ·have be:¬M b:=λh=>(q.ext b h).elim x (λh=>by omega);refine⟨by have:=D.size;show b<O.heap.size;omega,?_⟩;rw[aw b (by omega) be (λj=>by have:=A b j;omega),g.at_ b (q.keep b f x).1];exact(q.keep b f x).2
     ·rcases aq b f with h|h|h
      ·exact q.ext b h
      ·exact .inr (by have:=A b h;omega)
      ·exact .inr (by omega)
     ·have:=D.size;omega
     ·have:=D.size;show qb<O.heap.size;omega
     ·rcases aq qb x with h|h|h
      ·exact az h
      ·have:=A qb h;omega
      ·omega
     ·rw[aw qb (by omega) az (λj=>by have:=A qb j;omega),g.at_ qb (.inl L)];exact bm
end
end Cc
namespace Rl
def Zk (v:U):Prop:=∀(G:mj) (a:aU G),ax a v v
def Fg{v:U}(h:Zk v):∀c∈v.cells,Zk c:=by
 intro c b G e;have:=(h G e).cells;obtain⟨d,a,rfl⟩:=Array.mem_iff_getElem.1 b;exact this.2 d a a
def C6{cs:Array U}(h:∀c∈cs,Zk c):Zk (.agg cs):=λG b=>.agg Y λe a d=>h _ (Array.getElem_mem a) G b
def Zi (i:Xg):Prop:=∀v,i.zero=I v->Zk v
theorem A0{α i:Type}{f:α->i->Option (ForInStep i)}(e:i->Prop)(j:∀a b s,e b->f a b=I s->∀c,(s= .yield c\/s= .done c)->e c):∀(l:List α) (b r:i),e b->forIn l b f=I r->e r
 | [],b,r,g,d=>by simp at d;rw[<-d];exact g
 |a::l,b,r,g,d=>by
  rw[List.forIn_cons] at d;cases h:f a b with
  |none=>rw[h] at d;cases d
  |some s=>
   rw[h] at d;cases s with
   |done c=>simp at d;rw[<-d];exact j a b _ g h c (.inr Y)
   |yield c=>exact A0 e j l c r (j a b _ g h c (.inl Y)) d
def Qm{o:Option (Array U)}{i:Xg}(g:Zi i)(j:∀e,o=I e->∀c∈e,Zk c){b:Prop} [Decidable b]{e:Array U}
 (h:(if b then K else o.bind λa=>i.zero.bind λz=>I (a++z.cells))=I e):∀c∈e,Zk c:=by
 split at h
 ·cases h
 ·obtain⟨a,f,h⟩:=UR.1 h;obtain⟨z,k,h⟩:=UR.1 h;cases h;intro c d;rcases Array.mem_append.1 d with d|d
  ·exact j a f c d
  ·exact Fg (g z k) c d
def TI (c:Array Field×Nat×Nat×Nat×Nat×Bool×Bool×Option (Array U)×String):Prop:=∀a,c.2.2.2.2.2.2.2.1=I a->∀b∈a,Zk b
def La{info:Uh->Option Xg}(k:∀t i,info t=I i->Zi i)(g:Array Field)(r:Xg)(h:Made.reckonStruct info g=I r):Zi r:=by
 unfold Made.reckonStruct at h;simp only[bind,UR,pure] at h;obtain⟨o,d,h⟩:=h;have j:TI o:=by
  rw[<-Array.forIn_toList] at d;refine A0 TI ?_ _ _ _ ?_ d
  ·intro f q s m a e hc;obtain⟨i,l,a⟩:=UR.1 a
   split at a
   ·cases a
   ·split at a
    ·cases a
    ·split at a<;>(obtain⟨tag,p,a⟩:=UR.1 a;split at a<;>(cases a;rcases hc with hc|hc<;>cases hc;exact λc b=>Qm (k _ _ l) m b))
  ·intro c b;cases b;intro e hc;simp at hc
 split at h<;>(cases h;intro v n;obtain⟨c,b,rfl⟩:=Wq.1 n;exact C6 (j c b))
def q8{d:TypeDesc}{s:String}{z:U}{c:Bool}{n:Nat}(b:Zk z):Zi (Made.word d s z c n):=by
 intro v a;unfold Made.word at a;cases a;exact b
def K9{info:Uh->Option Xg}(k:∀t i,info t=I i->Zi i)(d:TypeDesc)(r:Xg)(h:Made.reckon info d=I r):Zi r:=by
 unfold Made.reckon at h;simp only[bind,pure] at h
 split at h
 ·obtain⟨i,l,h⟩:=UR.1 h
  split at h
  ·cases h
  ·split at h
   ·cases h
   ·obtain⟨s,b,h⟩:=UR.1 h;cases h;exact q8 λG e=>.de
  ·obtain⟨s,b,h⟩:=UR.1 h;cases h;exact q8 λG e=>.de
 ·obtain⟨s,b,h⟩:=UR.1 h;obtain⟨g,f,h⟩:=UR.1 h;cases h;exact q8 λG e=>.jV 0 0
 ·obtain⟨s,b,h⟩:=UR.1 h;obtain⟨g,f,h⟩:=UR.1 h;obtain⟨s,b,h⟩:=UR.1 h;obtain⟨g,f,h⟩:=UR.1 h;cases h;exact q8 λG e=>.kE
 ·obtain⟨s,b,h⟩:=UR.1 h;obtain⟨g,f,h⟩:=UR.1 h;cases h;exact q8 λG e=>.iM
 ·obtain⟨s,b,h⟩:=UR.1 h;cases h;exact q8 λG e=>.nilFunc
 ·obtain⟨i,l,h⟩:=UR.1 h;obtain⟨g,f,h⟩:=UR.1 h;cases h;intro v c;simp only at c
  split at c
  ·cases c
  ·split at c
   ·cases c;exact C6 λj a=>by simp at a
   ·obtain⟨n,m,rfl⟩:=Wq.1 c;refine C6 λj a=>?_;simp only[Array.mem_flatten,Array.mem_replicate] at a;obtain⟨o,⟨_,rfl⟩,a⟩:=a;exact Fg (k _ _ l n m) j a
 ·exact La k _ _ h
 ·cases h
theorem Bz{T:Tables}(b:∀(t:Nat) i,T.types[t]? =I i->Zi i):∀(f:Nat) (t:Uh) (i:Xg),Made.infoAt T f t=I i->Zi i
 |0,t,i,a=>by cases a
 |f+1,t,i,a=>by
  unfold Made.infoAt at a
  split at a
  ·exact b _ _ a
  ·obtain⟨c,d,a⟩:=UR.1 a;exact K9 (Bz b f) c i a
def Qk{T:Tables}(a:∀(t:Nat) i,T.types[t]? =I i->Zi i)(t:Uh)(i:Xg)(h:T.info? t=I i):Zi i:=by
 unfold Tables.info? at h
 split at h
 ·exact a _ _ h
 ·exact Bz a _ t i h
end Rl
namespace Cc
open Go
def fy:Nat->U->Bool
 |0,_=>T7
 |n+1,v=>match v with
  | .bool _| .int _ _| .string _| .pointer K| .slice K _ _| .map K| .chan K| .nilFunc| .nilIface=>Z
  | .agg a| .tuple a=>a.toList.all (fy n)
  |_=>T7
theorem yP:∀(n:Nat) (v:U),fy n v=Z->Rl.Zk v
 |0,v,a=>by cases a
 |n+1,v,a=>by
  intro G c;unfold fy at a
  split at a
  ·exact .bool _
  ·exact .int _ _
  ·exact .string _
  ·exact .de
  ·exact .jV _ _
  ·exact .kE
  ·exact .iM
  ·exact .nilFunc
  ·exact .nilIface
  ·rename_i d;exact Rl.C6 (λb e=>yP n b (Uz.1 a b (by simpa using e))) G c
  ·rename_i d;exact .tuple Y λh f g=>yP n _ (Uz.1 a _ (by simp)) G c
  ·cases a
def Sk:List Nat:=[65,66,83,93,95,97,98,120,123,128,129,130,139,141,152,153,154,155,156,158,161,162,163,164,165,166,167,169,170,171,172,173,174,175,176,177,178]
def L0:Rl.mj:=⟨1,λf=>Sk.contains f⟩
def Qj:(T4.types.toList.all λi=>match i.zero with|some v=>fy 12 v|none=>Z)=Z:=by kernel_rfl
def IS:T4.globals.size=1:=by kernel_rfl
def RV:(Sk.all λf=>match T4.funcs[f]? with|some fn=>(match fn.body with|some c=>Rl.cD L0 T4 c|none=>T7)|none=>T7)=Z:=by kernel_rfl
def R3:Rl.wF T4 T4:=⟨λ_=>rfl,λ_=>rfl,rfl,λc d v a b=>by
 refine Rl.Qk (T:=T4.toTables) (λc d a v b=>?_) c d a v b;obtain⟨e,rfl⟩:=Ub.1 a;have:=Uz.1 Qj (T4.types[c]) (by simp);rw[b] at this;exact yP _ _ this⟩
def Fb:Rl.nE L0 T4 T4:=by
 intro f e;have:=Uz.1 RV f (by simpa [L0] using e)
 split at this
 ·rename_i c a
  split at this
  ·rename_i b d;exact⟨c,b,a,a,d,this⟩
  ·cases this
 ·cases this
def Qi:Rl.Alike L0 T4 T4:=⟨R3,λ_=>rfl,λ_=>rfl,rfl,λ_ _ _ _ _ _=>rfl,λ_ _ _ _ _=>rfl,λ_ _ _=>rfl,λ_ _=>rfl,λ_=>rfl,λ_ _=>rfl,IS,IS,λf d=>by
 obtain⟨b,e,a,_,c,_⟩:=Fb f d;refine⟨b,a,by rw[c];rfl,?_⟩;simpa using jG tO a,λ_=>rfl⟩
end Cc
namespace Cc
open Go Go.Conc
open Ec (aE aH)
def Ln (own:Nat->Prop)(w:F)(v:U)(l:List aE):Prop:=
 (v=aO/\l=[])\/∃a c b,v= .slice (I ⟨a,0,K⟩) l.length c/\own a/\w.heap[a]? =I (.cells b 59 (0,0))/\b.toList.take (l.length*3)=aH l
theorem me:∀(l:List aE) (i:Nat) (h:i<l.length) (j:Nat) (v:U),[WN l[i].null,.int .i64 l[i].n,.string l[i].s][j]? =I v->(aH l)[i*3+j]? =I v
 | [],i,h,j,v,a=>by simp at h
 |x::l,0,h,j,v,a=>by
  simp only[List.getElem_cons_zero] at a;simp only[aH,WR,Nat.zero_mul,UT];exact Vw (UA.1 a).1▸a
 |x::l,i+1,h,j,v,a=>by
  simp only[List.getElem_cons_succ] at a;have:=me l i (by simpa using h) j v a;have b:(i+1)*3+j=i*3+j+3:=by omega
  rw[b];simpa [aH] using this
def uN{w:F}{g:Nat}{b:Array U}{l:List aE}(c:w.heap[g]? =I (.cells b 59 (0,0)))(hc:b.toList.take (l.length*3)=aH l){i:Nat}(d:i<l.length):w.rangeAt g (0+i*3) [WN l[i].null,.int .i64 l[i].n,.string l[i].s]:=by
 intro f v e;have a:=me l i d f v e;rw[<-hc,V8] at a
 split at a
 ·unfold Us;simp only[c];rw[UT];simpa using a
 ·cases a
def pY (fn:WC):WV:=match fn.body with
 |some (.seq _ (.seq _ (.seq _ (.seq _ (.seq _ (.block _ (.loop a)))))))=>a
 |_=>.skip
def mV:(T4.info? 59).map (·.size)=I 3:=by kernel_rfl
def BE (S:Nat->Prop)(c:Nat)(ds:List Deferred)(l:List aE)(v:U)(i:Nat)(own:Nat->Prop)(w:F)(a:V6):Prop:=
 Knows a 47 [(40,.int .i64 (i:Int)),(39,.int .i64 (l.length:Int)),(38,v),(0,.chan (I c))]/\a.defers=ds/\tQ S own w/\Ln own w v l
def NA{S:Nat->Prop}{c:Nat}{co:Array Bool}{ats:Array Uh}{ty:Uh}{l:List aE}{v:U}{i:Nat}{own:Nat->Prop}{w:F}{a:V6}(h:BE S c [{target:=.builtin .close ats ty co,args:= #[.chan (I c)]}] l v i own w a)(f:l.length<=i):
 pI (aB T4) T4 S c own [] (Ug ((baseD 116).at a [.code (pY VG),.inLoop (pY VG),.inBlock 0]) [below T4]) w:=by
 obtain⟨d,e,g,j⟩:=h;have b:=kW (aB T4) T4 S c [];refine aS b ?_;refine bq b [0] Y ?_;refine dD b d Y (.bool T7) (jx Y (d.of Y) (d.of Y) (by simp;omega)) λd=>?_;refine ak b ?_;refine aS b ?_;refine dn b T7 (d.of Y) ?_;refine ud b (k':=[]) Y ?_;refine LD b ?_;exact IQ Y e Tryz.func116 Y Y
def GK{S:Nat->Prop}{c:Nat}{ds:List Deferred}{l:List aE}{v:U}{i:Nat}{own:Nat->Prop}{w:F}{a:V6}{x:aE}{r:List aE}(N:l.length<=100000)(h:BE S c ds l v i own w a)(k:l.drop i=x::r)
 (E:∀own' w' a',BE S c ds l v (i+1) own' w' a'->pI (aB T4) T4 S c own' (r.map aE.agg) (Ug ((baseD 116).at a' [.code (pY VG),.inLoop (pY VG),.inBlock 0]) [below T4]) w'):
 pI (aB T4) T4 S c own ((x::r).map aE.agg) (Ug ((baseD 116).at a [.code (pY VG),.inLoop (pY VG),.inBlock 0]) [below T4]) w:=by
 obtain⟨b,B,j,n⟩:=h;have d:=kW (aB T4) T4 S c ((x::r).map aE.agg);have g:i<l.length:=by
  rcases Vy i l.length with h|h
  ·exact h
  ·rw[List.drop_eq_nil_of_le h] at k;cases k
 have J:l[i]=x:=by
  have:=Wo g;rw[k] at this;exact(List.cons.inj this).1.symm
 obtain⟨rfl,rfl⟩|⟨e,y,z,rfl,f,q,u⟩:=n
 ·simp at g
 have t:=uN q u g;rw[J] at t;refine aS d ?_;refine bq d [0] Y ?_;refine dD d b Y (.bool Z) (jx Y (b.of Y) (b.of Y) (by simp;omega)) λb=>?_;refine ak d ?_;refine aS d ?_;refine dn d Z (b.of Y) ?_;refine ij d ?_;refine aS d ?_;refine gB d ?_;refine aS d ?_;refine bq d [0,1,2,3] Y ?_;refine dD d b Y (.pointer (I ⟨e,0+i*3,K⟩)) (fH Y (b.of Y) (b.of Y) Wz Tryz.sizeOf59 g) λb=>?_;refine rf d b Y (.agg #[WN x.null,.int .i64 x.n,.string x.s]) (fj (cs:=[WN x.null,.int .i64 x.n,.string x.s]) Y (b.of Y) Tryz.underlying59 Y mV (.inr f) t) λb=>?_;refine mB d j (by decide) Y Y (.cells #[.bool T7,.int .i64 0,.string ⟨#[]⟩] 59) trivial (λL=>.pointer (I ⟨L,0,K⟩)) (sZ Y Tryz.zeroValue59) λo P G H hrel A=>?_;replace b:=b.put (d:=11) (by decide) (.pointer (I ⟨o,0,K⟩));have s:=j.new G H;have C:e≠o:=by have:=j e (.inr f);omega
 refine r9 d s (by decide) Y Y (.inr Y) (.cells (gZ x) 59) trivial (kZ (n:=o) (off:=0) (v:=.agg #[WN x.null,.int .i64 x.n,.string x.s]) Y (b.of Y) (b.of Y) mV (λc p=>by simp[WH] at p;rcases p with rfl|rfl|rfl<;>rfl) (Or.inr (Or.inr rfl)) A (T8 3)) λM m=>?_;replace b:=b.none Vk;have D:=s.set m;refine ak d ?_;refine bq d [0,1,2] Y ?_;refine cH d b λb=>?_;refine ox d (by decide) Y Y _ (fj (cs:=[WN x.null,.int .i64 x.n,.string x.s]) Y (b.of Y) Tryz.underlying59 Y mV (.inr (.inr Y)) (λO v n=>by
  unfold Us;rw[m.set];simpa [WH] using n)) ?_
 replace b:=b.put (d:=45) (by decide) (.agg #[WN x.null,.int .i64 x.n,.string x.s]);refine RN (v:=x.agg) (by decide) Y Y Y (b.of Y) (b.of Y) ?_;replace b:=b.none Vk;have d:=kW (aB T4) T4 S c (r.map aE.agg);refine ak d ?_;refine iJ d ?_;refine bq d [0,1] Y ?_;refine dD d b Y (.int .i64 ((i+1:Nat):Int)) (nO (j:=1) Y (b.of Y) Y (by omega)) λb=>?_;refine cH d b λb=>?_;refine ak d ?_;refine kV d ?_;refine E _ M _ ⟨(((b.nil.cons (b.slot 0 _ Y)).cons (b.slot 38 _ Y)).cons (b.slot 39 _ Y)).cons (b.slot 40 _ Y),by simp only[put_defers];exact B,D,.inr ⟨e,y,z,rfl,.inl f,?_,u⟩⟩;rw[m.at_ e (.inr (.inl f)) C,hrel.at_ e (.inr f)];exact q
def Ky{S:Nat->Prop}{c:Nat}{co:Array Bool}{ats:Array Uh}{ty:Uh}{l:List aE}{v:U}(g:l.length<=100000):∀(r:List aE) (i:Nat),l.drop i=r->∀(own:Nat->Prop) (w:F) (a:V6),BE S c [{target:=.builtin .close ats ty co,args:= #[.chan (I c)]}] l v i own w a->
 pI (aB T4) T4 S c own (r.map aE.agg) (Ug ((baseD 116).at a [.code (pY VG),.inLoop (pY VG),.inBlock 0]) [below T4]) w:=by
 intro r
 induction r with
 |nil=>exact λi d own w a b=>NA b (List.drop_eq_nil_iff.1 d)
 |cons n r j=>
  intro i d own w a b;refine GK g b d λk m e f=>j (i+1) ?_ k m e f;have h:i<l.length:=by
   rcases Vy i l.length with b|b
   ·exact b
   ·rw[List.drop_eq_nil_of_le b] at d;cases d
  have:=Wo h;rw[d] at this;exact(List.cons.inj this).2.symm
end Cc
namespace Cc
open Go Go.Conc
open Ec (aE aH sF xD jC eO)
open Rl (mj aU eK ax bg dK)
def pp (s:ByteArray)(k e cn:Int)(vs:List aE):Prop:=
 (∃a:Nat,cn=(a:Int)/\a<=100/\jC cn k e=0/\sF s k e a vs)\/(vs=[]/\(jC cn k e≠0\/∃a:Nat,cn=(a:Int)/\xD s k e a))
def FR{s:ByteArray}{k e:Int}{n:Nat}{l b:List aE}(h:sF s k e n l)(a:sF s k e n b):b=l:=h.IM b a.len a.ok (eO a.eq)
def pp.Sy{s:ByteArray}{k e cn:Int}{vs l:List aE}{n:Nat}(h:pp s k e cn vs)(i:cn=(n:Int))(c:jC cn k e=0)(a:sF s k e n l):vs=l:=by
 rcases h with⟨b,d,_,_,g⟩|⟨rfl,h|⟨b,d,f⟩⟩
 ·have:b=n:=by omega
  subst this;exact FR a g
 ·exact absurd c h
 ·have:b=n:=by omega
  subst this;exact absurd a.eq (f l a.len a.ok)
def pp.Sw{s:ByteArray}{k e cn:Int}{vs:List aE}{n:Nat}(h:pp s k e cn vs)(f:cn=(n:Int))(b:xD s k e n):vs=[]:=by
 rcases h with⟨c,d,_,_,a⟩|⟨rfl,_⟩
 ·have:c=n:=by omega
  subst this;exact absurd a.eq (b vs a.len a.ok)
 ·rfl
def pp.Rj{s:ByteArray}{k e cn:Int}{vs:List aE}(h:pp s k e cn vs)(a:jC cn k e≠0):vs=[]:=by
 rcases h with⟨f,c,_,b,d⟩|⟨rfl,_⟩
 ·exact absurd b a
 ·rfl
def pp.len{s:ByteArray}{k e cn:Int}{vs:List aE}(h:pp s k e cn vs):(vs.length:Int)=cn\/vs=[]:=by
 rcases h with⟨d,a,_,c,b⟩|⟨rfl,_⟩
 ·exact .inl (by rw[b.len,a])
 ·exact .inr Y
def pp.le{s:ByteArray}{k e cn:Int}{vs:List aE}(h:pp s k e cn vs):vs.length<=100:=by
 rcases h with⟨f,c,a,d,b⟩|⟨rfl,_⟩
 ·rw[b.len];exact a
 ·simp
section
variable {G:mj}{σ:aU G}{own:Nat->Prop}{wl w:F}
def Mf:U->Bool
 | .bool _| .int _ _| .string _=>Z
 |_=>T7
def DT{v a:U}(h:ax σ v a)(b:Mf v=Z):a=v:=by
 cases h using ax.ind<;>first|rfl|cases b
def E7(l:List aE):∀x∈aH l,Mf x=Z:=by
 intro x b;obtain⟨v,_,a⟩:=List.mem_flatMap.1 b;simp only[VM,XQ,or_false] at a;rcases a with rfl|rfl|rfl<;>rfl
def PU{v r:U}{l:List aE}{base:Nat}(q:ax σ v r)(J:eK σ 0 wl w)(E:∀b b',σ.f b=I b'->own b')(D:wl.ownsRow base 59 3 v l.length (aH l)):Ln own w r l:=by
 obtain⟨K,⟨rfl,B⟩|⟨i,t,f,rfl,_,A,C,_,H,p⟩⟩:=D
 ·cases q using ax.ind;exact .inl ⟨rfl,We.1 B⟩
 ·cases q using ax.ind with
  |sl y=>
   rename_i s;obtain⟨e,j,k⟩:=y;obtain⟨d,N,O⟩:=s;simp only at e j k;subst j k;obtain⟨L,M,h,u,x⟩:=J.at_ i d e;rw[A] at h;cases h;cases x using dK.ind with
   |cells m=>
    rename_i g;refine .inr ⟨d,t,g,rfl,E i d e,u,?_⟩;rw[<-p];apply List.ext_getElem?;intro a;rw[V8,V8]
    split
    ·rename_i n;have c:a<f.size:=by
      rw[H];exact Ud n (Nat.mul_le_mul_right 3 C)
     have o:a<g.size:=by rw[<-m.1];exact c
     have F:=m.2 a c o;have z:Mf f[a]=Z:=by
      refine E7 l _ ?_;rw[<-p];refine List.mem_iff_getElem?.2 ⟨a,?_⟩;rw[V8,if_pos n];simp[c]
     have:=DT F z;simp[c,o,this]
    ·rfl
end
def gD (fn:WC):Array Vu:=match fn.body with
 |some (.seq _ (.seq _ (.seq (.region _ a _) _)))=>a
 |_=> #[]
def xj (fn:WC):WV:=match fn.body with
 |some (.seq _ (.seq _ (.seq _ a)))=>a
 |_=>.skip
def cz{P:Uf}{a:V6}{o:Vu}{v:U}{S own:Nat->Prop}{w:F}(h:∀c,(UH a.eval o).run P c= .ok (.value v) c/\(UH a.eval o).events P c #[]=#[]):∀c,RelB (λb=>S b\/own b) w c->(UH a.eval o).run P c= .ok (.value v) c/\∀e∈(UH a.eval o).events P c #[],EvW S own e:=λc _=>⟨(h c).1,λe d=>by rw[(h c).2] at d;simp at d⟩
def Kz{S:Nat->Prop}{c:Nat}{co:Array Bool}{ats:Array Uh}{ty:Uh}{vs:List aE}{v:U}{E:Int}{own:Nat->Prop}{w:F}{a:V6}{l0:List (Nat×U)}(b:Knows a 47 ((8,v)::(9,.int .i64 E)::(0,.chan (I c))::l0))(g:a.defers=[{target:=.builtin .close ats ty co,args:= #[.chan (I c)]}])(k:tQ S own w)(l:vs.length<=100000)
 (h:(E≠0/\vs=[])\/(E=0/\Ln own w v vs)):pI (aB T4) T4 S c own (vs.map aE.agg) (Ug ((baseD 116).at a [.code (xj VG)]) [below T4]) w:=by
 have d:=kW (aB T4) T4 S c (vs.map aE.agg);refine aS d ?_;refine aS d ?_;refine bq d [0,1] Y ?_;refine cH d b λb=>?_;rcases h with⟨j,rfl⟩|⟨rfl,i⟩
 ·refine dD d b Y (.bool Z) (qK Y (b.of Y) Y (by simpa using j)) λb=>?_;refine ak d ?_;refine dn d Z (b.of Y) ?_;refine pL d ?_;exact IQ Y (by simp only[put_defers];exact g) Tryz.func116 Y Y
 ·refine dD d b Y (.bool T7) (qK Y (b.of Y) Y Y) λb=>?_;refine ak d ?_;refine dn d T7 (b.of Y) ?_;refine ij d ?_;refine aS d ?_;refine bq d [0,1,2] Y ?_;refine cH d b λb=>?_;have m:∃f e,v= .slice f vs.length e:=by
   rcases i with⟨rfl,rfl⟩|⟨o,e,n,rfl,_⟩
   ·exact⟨K,0,rfl⟩
   ·exact⟨_,e,rfl⟩
  obtain⟨f,e,rfl⟩:=m;refine dD d b Y (.int .i64 (vs.length:Int)) (sn Y (b.of Y) Wz) λb=>?_;refine dD d b Y (.int .i64 ((0:Nat):Int)) (cj Y Y) λb=>?_;refine ak d ?_;refine gB d ?_;refine ue d ?_;exact Ky l vs 0 Y _ w _ ⟨(((b.nil.cons (b.slot 0 _ Y)).cons (b.slot 38 _ Y)).cons (b.slot 39 _ Y)).cons (b.slot 40 _ Y),by simp only[put_defers];exact g,k,i⟩
end Cc
namespace Cc
open Go Go.Conc
open Ec (aE aH sF xD jC pK)
open Rl (mj aU eK ax bg dK)
def o4 (cn:Int)(cb n cap:Nat):U:=.agg #[.int .i64 cn,.slice (I ⟨cb,0,K⟩) n cap]
def o6 (kb b ck eb a ce:Nat)(x:U):U:=.agg #[.slice (I ⟨kb,0,K⟩) b ck,.slice (I ⟨eb,0,K⟩) a ce,x]
structure tS(S:Nat->Prop)(w:F)(s:ByteArray)(k e:Int)(cb n kb nk eb ne col:Nat):Prop where
 sc:S cb
 sk:S kb
 se:S eb
 n:col<n
 nk:col<nk
 ne:col<ne
 cc:aM w cb (0+col*8+0) (.string s)
 ck:aM w kb (0+col*2+1) (.int .i64 k)
 ce:aM w eb (0+col*1) (.int .i64 e)
def tS.rel{S:Nat->Prop}{w w':F}{s:ByteArray}{k e:Int}{cb n kb d eb c col:Nat}(h:tS S w s k e cb n kb d eb c col)(g:∀b,S b->w'.heap[b]? =w.heap[b]?):tS S w' s k e cb n kb d eb c col:=by
 have e:∀(b a:Nat),S b->w'.cell? ⟨b,a,K⟩=w.cell? ⟨b,a,K⟩:=λb a f=>by unfold Us;rw[g b f]
 exact⟨h.sc,h.sk,h.se,h.n,h.nk,h.ne,(e _ _ h.sc).trans h.cc,(e _ _ h.sk).trans h.ck,(e _ _ h.se).trans h.ce⟩
def IA (b1 b2:Nat)(cn:Int)(cb n cap kb b ck eb a ce col:Nat)(s:ByteArray)(k e:Int):List (Nat×U):=
 [(14,.pointer (I ⟨b1,0+1,K⟩)),(15,.slice (I ⟨cb,0,K⟩) n cap),(16,.int .i64 (col:Int)),(17,.pointer (I ⟨cb,0+col*8,K⟩)),(18,.pointer (I ⟨cb,0+col*8+0,K⟩)),(19,.string s),
  (20,.pointer (I ⟨b2,0+0,K⟩)),(21,.slice (I ⟨kb,0,K⟩) b ck),(22,.int .i64 (col:Int)),(23,.pointer (I ⟨kb,0+col*2,K⟩)),(24,.pointer (I ⟨kb,0+col*2+1,K⟩)),(25,.int .i64 k),
  (26,.pointer (I ⟨b2,0+1,K⟩)),(27,.slice (I ⟨eb,0,K⟩) a ce),(28,.int .i64 (col:Int)),(29,.pointer (I ⟨eb,0+col*1,K⟩)),(30,.int .i64 e),(31,.pointer (I ⟨b1,0+0,K⟩)),(32,.int .i64 cn)]
def LZ:List Nat:=[14,15,16,17,18,19,20,21,22,23,24,25,26,27,28,29,30,31,32]
def Ny (u:U)(E:Int):List (Nat×U):=[(33,.tuple #[u,.int .i64 E]),(13,.tuple #[u,.int .i64 E]),(34,u),(35,.int .i64 E),(8,u),(9,.int .i64 E)]
def DJ:gE (gD VG) (λi=>decide (i<19)) 19 47 LZ=Z:=by kernel_rfl
def L1:gE (gD VG) (λ_=>Z) 25 47 ([33,13,34,35,8,9]++LZ)=Z:=by kernel_rfl
def OL:((UK (gD VG).size).all λi=> !(λi=>decide (i<19)) i||match jf (gD VG) i with|some d=> !([33,13,34,35,8,9]:List Nat).contains d|none=>Z)=Z:=by kernel_rfl
def L2:((UK (gD VG).size).all λi=> !(λi=>decide (i<=19)) i||i==19||(under (gD VG) (gD VG).size (match (gD VG)[19]? with
 |some o=>(o.after.toList.filter λe=>Vn .any e).map (·.on)
 |none=>[])).contains i)=Z:=by kernel_rfl
def q7:T4.follows .mixedOrders=Z:=by kernel_rfl
def Og:(Tryz.f139.name == "runtime.NumGoroutine")=T7:=by kernel_rfl
def R4:(VG.name == "runtime.NumGoroutine")=T7:=by kernel_rfl
def EH{S:Nat->Prop}{c:Nat}{co:Array Bool}{ats:Array Uh}{ty:Uh}{vs:List aE}{u:U}{E:Int}{own:Nat->Prop}{w:F}{a0:V6}{l l0:List (Nat×U)}(m:Knows a0 47 l0)(n:l0.lookup 0=I (.chan (I c)))(v:l.lookup 0=K)(p:a0.defers=[{target:=.builtin .close ats ty co,args:= #[.chan (I c)]}])(r:tQ S own w)(s:vs.length<=100000)(x:l.map (·.1)=LZ)
 (h:(E≠0/\vs=[])\/(E=0/\Ln own w u vs)) (g t:Nat) (f:Array Bool) (a:V6) (q:cI (gD VG) (λ_=>Z) a0 (fill a0 (Ny u E++l)) f a) (j:∀i,(λi=>decide (i<=19)) i=Z->f.getD i T7=Z) (y:E5 f<=g):
 pI (aB T4) T4 S c own (vs.map aE.agg) (Ug ((baseD 116).at a [.inRegion (gD VG) (U9 .any (gD VG) g t f []),.code (xj VG)]) [below T4]) w:=by
 have k:=kW (aB T4) T4 S c (vs.map aE.agg);have o:gE (gD VG) (λ_=>Z) 25 47 ((Ny u E++l).map (·.1))=Z:=by
  rw[U0,x];exact L1
 refine kM (Dn:=λi=>decide (i<=19)) (u:=25) k (by decide) m o ?_ ?_ ?_ g t f a q j y
 ·intro b i e _ j B d;have z:19<i:=by simpa using j
  have A:i<25:=(Ub.1 d).1;have:i=20\/i=21\/i=22\/i=23\/i=24:=by omega
  rcases this with rfl|rfl|rfl|rfl|rfl
  ·cases(show I _=I e from d);exact⟨_,rfl,.inl ⟨rfl,cz (cj Y (b.of Y))⟩⟩
  ·cases(show I _=I e from d);exact⟨_,rfl,.inl ⟨rfl,cz (kG Y (b.of Y) Y)⟩⟩
  ·cases(show I _=I e from d);exact⟨_,rfl,.inl ⟨rfl,cz (kG Y (b.of Y) Y)⟩⟩
  ·cases(show I _=I e from d);exact⟨_,rfl,.inl ⟨rfl,cz (kF Y (b.of Y))⟩⟩
  ·cases(show I _=I e from d);exact⟨_,rfl,.inl ⟨rfl,cz (kF Y (b.of Y))⟩⟩
 ·intro e d;exact absurd (Ub.1 d).1 (by decide)
 ·intro _ b;refine ak k ?_;refine Kz (l0:=[]) (v:=u) (E:=E) (((b.nil.cons (b.slot 0 _ ?_)).cons (b.slot 9 _ Y)).cons (b.slot 8 _ Y)) (by rw[ez];exact p) r s h;rw[UC,List.lookup_append,List.lookup_append,v,n];rfl
def S5 (s:ByteArray)(k e cn:Int)(w:F)(f:WS)(w':F):Prop:=aP w w'/\
 ((jC cn k e≠0/\f= .returned (.tuple #[aO,.int .i64 (jC cn k e)]))\/
  (∃a:Nat,cn=(a:Int)/\a<=100/\jC cn k e=0/\Ec.bJ k e=Z/\((∃v b,f= .returned (.tuple #[v,.int .i64 0])/\w'.ownsRow w.heap.size 59 3 v b.length (aH b)/\sF s k e a b)\/(f= .returned (.tuple #[aO,.int .i64 3])/\xD s k e a))))
def va{G:mj}{σ:aU G}{u g:U}{E:Int}(h:ax σ (.tuple #[u,.int .i64 E]) g):∃f,g= .tuple #[f,.int .i64 E]/\ax σ u f:=by
 cases h using ax.ind with
 |tuple a e ihz=>
  rename_i k;have c:=e 0 (by simp) (by rw[<-a];simp);have d:=e 1 (by simp) (by rw[<-a];simp);simp only[List.getElem_toArray,List.getElem_cons_zero,List.getElem_cons_succ] at c d;refine⟨k[0]'(by rw[<-a];simp),?_,c⟩;have i:=DT d Y;congr 1;refine Array.ext (a.symm.trans Y) λb l j=>?_;have:b=0\/b=1:=by have:b<2:=j;omega
  rcases this with rfl|rfl
  ·rfl
  ·simpa using i
def Kx{S:Nat->Prop}{c:Nat}{co:Array Bool}{ats:Array Uh}{ty:Uh}{vs:List aE}{own:Nat->Prop}{w:F}{a0:V6}{l0:List (Nat×U)}{s:ByteArray}{k e cn:Int}{b1 b2 cb n cap kb K ck eb J ce col:Nat}(r:pp s k e cn vs)(a1:s.size<=Uq)
 (x:Knows a0 47 l0) (ap:l0.lookup 0=I (.chan (I c))) (B:a0.defers=[{target:=.builtin .close ats ty co,args:= #[.chan (I c)]}]) (am:Hv S own w) (ar:1<=w.heap.size)
 (o:Vu) (q:(gD VG)[19]? =I o) (y t:Nat) (u:Array Bool) (a:V6) (D:cI (gD VG) (λi=>decide (i<19)) a0 (fill a0 (IA b1 b2 cn cb n cap kb K ck eb J ce col s k e)) u a) (G:19∈UZ .any (gD VG) u) (bb:E5 u<=y+1) (p:∀s'∈o.looksAt (gD VG),aW a s'=aW (fill a0 (IA b1 b2 cn cb n cap kb K ck eb J ce col s k e)) s'):
 pI (aB T4) T4 S c own (vs.map aE.agg) (Ug ((baseD 116).at a [.inRegion (gD VG) (19::U9 .any (gD VG) y t (u.setIfInBounds 19 Z) []),.code (xj VG)]) [below T4]) w:=by
 have al:=kW (aB T4) T4 S c (vs.map aE.agg);cases(show I _=I o from q);have m:=x.fill (IA b1 b2 cn cb n cap kb K ck eb J ce col s k e) Y;have V:a.eval (.tmp 19)= .string s:=(p 19 (by decide)).trans (m.slot 19 _ Y);have W:a.eval (.tmp 25)= .int .i64 k:=(p 25 (by decide)).trans (m.slot 25 _ Y);have X:a.eval (.tmp 30)= .int .i64 e:=(p 30 (by decide)).trans (m.slot 30 _ Y);have aa:a.eval (.tmp 32)= .int .i64 cn:=(p 32 (by decide)).trans (m.slot 32 _ Y);refine H6 al (by decide) q Y Y Tryz.func139 Og Y ?_;have ao:(#[Operand.tmp 19,.tmp 25,.tmp 30,.tmp 32].map a.eval)=#[.string s,.int .i64 k,.int .i64 e,.int .i64 cn]:=by simp only[List.map_toArray,Xw,List.map_nil,V,W,X,aa]
 rw[ao];have a5:bg (QE L0) #[.string s,.int .i64 k,.int .i64 e,.int .i64 cn] #[.string s,.int .i64 k,.int .i64 e,.int .i64 cn]:=by
  refine⟨rfl,λi ad a9=>?_⟩;have:i=0\/i=1\/i=2\/i=3:=by have:i<4:=ad;omega
  rcases this with rfl|rfl|rfl|rfl
  ·exact .string _
  ·exact .int _ _
  ·exact .int _ _
  ·exact .int _ _
 refine KX (R:=λf g=>∃L,S5 s k e cn L f g) cV Qi Fb Y (jX Y Y Y).symm a5 (λf g z=>?_) (os:=w.os) (λa8=>(pK s k e cn _ a1).mono λf g z=>⟨_,z⟩) am ar λbi v a7 be Q g A H ae a2 N hrel=>?_
 ·obtain⟨L,_,⟨_,rfl⟩|⟨_,_,_,_,_,⟨_,_,rfl,_⟩|⟨rfl,_⟩⟩⟩:=z<;>exact⟨_,rfl⟩
 ·obtain⟨a8,R,L,ba,A⟩:=A;have a6:∃d b,a7= .tuple #[d,.int .i64 b]/\((b≠0/\vs=[])\/(b=0/\Ln Q g d vs)):=by
   rcases A with⟨P,j⟩|⟨bd,O,_,ab,_,⟨d,bc,j,a3,C⟩|⟨j,C⟩⟩
   ·cases j;obtain⟨l,rfl,_⟩:=va H;exact⟨l,_,rfl,.inl ⟨P,r.Rj P⟩⟩
   ·cases j;obtain⟨l,rfl,a4⟩:=va H;have T:=r.Sy O ab C;subst T;exact⟨l,_,rfl,.inr ⟨rfl,PU a4 ae a2 a3⟩⟩
   ·cases j;obtain⟨l,rfl,_⟩:=va H;exact⟨l,_,rfl,.inl ⟨by decide,r.Sw O C⟩⟩
  obtain⟨d,b,rfl,aw⟩:=a6;rw[XG,q];have aq:=D.Ie (l2:=Ny d b) (Lb:=λ_=>Z) (n:=47) (v:=.tuple #[d,.int .i64 b]) G q x.size DJ Y (λ_ _=>rfl) Y OL (λR B=>by cases B;rfl);have av:tQ S Q g:=λM h=>by
   rcases h with h|h
   ·exact(N.sh M h).1
   ·exact N.bd M h
  refine EH x ap Y B av (Uy r.le (by decide)) Y aw y t _ _ aq (gG D G L2 (λi E=>by
   have:i<=19:=by simpa using E
   show i<25;omega)) ?_
  obtain⟨_,_,E,az,_⟩:=mem_ready G;have:=qY (by rw[D.size];exact E) az;omega
end Cc
namespace Cc
open Go Go.Conc
open Ec (aE)
def TL(v0 v1 v2 a:U)(m:Nat)(f:4<=m):Knows ⟨#[v0,v1,v2,a]++U3 (m-4) Vk,[]⟩ m [(0,v0),(1,v1),(2,v2),(3,a)]:=by
 have b:∀c v,(#[v0,v1,v2,a]:Array U)[c]? =I v->aW ⟨#[v0,v1,v2,a]++U3 (m-4) Vk,[]⟩ c=v:=λc v d=>by
  unfold aW;rw[UD,Array.getElem?_append_left (Ub.1 d).1,d];rfl
 refine Knows.cons (Knows.cons (Knows.cons (Knows.cons (l:=[]) ⟨?_,λs v e=>by simp at e⟩ (b 3 a Y)) (b 2 v2 Y)) (b 1 v1 Y)) (b 0 v0 Y);simp;omega
def EI{S:Nat->Prop}{c:Nat}{co:Array Bool}{ats:Array Uh}{ty:Uh}{vs:List aE}{own:Nat->Prop}{w:F}{a0:V6}{s:ByteArray}{k e cn:Int}{b1 b2 cb n cap kb i ck eb h ce col:Nat}{x:U}{l0:List (Nat×U)}(J:pp s k e cn vs)(D:s.size<=Uq)
 (l:Knows a0 47 ((0,.chan (I c))::(3,.int .i64 (col:Int))::(5,.pointer (I ⟨b1,0,K⟩))::(6,.pointer (I ⟨b2,0,K⟩))::l0)) (z:a0.defers=[{target:=.builtin .close ats ty co,args:= #[.chan (I c)]}]) (y:Hv S own w) (B:1<=w.heap.size)
 (h1:own b1) (p:own b2) (L:w.heap[b1]? =I (.cells #[.int .i64 cn,.slice (I ⟨cb,0,K⟩) n cap] 139 (0,0))) (M:w.heap[b2]? =I (.cells #[.slice (I ⟨kb,0,K⟩) i ck,.slice (I ⟨eb,0,K⟩) h ce,x] 105 (0,0))) (g:tS S w s k e cb n kb i eb h col):
 pI (aB T4) T4 S c own (vs.map aE.agg) (Ug ((baseD 116).at a0 [.code (.region 2 (gD VG) Z),.code (xj VG)]) [below T4]) w:=by
 have q:=kW (aB T4) T4 S c (vs.map aE.agg);have m:∀a v,(#[VY .i64 cn,.slice (I ⟨cb,0,K⟩) n cap]:Array U)[a]? =I v->aM w b1 a v:=λa v j=>by unfold Us;simp only[L];exact j
 have o:∀a v,(#[Vg (I ⟨kb,0,K⟩) i ck,.slice (I ⟨eb,0,K⟩) h ce,x]:Array U)[a]? =I v->aM w b2 a v:=λa v j=>by unfold Us;simp only[M];exact j
 refine qC (Ph:=λd=>decide (d<19)) (l:=IA b1 b2 cn cb n cap kb i ck eb h ce col s k e) q q7 ?_;refine kM (u:=19) q (by decide) l DJ ?_ ?_ ?_
 ·intro b d a G _ _ f;have P:d<19:=by simpa using G
  have:d=0\/d=1\/d=2\/d=3\/d=4\/d=5\/d=6\/d=7\/d=8\/d=9\/d=10\/d=11\/d=12\/d=13\/d=14\/d=15\/d=16\/d=17\/d=18:=by omega
  rcases this with rfl|rfl|rfl|rfl|rfl|rfl|rfl|rfl|rfl|rfl|rfl|rfl|rfl|rfl|rfl|rfl|rfl|rfl|rfl
  ·cases(show I _=I a from f);exact⟨_,rfl,.inl ⟨rfl,cz (dj Y (b.of Y) V7 Y Tryz.sizeOf137 Y)⟩⟩
  ·cases(show I _=I a from f);exact⟨_,rfl,.inl ⟨rfl,bZ Y (b.of Y) Tryz.isAgg137 (.inr h1) (m 1 _ Y)⟩⟩
  ·cases(show I _=I a from f);exact⟨_,rfl,.inl ⟨rfl,cz (cj Y (b.of Y))⟩⟩
  ·cases(show I _=I a from f);exact⟨_,rfl,.inl ⟨rfl,cz (fH Y (b.of Y) (b.of Y) Tryz.underlying137 Tryz.sizeOf143 g.n)⟩⟩
  ·cases(show I _=I a from f);exact⟨_,rfl,.inl ⟨rfl,cz (dj Y (b.of Y) Tryz.underlying143 Y Tryz.sizeOf9 Y)⟩⟩
  ·cases(show I _=I a from f);exact⟨_,rfl,.inl ⟨rfl,bZ Y (b.of Y) Tryz.isAgg9 (.inl g.sc) g.cc⟩⟩
  ·cases(show I _=I a from f);exact⟨_,rfl,.inl ⟨rfl,cz (dj Y (b.of Y) Tryz.underlying105 Y Tryz.sizeOf44 Y)⟩⟩
  ·cases(show I _=I a from f);exact⟨_,rfl,.inl ⟨rfl,bZ Y (b.of Y) Tryz.isAgg44 (.inr p) (o 0 _ Y)⟩⟩
  ·cases(show I _=I a from f);exact⟨_,rfl,.inl ⟨rfl,cz (cj Y (b.of Y))⟩⟩
  ·cases(show I _=I a from f);exact⟨_,rfl,.inl ⟨rfl,cz (fH Y (b.of Y) (b.of Y) Tryz.underlying44 Tryz.sizeOf63 g.nk)⟩⟩
  ·cases(show I _=I a from f);exact⟨_,rfl,.inl ⟨rfl,cz (dj Y (b.of Y) Tryz.underlying63 Y X5 Y)⟩⟩
  ·cases(show I _=I a from f);exact⟨_,rfl,.inl ⟨rfl,bZ Y (b.of Y) Yv (.inl g.sk) g.ck⟩⟩
  ·cases(show I _=I a from f);exact⟨_,rfl,.inl ⟨rfl,cz (dj Y (b.of Y) Tryz.underlying105 Y Tryz.sizeOf22 Y)⟩⟩
  ·cases(show I _=I a from f);exact⟨_,rfl,.inl ⟨rfl,bZ Y (b.of Y) Tryz.isAgg22 (.inr p) (o 1 _ Y)⟩⟩
  ·cases(show I _=I a from f);exact⟨_,rfl,.inl ⟨rfl,cz (cj Y (b.of Y))⟩⟩
  ·cases(show I _=I a from f);exact⟨_,rfl,.inl ⟨rfl,cz (fH Y (b.of Y) (b.of Y) Tryz.underlying22 X5 g.ne)⟩⟩
  ·cases(show I _=I a from f);exact⟨_,rfl,.inl ⟨rfl,bZ Y (b.of Y) Yv (.inl g.se) g.ce⟩⟩
  ·cases(show I _=I a from f);exact⟨_,rfl,.inl ⟨rfl,cz (dj Y (b.of Y) V7 Y X5 Y)⟩⟩
  ·cases(show I _=I a from f);exact⟨_,rfl,.inl ⟨rfl,bZ Y (b.of Y) Yv (.inr h1) (m 0 _ Y)⟩⟩
 ·intro a f t O N r A H E C _;exact Kx J D l Y z y B a f t O N r A H E C
 ·intro u;exact absurd (u 24 (by decide)) (by decide)
def Nz{S:Nat->Prop}{c:Nat}{vs:List aE}{w:F}{s:ByteArray}{k e cn:Int}{cb n cap kb h ck eb g ce col:Nat}{x:U}(E:pp s k e cn vs)(C:s.size<=Uq)(m:Hv S (λ_=>False) w)(B:tS S w s k e cb n kb h eb g col):
 pI (aB T4) T4 S c (λ_=>False) (vs.map aE.agg) (born T4 (dcall 116 #[.chan (I c),o4 cn cb n cap,o6 kb h ck eb g ce x,.int .i64 (col:Int)])) w:=by
 have a:=kW (aB T4) T4 S c (vs.map aE.agg);refine Oa Tryz.func116 R4 Y ?_;have b:=TL (.chan (I c)) (o4 cn cb n cap) (o6 kb h ck eb g ce x) (.int .i64 (col:Int)) 47 (by decide);have o:tQ S (λ_=>False) w:=λd f=>f.elim (λu=>(m.sh d u).1) Yq;refine aS a ?_;refine bq a [0,1] Y ?_;refine mB a o (by decide) Y Y (.cells #[.int .i64 cn,.slice (I ⟨cb,0,K⟩) n cap] 139) trivial (λn=>.pointer (I ⟨n,0,K⟩)) (uE (v:=o4 cn cb n cap) Y (b.of Y)) λi J z G D v=>?_;replace b:=b.put (d:=5) (by decide) (.pointer (I ⟨i,0,K⟩));have p:=o.new z G;refine mB a p (by decide) Y Y (.cells #[.slice (I ⟨kb,0,K⟩) h ck,.slice (I ⟨eb,0,K⟩) g ce,x] 105) trivial (λn=>.pointer (I ⟨n,0,K⟩)) (uE (v:=o6 kb h ck eb g ce x) Y (b.of Y)) λl L A H r y=>?_;replace b:=b.put (d:=6) (by decide) (.pointer (I ⟨l,0,K⟩));have q:=p.new A H;refine ak a ?_;refine aS a ?_;refine bq a [0,1] Y ?_;refine cH a b λb=>?_;refine Ow a (by decide) Y Y Y (b.of Y) λt=>?_;refine ak a ?_;refine aS a ?_;refine EI (b1:=i) (b2:=l) (cap:=cap) (ck:=ck) (ce:=ce) (l0:=[]) (col:=col) (x:=x) (ats:= #[212]) (ty:=0) (co:=t) E C ?_ (by simp only[put_defers];rfl) ?_ (by omega) (.inl (.inr rfl)) (.inr rfl) ?_ y (B.rel λd f=>?_)
 ·exact(Knows.defer b _ Vk).four Y Y Y Y
 ·refine⟨λd f=>⟨q d (.inl f),λj=>?_⟩,λd f=>q d (.inr f)⟩;have:=(m.sh d f).1;rcases j with(j|rfl)|rfl
  ·exact j
  ·omega
  ·omega
 ·rw[r.at_ i (.inr (.inr Y))];exact v
 ·rw[r.at_ d (.inl f),D.at_ d (.inl f)]
end Cc
namespace Cc
open Go Go.Conc
open Ec (aE aH)
def xA:∃i,T4.info? 59=I i/\i.zero=I (.agg #[.bool T7,.int .i64 0,.string ⟨#[]⟩])/\i.size=3/\i.bytes=32:=⟨Tryz.t59,by kernel_rfl,rfl,rfl,rfl⟩
def Ff(w:F):(Wn 59).events T4 w #[]=#[]:=by
 obtain⟨e,b,d,_⟩:=xA;simp[Wn,typeInfo,b,d]
def eX(l:List aE)(x:aE):aH (l++[x])=aH l++[.bool x.null,.int .i64 x.n,.string x.s]:=by simp[aH]
structure Row(w:F)(g N:Nat)(pre:List aE):Prop where
 ex:∃cur,w.heap[g]? =I (.cells cur 59 (0,0))/\cur.size=N*3/\cur.toList.take (pre.length*3)=aH pre
 le:pre.length<=N
def Row.same{w w':F}{g N:Nat}{pre:List aE}(h:Row w g N pre)(f:w'.heap[g]? =w.heap[g]?):Row w' g N pre:=by
 obtain⟨b,d,e⟩:=h.ex;exact⟨⟨b,f.trans d,e⟩,h.le⟩
def dw (fn:WC):WV:=match fn.body with
 |some (.seq _ (.seq _ (.seq (.seq _ (.block _ (.loop c))) _)))=>c
 |_=>.skip
def gV (fn:WC):WV:=match fn.body with
 |some (.seq _ (.seq _ (.seq _ c)))=>c
 |_=>.skip
structure BB(S O:Nat->Prop)(c g N:Nat)(pre:List aE)(w:F)(a:V6):Prop where
 kn:Knows a 18 [(9,.chan (I c)),(5,.slice (I ⟨g,0,K⟩) pre.length N)]
 df:a.defers=[]
 inr:tQ S O w
 own:O g
 row:Row w g N pre
section
variable {Post:U->F->Prop}{S O:Nat->Prop}{μ:Nat->Option (List U)}{c g N:Nat}{pre:List aE}{w:F}{a:V6}{cs:List Ut}{b0:Ut}{a0:V6}{k0:List WM}{Cd:Array Vu}{i0:Nat}{Bb:List Nat}{o0:Vu}
def LO(h:BB S O c g N pre w a)(k:μ c=I [])(j:Cd[i0]? =I o0)
 (i:ku (aB T4) T4 Post S O (gd μ c K) (Ug (b0.at (a0.put o0.dst (.slice (I ⟨g,0,K⟩) pre.length N)) (.inRegion Cd Bb::k0)) cs) w):
 ku (aB T4) T4 Post S O μ (Ug ((base 117).at a [.code (dw XP),.inLoop (dw XP),.inBlock 0,.code (gV XP)]) (b0.at a0 (.inRegion Cd (i0::Bb)::k0)::cs)) w:=by
 obtain⟨d,f,m,l,n⟩:=h;have b:=dS (aB T4) T4 Post S μ;refine aS b ?_;refine bq b [0,1] Y ?_;refine Rg (by decide) Y Y Y Tryz.underlying215 Tryz.zeroValue59 Ff (d.of Y) k ?_;replace d:=d.put (d:=10) (by decide) (.tuple #[.agg #[.bool T7,.int .i64 0,.string ⟨#[]⟩],.bool T7]);have b:=dS (aB T4) T4 Post S (gd μ c K);refine ri b d λd=>?_;refine ak b ?_;refine aS b ?_;refine dn b T7 (d.of Y) ?_;refine ud b (k':=[.code (gV XP)]) Y ?_;refine aS b ?_;refine bq b [0,1] Y ?_;refine cH b d λd=>?_;refine gX b d λd=>?_;refine ak b ?_;refine pL b ?_;have e:=j6 (P:=T4) Tryz.results117 (d.slot 4 _ Y);exact Oy b Y (by simp only[put_defers];exact f) Tryz.func117 e.1 e.2 j i
def FK{x:aE}{r:List aE}(h:BB S O c g N pre w a)(av:μ c=I ((x::r).map aE.agg))(Q:pre.length<N)(R:N<=1000000)
 (ae:∀o w' a',BB S o c g N (pre++[x]) w' a'->(∀b,O b->o b)->(∀b,o b->O b\/w.heap.size<=b)->(∀b,S b\/O b->b≠g->w'.heap[b]? =w.heap[b]?)->w.heap.size<=w'.heap.size->w'.tape=w.tape->w'.os=w.os->w'.output=w.output->ku (aB T4) T4 Post S o (gd μ c (I (r.map aE.agg))) (Ug ((base 117).at a' [.code (dw XP),.inLoop (dw XP),.inBlock 0,.code (gV XP)]) cs) w'):
 ku (aB T4) T4 Post S O μ (Ug ((base 117).at a [.code (dw XP),.inLoop (dw XP),.inBlock 0,.code (gV XP)]) cs) w:=by
 obtain⟨d,aa,s,j,am⟩:=h;obtain⟨⟨p,X,q,aq⟩,a2⟩:=am;obtain⟨H,E,G,n,W⟩:=xA;have e:=dS (aB T4) T4 Post S μ;refine aS e ?_;refine bq e [0,1] Y ?_;refine Rf (v:=x.agg) (by decide) Y Y Y Tryz.underlying215 Tryz.zeroValue59 Ff (d.of Y) av ?_;replace d:=d.put (d:=10) (by decide) (.tuple #[.agg (gZ x),.bool Z]);have e:=dS (aB T4) T4 Post S (gd μ c (I (r.map aE.agg)));refine ri e d λd=>?_;refine ak e ?_;refine aS e ?_;refine dn e Z (d.of Y) ?_;refine ij e ?_;refine gB e ?_;refine aS e ?_;refine bq e [0,1,2] Y ?_;refine ri e d λd=>?_;refine mB e s (by decide) Y Y (.cells #[.bool T7,.int .i64 0,.string ⟨#[]⟩] 59) trivial (λy=>.pointer (I ⟨y,0,K⟩)) (sZ Y Tryz.zeroValue59) λJ a5 F ao hrel T=>?_;replace d:=d.put (d:=6) (by decide) (.pointer (I ⟨J,0,K⟩));have B:=s.new F ao;refine r9 e B (by decide) Y Y (.inr Y) (.cells (gZ x) 59) trivial (kZ (n:=J) (off:=0) (v:=.agg #[WN x.null,.int .i64 x.n,.string x.s]) Y (d.of Y) (d.of Y) mV (λc m=>by simp[WH] at m;rcases m with rfl|rfl|rfl<;>rfl) (Or.inr (Or.inr rfl)) T (T8 3)) λaw i=>?_;replace d:=d.none Vk;have C:=B.set i;refine ak e ?_;refine bq e [0,1,2,3,4] Y ?_;refine cH e d λd=>?_;refine ox e (by decide) Y Y _ (fj (cs:=[WN x.null,.int .i64 x.n,.string x.s]) Y (d.of Y) Tryz.underlying59 Y mV (.inr (.inr Y)) (λt v ar=>by
  unfold Us;rw[i.set];simpa [WH] using ar)) ?_
 replace d:=d.put (d:=14) (by decide) (.agg #[WN x.null,.int .i64 x.n,.string x.s]);refine mB e C (by decide) Y Y (.cells (gZ x) 59) trivial (λy=>.slice (I ⟨y,0,K⟩) 1 1) (JY (v0:=.bool x.null) (v1:=.int .i64 x.n) (v2:=.string x.s) Y (d.of Y) Wz E G n) λz A al ap l U=>?_;replace d:=d.put (d:=15) (by decide) (.slice (I ⟨z,0,K⟩) 1 1);have D:=C.new al ap;have a1:=s g (.inr j);have M:aw.heap[g]? =I (.cells p 59 (0,0)):=by
  rw[i.at_ g (.inr (.inl j)) (by omega),hrel.at_ g (.inr j)];exact X
 have P:A.heap[g]? =I (.cells p 59 (0,0)):=(l.at_ g (.inr (.inl j))).trans M;refine Q1 e D (n:=g) (by decide) Y Y (.inl (.inl j)) (.cells (p.toList.take (pre.length*H.size)++[WN x.null,.int .i64 x.n,.string x.s]++p.toList.drop (pre.length*H.size+3)).toArray 59 (0,0)) trivial (.slice (I ⟨g,0,K⟩) (pre.length+1) N) (JX (news:=[WN x.null,.int .i64 x.n,.string x.s]) Y (d.of Y) (d.of Y) Wz E G P (.inr (.inl (.inl j))) (.inr (.inr Y)) (by rw[n];rfl) (λt a4 ad=>by
  have L:A.cell? (Addr.add ⟨z,0,K⟩ t)=A.cell? ⟨z,0+t,K⟩:=by rw[Xc]
  rw[L];unfold Us;rw[U,UT];simpa using ad) (λt=>by rw[Xc]) (λc m=>by simp at m;rcases m with rfl|rfl|rfl<;>rfl) (by omega) (by rw[q,n]) R (by rw[W];decide)) λaz k=>?_
 replace d:=d.put (d:=16) (by decide) (.slice (I ⟨g,0,K⟩) (pre.length+1) N);have ab:=D.set k;refine gX e d λd=>?_;refine ak e ?_;refine iJ e ?_;refine kV e ?_;have u:(pre++[x]).length=pre.length+1:=by simp
 refine ae _ az _ ⟨?_,by simp only[put_defers];exact aa,ab,.inl (.inl j),⟨⟨_,k.set,?_,?_⟩,by rw[u];exact Q⟩⟩ (λb f=>.inl (.inl f)) (λb f=>?_) (λb f V=>?_) ?_ ?_ ?_ ?_
 ·rw[u];exact(d.nil.cons (d.slot 5 _ Y)).cons (d.slot 9 _ Y)
 ·rw[n] at*;simp[q];omega
 ·rw[n,u,eX,<-aq,Nat.add_mul];rw[List.take_append_of_le_length (by simp[q];omega)];rw[UO (by simp[q];omega)]
 ·rcases f with(f|rfl)|rfl
  ·exact .inl f
  ·exact .inr F
  ·have:=i.size;have:=hrel.size;exact .inr (by omega)
 ·have a3:=s b f;rw[k.at_ b (f.imp (λh=>h) (λh=>.inl (.inl h))) V,l.at_ b (f.imp (λh=>h) (λh=>.inl h)),i.at_ b (f.imp (λh=>h) (λh=>.inl h)) (by omega),hrel.at_ b f]
 ·have:=hrel.size;have:=i.size;have:=l.size;have:=k.size;omega
 ·rw[k.tape,l.tape,i.tape,hrel.tape]
 ·rw[k.os,l.os,i.os,hrel.os]
 ·rw[k.output,l.output,i.output,hrel.output]
def KU(μ:Nat->Option (List U))(c:Nat)(x y:Option (List U)):gd (gd μ c x) c y=gd μ c y:=by
 funext b;unfold gd
 split<;>rfl
structure QL(S O O':Nat->Prop)(g:Nat)(w w':F):Prop where
 sub:∀b,O b->O' b
 new:∀b,O' b->O b\/w.heap.size<=b
 at_:∀b,S b\/O b->b≠g->w'.heap[b]? =w.heap[b]?
 size:w.heap.size<=w'.heap.size
 tape:w'.tape=w.tape
 os:w'.os=w.os
 output:w'.output=w.output
def Jg(z:Cd[i0]? =I o0)(v:N<=1000000):∀(r:List aE) (pre:List aE) (O:Nat->Prop) (w:F) (a:V6) (μ:Nat->Option (List U)),BB S O c g N pre w a->μ c=I (r.map aE.agg)->pre.length+r.length<=N->
 (∀h w',Row w' g N (pre++r)->h g->tQ S h w'->QL S O h g w w'->ku (aB T4) T4 Post S h (gd μ c K) (Ug (b0.at (a0.put o0.dst (.slice (I ⟨g,0,K⟩) (pre++r).length N)) (.inRegion Cd Bb::k0)) cs) w')->
 ku (aB T4) T4 Post S O μ (Ug ((base 117).at a [.code (dw XP),.inLoop (dw XP),.inBlock 0,.code (gV XP)]) (b0.at a0 (.inRegion Cd (i0::Bb)::k0)::cs)) w:=by
 intro r
 induction r with
 |nil=>
  intro pre O w a μ b j l i;refine LO b j z ?_;have:=i O w (by rw[Wr];exact b.row) b.own b.inr ⟨λ_ b=>b,λ_ b=>.inl b,λ_ _ _=>rfl,T8 _,rfl,rfl,rfl⟩;rw[Wr] at this;exact this
 |cons k r A=>
  intro pre O w a μ b j l i;simp only[VI] at l;refine FK b j (by omega) v λh w' s u o B C p D E G=>?_;refine A (pre++[k]) h w' s _ u (by unfold gd;simp) (by simp;omega) λq H n x y f=>?_;rw[KU];have t:pre++[k]++r=pre++k::r:=by simp
  rw[t] at n ⊢;exact i q H n x y ⟨λd e=>f.sub d (o d e),λd e=>(f.new d e).elim (B d) (λe=>.inr (Uy p e)),λd e m=>(f.at_ d (e.imp (λb=>b) (o d)) m).trans (C d e m),Uy p f.size,f.tape.trans D,f.os.trans E,f.output.trans G⟩
def Tb(v0 v1:U)(m:Nat)(h:2<=m):Knows ⟨#[v0,v1]++U3 (m-2) Vk,[]⟩ m [(0,v0),(1,v1)]:=by
 have e:∀b v,(#[v0,v1]:Array U)[b]? =I v->aW ⟨#[v0,v1]++U3 (m-2) Vk,[]⟩ b=v:=λb v d=>by
  unfold aW;rw[UD,Array.getElem?_append_left (Ub.1 d).1,d];rfl
 refine Knows.cons (Knows.cons (l:=[]) ⟨?_,λs v f=>by simp at f⟩ (e 1 v1 Y)) (e 0 v0 Y);simp;omega
def LN{r:List aE}(v:Cd[i0]? =I o0)(k:tQ S O w)(C:μ c=I (r.map aE.agg))(x:r.length<=N)(m:N<=1000000)
 (u:∀j w' g,w.heap.size<=g->Row w' g N r->j g->Li S O j w w'->ku (aB T4) T4 Post S j (gd μ c K) (Ug (b0.at (a0.put o0.dst (.slice (I ⟨g,0,K⟩) r.length N)) (.inRegion Cd Bb::k0)) cs) w'):
 ku (aB T4) T4 Post S O μ (Ug (UY T4 117 #[.chan (I c),.int .i64 (N:Int)] .normal) (b0.at a0 (.inRegion Cd (i0::Bb)::k0)::cs)) w:=by
 have b:=dS (aB T4) T4 Post S μ;obtain⟨D,s,B,z,o⟩:=xA;rw[enter_at _ Tryz.func117 Y];have d:=Tb (.chan (I c)) (.int .i64 (N:Int)) 18 (by decide);refine aS b ?_;refine bq b [0] Y ?_;refine m0 b d aO λd=>?_;refine ak b ?_;refine aS b ?_;refine bq b [0,1,2] Y ?_;refine cH b d λd=>?_;refine mB b k (by decide) Y Y (.cells (madeCells (Value.agg #[.bool T7,.int .i64 0,.string ⟨#[]⟩]).cells (N*D.size)) 59) trivial (λE=>.slice (I ⟨E,0,K⟩) 0 N) (Cb (L:=0) Y Y (d.of Y) Wz s B (UE _) (by rw[o];omega) (by omega)) λg F l A hrel n=>?_;replace d:=d.put (d:=8) (by decide) (.slice (I ⟨g,0,K⟩) 0 N);refine gX b d λd=>?_;refine ak b ?_;refine aS b ?_;refine aS b ?_;refine bq b [0] Y ?_;refine cH b d λd=>?_;refine ak b ?_;refine gB b ?_;refine ue b ?_;have q:=k.new l A;refine Jg (g:=g) (N:=N) v m r [] _ F _ μ ⟨(d.nil.cons (d.slot 5 _ Y)).cons (d.slot 9 _ Y),by simp only[put_defers],q,.inr Y,⟨⟨_,n,by rw[size_madeCells,z],rfl⟩,UE _⟩⟩ C (by simpa using x) λj w' y p t i=>?_;refine u j w' g l y p ⟨λe f=>i.sub e (.inl f),λe f=>?_,⟨λe f=>?_,?_,i.tape.trans hrel.tape,i.os.trans hrel.os,i.output.trans hrel.output⟩,t⟩
 ·rcases i.new e f with(h|rfl)|h
  ·exact .inl h
  ·exact .inr l
  ·exact .inr (Uy hrel.size h)
 ·have:=k e f;rw[i.at_ e (f.imp (λh=>h) (λh=>.inl h)) (by omega),hrel.at_ e f]
 ·exact Uy hrel.size i.size
end
end Cc
namespace Cc
open Go Go.Conc
open Ec (aE aH)
open Go.RowKit (Below)
structure Fj(S:Nat->Prop)(w0:F)(s:Nat->ByteArray)(k e:Nat->Int)(N cb n kb nk eb ne wb:Nat)(ws:List Bool)(V:Nat->List aE):Prop where
 sz:∀b,S b->b<w0.heap.size
 sin:∀j,ws[j]? =I Z->tS S w0 (s j) (k j) (e j) cb n kb nk eb ne j/\(s j).size<=Uq/\pp (s j) (k j) (e j) (N:Int) (V j)
 wl:wb<w0.heap.size
 wc:∀j y,ws[j]? =I y->aM w0 wb (0+j*1) (.bool y)
 nn:N<=1000000
 mm:ws.length<=1000000
 pos:1<=w0.heap.size
def eE (ws:List Bool)(ch:Nat->Nat)(i:Nat):List U:=(UK ws.length).map λb=>if b<i/\ws[b]? =I Z then .chan (I (ch b)) else .chan K
def dR(ws:List Bool)(ch:Nat->Nat)(i:Nat):(eE ws ch i).length=ws.length:=by simp[eE]
def mE{ws:List Bool}{ch:Nat->Nat}{i j:Nat}(b:j<ws.length):(eE ws ch i)[j]? =I (if j<i/\ws[j]? =I Z then .chan (I (ch j)) else .chan K):=by
 simp[eE,b]
structure q9(S O:Nat->Prop)(w0 w:F)(N cb n cap kb nk ck eb ne ce:Nat)(x:U)(bb fb:Nat):Prop where
 Hz:aP w0 w
 low:∀b,b<w0.heap.size->S b\/O b
 inr:tQ S O w
 rj:∀b,S b->¬O b
 ob:O bb
 of:O fb
 lb:w0.heap.size<=bb
 lf:w0.heap.size<=fb
 hb:w.heap[bb]? =I (.cells #[.int .i64 (N:Int),.slice (I ⟨cb,0,K⟩) n cap] 139 (0,0))
 hf:w.heap[fb]? =I (.cells #[.slice (I ⟨kb,0,K⟩) nk ck,.slice (I ⟨eb,0,K⟩) ne ce,x] 105 (0,0))
structure R9(O:Nat->Prop)(w:F)(ws:List Bool)(V:Nat->List aE)(ch:Nat->Nat)(p q:Nat)(μ:Nat->Option (List U)):Prop where
 mu:∀j,p<=j->j<q->ws[j]? =I Z->μ (ch j)=I ((V j).map aE.agg)
 no:∀c,μ c≠K->∃j,p<=j/\j<q/\ws[j]? =I Z/\ch j=c
 inj:∀j j',j<q->j'<q->ws[j]? =I Z->ws[j']? =I Z->ch j=ch j'->j=j'
 lt:∀j,j<q->ws[j]? =I Z->ch j<w.heap.size
section
variable {S O:Nat->Prop}{w0 w w':F}{s:Nat->ByteArray}{k e:Nat->Int}{N cb n cap kb nk ck eb ne ce wb gU:Nat}{x:U}{ws:List Bool}{V:Nat->List aE}{ch:Nat->Nat}{bb fb cS i:Nat}{μ:Nat->Option (List U)}{a:V6}{Post:U->F->Prop}{cs:List Ut}
def q9.rel(h:q9 S O w0 w N cb n cap kb nk ck eb ne ce x bb fb){d:Nat->Prop}(g:∀b,S b\/O b->w0.heap.size<=b->(b=bb\/b=fb)->w'.heap[b]? =w.heap[b]?)(m:∀b,b<w0.heap.size->w'.heap[b]? =w.heap[b]?)(q:w.heap.size<=w'.heap.size)(r:w'.tape=w.tape)(o:w'.os=w.os)(p:w'.output=w.output)(l:tQ S d w')(f:∀b,O b->b<w0.heap.size\/b=bb\/b=fb->d b)(j:∀b,S b->¬d b):q9 S d w0 w' N cb n cap kb nk ck eb ne ce x bb fb:=
 ⟨⟨o.trans h.Hz.os,r.trans h.Hz.tape,p.trans h.Hz.output,Uy h.Hz.size q,λb c=>(m b c).trans (h.Hz.block b c)⟩,λb c=>(h.low b c).imp (λh=>h) (λh=>f b h (.inl c)),l,j,f bb h.ob (.inr (.inl Y)),f fb h.of (.inr (.inr Y)),h.lb,h.lf,(g bb (.inr h.ob) h.lb (.inl Y)).trans h.hb,(g fb (.inr h.of) h.lf (.inr Y)).trans h.hf⟩
def q9.new(h:q9 S O w0 w N cb n cap kb nk ck eb ne ce x bb fb){f:Nat}(g:w.heap.size<=f)(l:w'.heap.size=f+1)(d:RelB (λb=>S b\/O b) w w'):q9 S (λb=>O b\/b=f) w0 w' N cb n cap kb nk ck eb ne ce x bb fb:=
 h.rel (λb c _ _=>d.at_ b c) (λb c=>d.at_ b (h.low b c)) d.size d.tape d.os d.output (h.inr.new g l) (λb c _=>.inl c) (λb c j=>j.elim (h.rj b c) (λe=>by have:=h.inr b (.inl c);omega))
def q9.set(h:q9 S O w0 w N cb n cap kb nk ck eb ne ce x bb fb){f:Nat}{l:Obj}(b:zW S O f l w w')(h1:f≠bb)(g:f≠fb)(m:w0.heap.size<=f):q9 S O w0 w' N cb n cap kb nk ck eb ne ce x bb fb:=
 h.rel (λc d _ j=>b.at_ c d (by rcases j with rfl|rfl;exact λe=>h1 e.symm;exact λe=>g e.symm)) (λc d=>b.at_ c (h.low c d) (by omega)) b.size b.tape b.os b.output (h.inr.set b) (λc d _=>d) h.rj
end
def AU (fn:WC):Array Vu:=match dw fn with
 | .seq _ (.seq _ (.seq (.block _ (.seq _ (.seq _ (.cond _ (.seq _ (.region _ b _)) _)))) _))=>b
 |_=> #[]
def S8 (cS fb bb i c N cb n cap kb nk ck eb ne ce m:Nat)(x:U):List (Nat×U):=
 [(29,.slice (I ⟨cS,0,K⟩) m m),(30,.int .i64 (i:Int)),(31,.pointer (I ⟨cS,0+i*1,K⟩)),(32,.chan (I c)),(33,o4 (N:Int) cb n cap),(34,o6 kb nk ck eb ne ce x),(35,.int .i64 (i:Int))]
def S7:List Nat:=[29,30,31,32,33,34,35]
def Ic:gE (AU U2) (λi=>decide (i<7)) 7 73 S7=Z:=by kernel_rfl
def OW:((UK (AU U2).size).all λi=> !(λi=>decide (i<=7)) i||i==7||(under (AU U2) (AU U2).size (match (AU U2)[7]? with
 |some o=>(o.after.toList.filter λe=>Vn .any e).map (·.on)
 |none=>[])).contains i)=Z:=by kernel_rfl
def nW:(T4.info? 139).map (·.size)=I 2:=by kernel_rfl
def AS:(T4.info? 105).map (·.size)=I 3:=by kernel_rfl
def Jd:(T4.info? 193).map (·.size)=I 1:=by kernel_rfl
section
variable {S O:Nat->Prop}{w0 w w':F}{s:Nat->ByteArray}{k e:Nat->Int}{N cb n cap kb nk ck eb ne ce wb gU:Nat}{x:U}{ws:List Bool}{V:Nat->List aE}{ch:Nat->Nat}{bb fb cS i:Nat}{μ:Nat->Option (List U)}{a:V6}{Post:U->F->Prop}{cs:List Ut}
structure IV(S O:Nat->Prop)(w0 w:F)(N cb n cap kb nk ck eb ne ce:Nat)(x:U)(wb gU:Nat)(ws:List Bool)(V:Nat->List aE)(ch:Nat->Nat)(bb fb cS i:Nat)(μ:Nat->Option (List U))(a:V6):Prop where
 kn:Knows a 73 [(16,.int .i64 (i:Int)),(15,.int .i64 (ws.length:Int)),(8,.slice (I ⟨cS,0,K⟩) ws.length ws.length),(4,.pointer (I ⟨fb,0,K⟩)),(3,.pointer (I ⟨bb,0,K⟩)),(2,.slice (I ⟨wb,0,K⟩) ws.length gU)]
 df:a.defers=[]
 own:q9 S O w0 w N cb n cap kb nk ck eb ne ce x bb fb
 oc:O cS
 lc:w0.heap.size<=cS
 cb:cS≠bb
 cf:cS≠fb
 hc:w.heap[cS]? =I (.cells (eE ws ch i).toArray 193 (0,0))
 TK:R9 O w ws V ch 0 i μ
def BN(h:ws[i]? ≠I Z):eE ws ch (i+1)=eE ws ch i:=by
 unfold eE;refine List.map_congr_left λb f=>?_;by_cases e:b=i
 ·subst e;simp[h]
 ·have:(b<i+1/\ws[b]? =I Z)↔(b<i/\ws[b]? =I Z):=by
   constructor
   ·rintro⟨d,c⟩;exact⟨by omega,c⟩
   ·rintro⟨d,c⟩;exact⟨by omega,c⟩
  simp only[this]
def Dw(h:ws[i]? =I Z)(c:Nat):(eE ws ch i).take i++[Value.chan (I c)]++(eE ws ch i).drop (i+1)=eE ws (λj=>if j=i then c else ch j) (i+1):=by
 have m:i<ws.length:=(UA.1 h).1;apply List.ext_getElem?;intro j;rcases Vy j ws.length with b|b
 ·rw[mE b];rcases Nat.lt_trichotomy j i with d|d|d
  ·rw[UC,Vw (by simp[dR];omega),V8,if_pos d,mE b];have e:(j<i+1/\ws[j]? =I Z)↔(j<i/\ws[j]? =I Z):=⟨λh=>⟨d,h.2⟩,λh=>⟨by omega,h.2⟩⟩;have f:¬j=i:=by omega
   simp only[e,f,if_false]
  ·subst d;rw[UC,Vo (by simp[dR];omega)];simp[dR,h,Nat.min_eq_left (Nat.le_of_lt b)]
  ·rw[Vo (by simp[dR];omega)];have g:i+1+(j-(min i ws.length+1))=j:=by omega
   simp only[Ua,Vs,dR,VI,XH,List.getElem?_drop,g,mE b];have f:¬(j<i):=by omega
   have l:¬(j<i+1):=by omega
   simp only[f,l,false_and,if_false]
 ·rw[List.getElem?_eq_none (by simp[dR];omega),List.getElem?_eq_none (by rw[dR];exact b)]
def go_skip(j:Fj S w0 s k e N cb n kb nk eb ne wb ws V)(h:IV S O w0 w N cb n cap kb nk ck eb ne ce x wb gU ws V ch bb fb cS i μ a)(o:ws[i]? =I T7)
 (G:∀a',IV S O w0 w N cb n cap kb nk ck eb ne ce x wb gU ws V ch bb fb cS (i+1) μ a'->ku (aB T4) T4 Post S O μ (Ug ((base 78).at a' [.code (dw U2),.inLoop (dw U2),.inBlock 0,.code (gV U2)]) cs) w):
 ku (aB T4) T4 Post S O μ (Ug ((base 78).at a [.code (dw U2),.inLoop (dw U2),.inBlock 0,.code (gV U2)]) cs) w:=by
 obtain⟨b,D,p,L,H,B,C,F,l⟩:=h;have c:=dS (aB T4) T4 Post S μ;have J:i<ws.length:=(UA.1 o).1;have P:=j.mm;refine aS c ?_;refine bq c [0] Y ?_;refine dD c b Y (.bool Z) (jx Y (b.of Y) (b.of Y) (by simp;omega)) λb=>?_;refine ak c ?_;refine aS c ?_;refine dn c Z (b.of Y) ?_;refine ij c ?_;refine aS c ?_;refine gB c ?_;refine aS c ?_;refine bq c [0,1] Y ?_;refine cH c b λb=>?_;refine gX c b λb=>?_;refine ak c ?_;refine aS c ?_;refine bq c [0,1,2,3] Y ?_;refine cH c b λb=>?_;refine cH c b λb=>?_;refine dD c b Y (.pointer (I ⟨wb,0+i*1,K⟩)) (fH Y (b.of Y) (b.of Y) WG Tryz.sizeOf4 J) λb=>?_;refine rf c b Y (.bool T7) (bZ Y (b.of Y) Tryz.isAgg4 (p.low wb j.wl) ((p.Hz.cell (p:=⟨wb,0+i*1,K⟩) j.wl).trans (j.wc i _ o))) λb=>?_;refine ak c ?_;refine dn c T7 (b.of Y) ?_;refine ij c ?_;refine iJ c ?_;refine bq c [0,1] Y ?_;refine dD c b Y (.int .i64 ((i+1:Nat):Int)) (nO (j:=1) Y (b.of Y) Y (by omega)) λb=>?_;refine cH c b λb=>?_;refine ak c ?_;refine kV c ?_;have g:ws[i]? ≠I Z:=by rw[o];simp
 refine G _ ⟨(((((b.nil.cons (b.slot 2 _ Y)).cons (b.slot 3 _ Y)).cons (b.slot 4 _ Y)).cons (b.slot 8 _ Y)).cons (b.slot 15 _ Y)).cons (b.slot 16 _ Y),by simp only[put_defers];exact D,p,L,H,B,C,by rw[BN g];exact F,⟨λd v q f=>?_,λu A=>?_,λd t q M f r E=>?_,λd q f=>?_⟩⟩
 ·exact l.mu d v (by rcases Vy d i with h|h;exact h;have:d=i:=(by omega);subst this;exact absurd f g) f
 ·obtain⟨d,m,y,z⟩:=l.no u A;exact⟨d,m,by omega,z⟩
 ·have m:d≠i:=λe=>g (e▸f);have y:t≠i:=λe=>g (e▸r);exact l.inj d t (by omega) (by omega) f r E
 ·have m:d≠i:=λe=>g (e▸f);exact l.lt d (by omega) f
end
section
variable {S O:Nat->Prop}{w0 w w':F}{s:Nat->ByteArray}{k e:Nat->Int}{N cb n cap kb nk ck eb ne ce wb gU:Nat}{x:U}{ws:List Bool}{V:Nat->List aE}{ch:Nat->Nat}{bb fb cS i:Nat}{μ:Nat->Option (List U)}{a:V6}{Post:U->F->Prop}{cs:List Ut}{kk:List WM}
def go_region{c:Nat}{l0:List (Nat×U)}(t:Fj S w0 s k e N cb n kb nk eb ne wb ws V)(z:ws[i]? =I Z)
 (q:Knows a 73 ((9,.int .i64 (i:Int))::(8,.slice (I ⟨cS,0,K⟩) ws.length ws.length)::(4,.pointer (I ⟨fb,0,K⟩))::(3,.pointer (I ⟨bb,0,K⟩))::l0))
 (m:q9 S O w0 w N cb n cap kb nk ck eb ne ce x bb fb) (aa:O cS) (P:O c) (Q:aM w cS (0+i*1) (.chan (I c))) (ae:μ c=K) (R:w.heap[c]? =I (.chan N #[] T7 0 0 T7))
 (T:∀a',Knows a' 73 (S8 cS fb bb i c N cb n cap kb nk ck eb ne ce ws.length x++((9,.int .i64 (i:Int))::(8,.slice (I ⟨cS,0,K⟩) ws.length ws.length)::(4,.pointer (I ⟨fb,0,K⟩))::(3,.pointer (I ⟨bb,0,K⟩))::l0))->a'.defers=a.defers->
   ku (aB T4) T4 Post S (λb=>O b/\b≠c) (gd μ c (I ((V i).map aE.agg))) (Ug ((base 78).at a' kk) cs) w):
 ku (aB T4) T4 Post S O μ (Ug ((base 78).at a (.code (.region 7 (AU U2) Z)::kk)) cs) w:=by
 have u:=dS (aB T4) T4 Post S μ;have W:i<ws.length:=(UA.1 z).1;have H:w.rangeAt bb 0 [VY .i64 (N:Int),.slice (I ⟨cb,0,K⟩) n cap]:=λd v l=>by unfold Us;simp only[m.hb];rw[UT];simpa using l
 have J:w.rangeAt fb 0 [Vg (I ⟨kb,0,K⟩) nk ck,.slice (I ⟨eb,0,K⟩) ne ce,x]:=λd v l=>by unfold Us;simp only[m.hf];rw[UT];simpa using l
 refine qC (Ph:=λi=>decide (i<7)) (l:=S8 cS fb bb i c N cb n cap kb nk ck eb ne ce ws.length x) u q7 ?_;refine kM (u:=7) u (by decide) q Ic ?_ ?_ ?_
 ·intro f d j ab _ _ g;have l:d<7:=by simpa using ab
  have:d=0\/d=1\/d=2\/d=3\/d=4\/d=5\/d=6:=by omega
  rcases this with rfl|rfl|rfl|rfl|rfl|rfl|rfl
  ·cases(show I _=I j from g);exact⟨_,rfl,.inl ⟨rfl,cz (cj Y (f.of Y))⟩⟩
  ·cases(show I _=I j from g);exact⟨_,rfl,.inl ⟨rfl,cz (cj Y (f.of Y))⟩⟩
  ·cases(show I _=I j from g);exact⟨_,rfl,.inl ⟨rfl,cz (fH Y (f.of Y) (f.of Y) Tryz.underlying192 Tryz.sizeOf193 W)⟩⟩
  ·cases(show I _=I j from g);exact⟨_,rfl,.inl ⟨rfl,bZ Y (f.of Y) Tryz.isAgg193 (.inr aa) Q⟩⟩
  ·cases(show I _=I j from g);exact⟨_,rfl,.inl ⟨rfl,fj (cs:=[VY .i64 (N:Int),.slice (I ⟨cb,0,K⟩) n cap]) Y (f.of Y) V7 Y nW (.inr m.ob) H⟩⟩
  ·cases(show I _=I j from g);exact⟨_,rfl,.inl ⟨rfl,fj (cs:=[Vg (I ⟨kb,0,K⟩) nk ck,.slice (I ⟨eb,0,K⟩) ne ce,x]) Y (f.of Y) Tryz.underlying105 Y AS (.inr m.of) J⟩⟩
  ·cases(show I _=I j from g);exact⟨_,rfl,.inl ⟨rfl,cz (cj Y (f.of Y))⟩⟩
 ·intro j g al ap ao b y A am p _;have f:=q.fill (S8 cS fb bb i c N cb n cap kb nk ck eb ne ce ws.length x) Y;have r:=gG (Dn:=λi=>decide (i<=7)) y A OW (λd l=>by
   have:d<=7:=by simpa using l
   show d<8;omega)
  cases(show I _=I j from g);obtain⟨L,M⟩:=n9 y A rfl q.size Ic (λd l=>r d (by
   have:d<8:=l;simp;omega))
  have D:b.eval (.tmp 32)= .chan (I c):=(p 32 (by decide)).trans (f.slot 32 _ Y);have E:b.eval (.tmp 33)=o4 (N:Int) cb n cap:=(p 33 (by decide)).trans (f.slot 33 _ Y);have F:b.eval (.tmp 34)=o6 kb nk ck eb ne ce x:=(p 34 (by decide)).trans (f.slot 34 _ Y);have G:b.eval (.tmp 35)= .int .i64 (i:Int):=(p 35 (by decide)).trans (f.slot 35 _ Y);obtain⟨ad,X,C⟩:=t.sin i z;refine Pe (args:= #[.chan (I c),o4 (N:Int) cb n cap,o6 kb nk ck eb ne ce x,.int .i64 (i:Int)]) (vs:=(V i).map aE.agg) (cap:=N) (by decide) g Y Y (by simp only[List.map_toArray,Xw,List.map_nil,D,E,F,G]) P ?_ ae R (λaq B=>?_) ?_
  ·rw[UG];rcases C.len with h|h
   ·omega
   ·rw[h];exact UE _
  ·refine Nz C X ⟨λb o=>⟨Ud (m.inr b (.inl o)) B.size,λh=>h⟩,λb h=>h.elim⟩ (ad.rel λb o=>?_);rw[B.at_ b (.inl o)];exact m.Hz.block b (t.sz b o)
  ·rw[M];show ku _ _ Post S _ _ (Ug ((base 78).at b _) cs) w;rw[L];exact ak (dS (aB T4) T4 Post S _) (T _ f (ez _ _))
 ·intro r;exact absurd (r 7 (by decide)) (by decide)
def go_round(r:Fj S w0 s k e N cb n kb nk eb ne wb ws V)(h:IV S O w0 w N cb n cap kb nk ck eb ne ce x wb gU ws V ch bb fb cS i μ a)(t:ws[i]? =I Z)
 (aw:∀F w' a' W U,IV S F w0 w' N cb n cap kb nk ck eb ne ce x wb gU ws V W bb fb cS (i+1) U a'->ku (aB T4) T4 Post S F U (Ug ((base 78).at a' [.code (dw U2),.inLoop (dw U2),.inBlock 0,.code (gV U2)]) cs) w'):
 ku (aB T4) T4 Post S O μ (Ug ((base 78).at a [.code (dw U2),.inLoop (dw U2),.inBlock 0,.code (gV U2)]) cs) w:=by
 obtain⟨b,ap,j,u,M,H,J,ar,l⟩:=h;have c:=dS (aB T4) T4 Post S μ;have D:i<ws.length:=(UA.1 t).1;have bc:=r.mm;have bd:=r.nn;obtain⟨bi,av,_,_,am⟩:=xA;refine aS c ?_;refine bq c [0] Y ?_;refine dD c b Y (.bool Z) (jx Y (b.of Y) (b.of Y) (by simp;omega)) λb=>?_;refine ak c ?_;refine aS c ?_;refine dn c Z (b.of Y) ?_;refine ij c ?_;refine aS c ?_;refine gB c ?_;refine aS c ?_;refine bq c [0,1] Y ?_;refine cH c b λb=>?_;refine gX c b λb=>?_;refine ak c ?_;refine aS c ?_;refine bq c [0,1,2,3] Y ?_;refine cH c b λb=>?_;refine cH c b λb=>?_;refine dD c b Y (.pointer (I ⟨wb,0+i*1,K⟩)) (fH Y (b.of Y) (b.of Y) WG Tryz.sizeOf4 D) λb=>?_;refine rf c b Y (.bool Z) (bZ Y (b.of Y) Tryz.isAgg4 (j.low wb r.wl) ((j.Hz.cell (p:=⟨wb,0+i*1,K⟩) r.wl).trans (r.wc i _ t))) λb=>?_;refine ak c ?_;refine dn c Z (b.of Y) ?_;refine aS c ?_;refine bq c [0,1,2,3,4,5,6] Y ?_;refine cH c b λb=>?_;refine cH c b λb=>?_;refine dD c b Y (.pointer (I ⟨bb,0,K⟩)) (dj (off':=0) Y (b.of Y) V7 Y X5 Y) λb=>?_;refine rf c b Y (.int .i64 (N:Int)) (bZ Y (b.of Y) Yv (.inr j.ob) (by unfold Us;simp only[j.hb];rfl)) λb=>?_;refine mB c j.inr (by decide) Y Y (.chan N #[] T7 0 0 T7) trivial (λn=>.chan (I n)) (Eg Y (b.of Y) Tryz.underlying193 av (by omega) (by rw[am];omega)) λf bm a0 a3 hrel al=>?_;replace b:=b.put (d:=27) (by decide) (.chan (I f));have P:=j.new a0 a3 hrel;refine dD c b Y (.pointer (I ⟨cS,0+i*1,K⟩)) (fH Y (b.of Y) (b.of Y) Tryz.underlying192 Tryz.sizeOf193 D) λb=>?_;have a9:=j.inr cS (.inr u);have L:f≠cS:=by omega
 have X:(eE ws ch i).toArray.toList.take (0+i*1)++(Value.chan (I f)).cells.toList++(eE ws ch i).toArray.toList.drop (0+i*1+(Value.chan (I f)).cells.size)=eE ws (λd=>if d=i then f else ch d) (i+1):=by
  rw[<-Dw t f];simp[WH]
 refine r9 c P.inr (n:=cS) (by decide) Y Y (.inl u) (.cells ((eE ws ch i).toArray.toList.take (0+i*1)++(Value.chan (I f)).cells.toList++(eE ws ch i).toArray.toList.drop (0+i*1+(Value.chan (I f)).cells.size)).toArray 193) trivial (kZ (n:=cS) (off:=0+i*1) (v:=.chan (I f)) Y (b.of Y) (b.of Y) Jd (λbl Q=>by simp[WH] at Q;rw[Q];rfl) (Or.inr (Or.inl u)) ((hrel.at_ cS (.inr u)).trans ar) (by
  show 0+i*1+1<=(eE ws ch i).length;rw[dR];omega)) λT v=>?_
 rw[X] at v;replace b:=b.none Vk;have A:=P.set v H J M;refine ak c ?_;have ao:T.heap[f]? =I (.chan N #[] T7 0 0 T7):=(v.at_ f (.inr (.inr Y)) L).trans al;have a4:μ f=K:=by
  cases az:μ f with
  |none=>rfl
  |some bj=>
   obtain⟨d,_,z,m,y⟩:=l.no f (by rw[az];simp);have:=l.lt d z m;omega
 have be:=v.size;refine go_region (c:=f) (l0:=[(16,.int .i64 (i:Int)),(15,.int .i64 (ws.length:Int)),(2,.slice (I ⟨wb,0,K⟩) ws.length gU)]) r t ((((((((b.nil.cons (b.slot 2 _ Y)).cons (b.slot 15 _ Y)).cons (b.slot 16 _ Y)).cons (b.slot 3 _ Y)).cons (b.slot 4 _ Y)).cons (b.slot 8 _ Y)).cons (b.slot 9 _ Y))) A (.inl u) (.inr Y) ?_ a4 ao λa' g aq=>?_
 ·unfold Us;rw[v.set];simp only[UT,Nat.mul_one];have:=mE (ws:=ws) (ch:=λd=>if d=i then f else ch d) (i:=i+1) D;simp[t] at this;simpa using this
 ·have c:=dS (aB T4) T4 Post S (gd μ f (I ((V i).map aE.agg)));refine iJ c ?_;refine bq c [0,1] Y ?_;refine dD c g Y (.int .i64 ((i+1:Nat):Int)) (nO (j:=1) Y (g.of Y) Y (by omega)) λg=>?_;refine cH c g λg=>?_;refine ak c ?_;refine kV c ?_;refine aw _ T _ (λd=>if d=i then f else ch d) _ ⟨(((((g.nil.cons (g.slot 2 _ Y)).cons (g.slot 3 _ Y)).cons (g.slot 4 _ Y)).cons (g.slot 8 _ Y)).cons (g.slot 15 _ Y)).cons (g.slot 16 _ Y),by simp only[put_defers];rw[aq];simp only[put_defers];exact ap,?_,⟨.inl u,λe=>L e.symm⟩,M,H,J,v.set,⟨λd aa z m=>?_,λG C=>?_,λd E z ba m R y=>?_,λd z m=>?_⟩⟩
  ·have a5:=j.inr bb (.inr j.ob);have a6:=j.inr fb (.inr j.of);have a7:=j.Hz.size;exact A.rel (λp o _ _=>rfl) (λp o=>rfl) (T8 _) rfl rfl rfl (λp o=>A.inr p (o.imp (λh=>h) (λh=>h.1))) (λp o h=>⟨o,by rcases h with h|rfl|rfl<;>omega⟩) (λp o a2=>A.rj p o a2.1)
  ·by_cases e:d=i
   ·subst e;simp[gd]
   ·have:=l.lt d (by omega) m;have a1:ch d≠f:=by omega
    simp only[if_neg e,gd,a1,if_false];exact l.mu d aa (by omega) m
  ·by_cases e:G=f
   ·subst e;exact⟨i,UE _,by omega,t,by simp⟩
   ·unfold gd at C;rw[if_neg e] at C;obtain⟨d,ab,a8,ad,ae⟩:=l.no G C;exact⟨d,ab,by omega,ad,by rw[if_neg (by omega)];exact ae⟩
  ·by_cases q:d=i<;>by_cases B:E=i
   ·omega
   ·rw[if_pos q,if_neg B] at y;have:=l.lt E (by omega) R;omega
   ·rw[if_neg q,if_pos B] at y;have:=l.lt d (by omega) m;omega
   ·rw[if_neg q,if_neg B] at y;exact l.inj d E (by omega) (by omega) m R y
  ·by_cases q:d=i
   ·rw[if_pos q];omega
   ·rw[if_neg q];have:=l.lt d (by omega) m;omega
end
def fq (ws:List Bool)(g:Nat->Nat)(V:Nat->List aE)(N:Nat)(i:Nat):List U:=(UK ws.length).map λa=>if a<i/\ws[a]? =I Z then .slice (I ⟨g a,0,K⟩) (V a).length N else aO
def dW(ws:List Bool)(g:Nat->Nat)(V:Nat->List aE)(N:Nat)(i:Nat):(fq ws g V N i).length=ws.length:=by simp[fq]
def mK{ws:List Bool}{g:Nat->Nat}{V:Nat->List aE}{N:Nat}{i j:Nat}(a:j<ws.length):(fq ws g V N i)[j]? =I (if j<i/\ws[j]? =I Z then .slice (I ⟨g j,0,K⟩) (V j).length N else aO):=by
 simp[fq,a]
section
variable {ws:List Bool}{g:Nat->Nat}{V:Nat->List aE}{N i:Nat}
def B8(h:ws[i]? ≠I Z):fq ws g V N (i+1)=fq ws g V N i:=by
 unfold fq;refine List.map_congr_left λa e=>?_;by_cases c:a=i
 ·subst c;simp[h]
 ·have:(a<i+1/\ws[a]? =I Z)↔(a<i/\ws[a]? =I Z):=by
   constructor
   ·rintro⟨d,b⟩;exact⟨by omega,b⟩
   ·rintro⟨d,b⟩;exact⟨by omega,b⟩
  simp only[this]
def D4(h:ws[i]? =I Z)(c:Nat):(fq ws g V N i).take i++[Vg (I ⟨c,0,K⟩) (V i).length N]++(fq ws g V N i).drop (i+1)=fq ws (λj=>if j=i then c else g j) V N (i+1):=by
 have l:i<ws.length:=(UA.1 h).1;apply List.ext_getElem?;intro j;rcases Vy j ws.length with a|a
 ·rw[mK a];rcases Nat.lt_trichotomy j i with b|b|b
  ·rw[UC,Vw (by simp[dW];omega),V8,if_pos b,mK a];have e:(j<i+1/\ws[j]? =I Z)↔(j<i/\ws[j]? =I Z):=⟨λh=>⟨b,h.2⟩,λh=>⟨by omega,h.2⟩⟩;have d:¬j=i:=by omega
   simp only[e,d,if_false]
  ·subst b;rw[UC,Vo (by simp[dW];omega)];simp[dW,h,Nat.min_eq_left (Nat.le_of_lt a)]
  ·rw[Vo (by simp[dW];omega)];have f:i+1+(j-(min i ws.length+1))=j:=by omega
   simp only[Ua,Vs,dW,VI,XH,List.getElem?_drop,f,mK a];have d:¬(j<i):=by omega
   have k:¬(j<i+1):=by omega
   simp only[d,k,false_and,if_false]
 ·rw[List.getElem?_eq_none (by simp[dW];omega),List.getElem?_eq_none (by rw[dW];exact a)]
end
def nl (fn:WC):WV:=match gV fn with
 | .seq _ (.seq _ (.seq (.seq _ (.block _ (.loop a))) _))=>a
 |_=>.skip
def FX (fn:WC):WV:=match gV fn with
 | .seq _ (.seq _ (.seq _ a))=>a
 |_=>.skip
def gC (fn:WC):Array Vu:=match nl fn with
 | .seq _ (.seq _ (.seq (.block _ (.seq _ (.seq _ (.cond _ (.seq (.region _ a _) _) _)))) _))=>a
 |_=> #[]
def yI (fn:WC):Array Vu:=match nl fn with
 | .seq _ (.seq _ (.seq (.block _ (.seq _ (.seq _ (.cond _ (.seq _ (.region _ a _)) _)))) _))=>a
 |_=> #[]
def LH:List Nat:=[49,50,51,52,53,54,55,56]
def AH (lb cS bb i c N m:Nat):List (Nat×U):=[(49,.slice (I ⟨lb,0,K⟩) m m),(50,.int .i64 (i:Int)),(51,.slice (I ⟨cS,0,K⟩) m m),(52,.int .i64 (i:Int)),(53,.pointer (I ⟨cS,0+i*1,K⟩)),(54,.chan (I c)),(55,.pointer (I ⟨bb,0,K⟩)),(56,.int .i64 (N:Int))]
def Dq (lb gn len i N:Nat):List (Nat×U):=[(57,.slice (I ⟨gn,0,K⟩) len N),(58,.pointer (I ⟨lb,0+i*1,K⟩))]
def AI:gE (gC U2) (λi=>decide (i<8)) 8 73 LH=Z:=by kernel_rfl
def AJ:gE (gC U2) (λi=>decide (i<10)) 10 73 ([57,58]++LH)=Z:=by kernel_rfl
def LI:((UK (gC U2).size).all λi=> !(λi=>decide (i<8)) i||match jf (gC U2) i with|some d=> !([57,58]:List Nat).contains d|none=>Z)=Z:=by kernel_rfl
def FF:((UK (gC U2).size).all λi=> !(λi=>decide (2<=i/\i<=8)) i||i==8||(under (gC U2) (gC U2).size (match (gC U2)[8]? with
 |some o=>(o.after.toList.filter λe=>Vn .any e).map (·.on)
 |none=>[])).contains i)=Z:=by kernel_rfl
def FG:((UK (gC U2).size).all λi=> !(λi=>decide (i<=10)) i||i==10||(under (gC U2) 3 (match (gC U2)[10]? with
 |some o=>(o.after.toList.filter λe=>Vn .any e).map (·.on)
 |none=>[])).contains i)=Z:=by kernel_rfl
def K4:(XP.name == "runtime.NumGoroutine")=T7:=by kernel_rfl
def JO:(T4.info? 43).map (·.size)=I 1:=by kernel_rfl
section
variable {S O:Nat->Prop}{w0 w w':F}{s:Nat->ByteArray}{k e:Nat->Int}{N cb n cap kb nk ck eb ne ce wb gU:Nat}{x:U}{ws:List Bool}{V:Nat->List aE}{ch:Nat->Nat}{bb fb cS lb i:Nat}{μ:Nat->Option (List U)}{a:V6}{Post:U->F->Prop}{cs:List Ut}{kk:List WM}
def q9.So(h:q9 S O w0 w N cb n cap kb nk ck eb ne ce x bb fb){f:Nat->Prop}(c:Li S O f w w'):q9 S f w0 w' N cb n cap kb nk ck eb ne ce x bb fb:=
 h.rel (λb d _ _=>c.rel.at_ b d) (λb d=>c.rel.at_ b (h.low b d)) c.rel.size c.rel.tape c.rel.os c.rel.output c.inr (λb d _=>c.sub b d) (λb d g=>(c.new b g).elim (h.rj b d) (λe=>by have:=h.inr b (.inl d);omega))
def Dr{c gn:Nat}{l0:List (Nat×U)}{f:Array U}(M:i<ws.length)
 (p:Knows a 73 ((10,.int .i64 (i:Int))::(8,.slice (I ⟨cS,0,K⟩) ws.length ws.length)::(6,.slice (I ⟨lb,0,K⟩) ws.length ws.length)::(3,.pointer (I ⟨bb,0,K⟩))::l0))
 (H:tQ S O w) (z:O lb) (L:w.heap[lb]? =I (.cells f 43 (0,0))) (G:f.size=ws.length) (len:Nat)
 (m t:Nat) (j:Array Bool) (b:V6) (o:cI (gC U2) (λi=>decide (i<10)) a (fill a (Dq lb gn len i N++AH lb cS bb i c N ws.length)) j b) (u:∀i,(λi=>decide (2<=i/\i<=8)) i=Z->j.getD i T7=Z) (y:E5 j<=m)
 (J:∀w' a',zW S O lb (.cells (f.toList.take i++[Vg (I ⟨gn,0,K⟩) len N]++f.toList.drop (i+1)).toArray 43) w w'->Knows a' 73 (Dq lb gn len i N++AH lb cS bb i c N ws.length++((10,.int .i64 (i:Int))::(8,.slice (I ⟨cS,0,K⟩) ws.length ws.length)::(6,.slice (I ⟨lb,0,K⟩) ws.length ws.length)::(3,.pointer (I ⟨bb,0,K⟩))::l0))->a'.defers=a.defers->
   ku (aB T4) T4 Post S O μ (Ug ((base 78).at a' kk) cs) w'):
 ku (aB T4) T4 Post S O μ (Ug ((base 78).at b (.inRegion (gC U2) (U9 .any (gC U2) m t j [])::kk)) cs) w:=by
 have q:=dS (aB T4) T4 Post S μ;refine kM (Dn:=λi=>decide (2<=i/\i<=8)) (u:=10) q (by decide) p AJ ?_ ?_ ?_ m t j b o u y
 ·intro g d l P u W h;have R:d<10:=by simpa using P
  have T:¬(2<=d/\d<=8):=by simpa using u
  have:d=0\/d=1\/d=9:=by omega
  rcases this with rfl|rfl|rfl
  ·cases(show I _=I l from h);exact⟨_,rfl,.inl ⟨rfl,cz (cj Y (g.of Y))⟩⟩
  ·cases(show I _=I l from h);exact⟨_,rfl,.inl ⟨rfl,cz (cj Y (g.of Y))⟩⟩
  ·cases(show I _=I l from h);exact⟨_,rfl,.inl ⟨rfl,cz (fH Y (g.of Y) (g.of Y) Tryz.underlying26 Tryz.sizeOf43 M)⟩⟩
 ·intro l h m t j b o A y X _;have g:=p.fill (Dq lb gn len i N++AH lb cS bb i c N ws.length) Y;have r:=gG (Dn:=λi=>decide (i<=10)) o A FG (λd v=>by
   have:d<=10:=by simpa using v
   show d<11;omega)
  cases(show I _=I l from h);obtain⟨E,F⟩:=n9 o A rfl p.size AJ (λd v=>r d (by
   have:d<11:=v;simp;omega))
  rw[F];subst E;refine r9 q H (n:=lb) (by decide) h Y z (.cells (f.toList.take (0+i*1)++(Vg (I ⟨gn,0,K⟩) len N).cells.toList++f.toList.drop (0+i*1+(Vg (I ⟨gn,0,K⟩) len N).cells.size)).toArray 43) trivial (kZ (n:=lb) (off:=0+i*1) (v:=.slice (I ⟨gn,0,K⟩) len N) Y (g.of Y) (g.of Y) JO (λaa C=>by simp[WH] at C;rw[C];rfl) (Or.inr z) L (by
   show 0+i*1+1<=f.size;rw[G];omega)) λQ B=>?_
  refine ak q (J Q _ ?_ (g.none Vk) (by rw[put_defers];exact ez _ _));have D:f.toList.take (0+i*1)++(Vg (I ⟨gn,0,K⟩) len N).cells.toList++f.toList.drop (0+i*1+(Vg (I ⟨gn,0,K⟩) len N).cells.size)=f.toList.take i++[Vg (I ⟨gn,0,K⟩) len N]++f.toList.drop (i+1):=by simp[WH]
  rw[D] at B;exact B
 ·intro r;exact absurd (r 10 (by decide)) (by decide)
def Ds{c:Nat}{l0:List (Nat×U)}{o:Array U}(z:Fj S w0 s k e N cb n kb nk eb ne wb ws V)(A:ws[i]? =I Z)
 (m:Knows a 73 ((10,.int .i64 (i:Int))::(8,.slice (I ⟨cS,0,K⟩) ws.length ws.length)::(6,.slice (I ⟨lb,0,K⟩) ws.length ws.length)::(3,.pointer (I ⟨bb,0,K⟩))::l0))
 (v:q9 S O w0 w N cb n cap kb nk ck eb ne ce x bb fb) (am:O cS) (P:aM w cS (0+i*1) (.chan (I c))) (av:μ c=I ((V i).map aE.agg)) (D:O lb) (al:w.heap[lb]? =I (.cells o 43 (0,0))) (Q:o.size=ws.length)
 (ad:∀j l w' gn a',w.heap.size<=gn->Row l gn N (V i)->j gn->Li S O j w l->zW S j lb (.cells (o.toList.take i++[Vg (I ⟨gn,0,K⟩) (V i).length N]++o.toList.drop (i+1)).toArray 43) l w'->Knows a' 73 (Dq lb gn (V i).length i N++AH lb cS bb i c N ws.length++((10,.int .i64 (i:Int))::(8,.slice (I ⟨cS,0,K⟩) ws.length ws.length)::(6,.slice (I ⟨lb,0,K⟩) ws.length ws.length)::(3,.pointer (I ⟨bb,0,K⟩))::l0))->a'.defers=a.defers->
   ku (aB T4) T4 Post S j (gd μ c K) (Ug ((base 78).at a' kk) cs) w'):
 ku (aB T4) T4 Post S O μ (Ug ((base 78).at a (.code (.region 15 (gC U2) Z)::kk)) cs) w:=by
 have t:=dS (aB T4) T4 Post S μ;have C:i<ws.length:=(UA.1 A).1;obtain⟨_,_,aq⟩:=z.sin i A;refine qC (Ph:=λi=>decide (i<8)) (l:=AH lb cS bb i c N ws.length) t q7 ?_;refine kM (u:=8) t (by decide) m AI ?_ ?_ ?_
 ·intro f b g ao _ _ d;have q:b<8:=by simpa using ao
  have:b=0\/b=1\/b=2\/b=3\/b=4\/b=5\/b=6\/b=7:=by omega
  rcases this with rfl|rfl|rfl|rfl|rfl|rfl|rfl|rfl
  ·cases(show I _=I g from d);exact⟨_,rfl,.inl ⟨rfl,cz (cj Y (f.of Y))⟩⟩
  ·cases(show I _=I g from d);exact⟨_,rfl,.inl ⟨rfl,cz (cj Y (f.of Y))⟩⟩
  ·cases(show I _=I g from d);exact⟨_,rfl,.inl ⟨rfl,cz (cj Y (f.of Y))⟩⟩
  ·cases(show I _=I g from d);exact⟨_,rfl,.inl ⟨rfl,cz (cj Y (f.of Y))⟩⟩
  ·cases(show I _=I g from d);exact⟨_,rfl,.inl ⟨rfl,cz (fH Y (f.of Y) (f.of Y) Tryz.underlying192 Tryz.sizeOf193 C)⟩⟩
  ·cases(show I _=I g from d);exact⟨_,rfl,.inl ⟨rfl,bZ Y (f.of Y) Tryz.isAgg193 (.inr am) P⟩⟩
  ·cases(show I _=I g from d);exact⟨_,rfl,.inl ⟨rfl,cz (dj (off':=0) Y (f.of Y) V7 Y X5 Y)⟩⟩
  ·cases(show I _=I g from d);exact⟨_,rfl,.inl ⟨rfl,bZ Y (f.of Y) Yv (.inr v.ob) (by unfold Us;simp only[v.hb];rfl)⟩⟩
 ·intro g d H aw a1 r u y a0 B _;have f:=m.fill (AH lb cS bb i c N ws.length) Y;have W:=gG (Dn:=λi=>decide (2<=i/\i<=8)) u y FF (λb q=>by
   have:2<=b/\b<=8:=by simpa using q
   show b<11;omega)
  cases(show I _=I g from d);have F:r.eval (.tmp 54)= .chan (I c):=(B 54 (by decide)).trans (f.slot 54 _ Y);have G:r.eval (.tmp 56)= .int .i64 (N:Int):=(B 56 (by decide)).trans (f.slot 56 _ Y);refine H6 t (by decide) d Y Y Tryz.func117 K4 Y ?_;have M:(#[Operand.tmp 54,.tmp 56].map r.eval)=#[.chan (I c),.int .i64 (N:Int)]:=by simp only[List.map_toArray,Xw,List.map_nil,F,G]
  rw[M];refine LN (r:=V i) d v.inr av ?_ z.nn λj l gn aa ap J p=>?_
  ·rcases aq.len with h|h
   ·omega
   ·rw[h];exact UE _
  ·have X:=u.Ie (l2:=Dq lb gn (V i).length i N) (Lb:=λi=>decide (i<10)) (n:=73) (v:=.slice (I ⟨gn,0,K⟩) (V i).length N) y d m.size AI Y (λb q=>by
    have:b<8:=by simpa using q
    simp;omega) Y LI (λaz R=>by cases R;rfl)
   refine Dr (gn:=gn) (len:=(V i).length) (c:=c) C m p.inr (p.sub lb D) ((p.rel.at_ lb (.inr D)).trans al) Q H aw _ _ X W ?_ λw' a' ar E T=>ad j l w' gn a' aa ap J p ar E T;obtain⟨_,_,ab,ae,_⟩:=mem_ready y;have:=qY (by rw[u.size];exact ab) ae;omega
 ·intro L;exact absurd (L 10 (by decide)) (by decide)
end
def Rk:List Nat:=[59,60,61,62,63,64,65,66,67,68,69]
def SU (lb bb gn i len N m:Nat):List (Nat×U):=[(59,.bool Z),(60,.bool Z),(61,.slice (I ⟨lb,0,K⟩) m m),(62,.int .i64 (i:Int)),(63,.pointer (I ⟨lb,0+i*1,K⟩)),(64,.slice (I ⟨gn,0,K⟩) len N),(65,.int .i64 (len:Int)),(66,.pointer (I ⟨bb,0,K⟩)),(67,.int .i64 (N:Int)),(68,.bool ((len:Int)==(N:Int))),(69,.bool ((len:Int)==(N:Int)))]
def okF:List (Nat×U):=[(59,.bool T7),(60,.bool T7),(61,Vk),(62,Vk),(63,Vk),(64,Vk),(65,Vk),(66,Vk),(67,Vk),(68,Vk),(69,.bool T7)]
def xw:gE (yI U2) (λi=>decide (i<11)) 11 73 Rk=Z:=by kernel_rfl
def Ed:((UK (yI U2).size).all λi=> !(λi=>decide (i<=11)) i||i==11||(under (yI U2) 1 (match (yI U2)[11]? with
 |some o=>(o.after.toList.filter λe=>Vn .any e).map (·.on)
 |none=>[])).contains i)=Z:=by kernel_rfl
section
variable {S O:Nat->Prop}{w0 w w':F}{s:Nat->ByteArray}{k e:Nat->Int}{N cb n cap kb nk ck eb ne ce wb gU:Nat}{x:U}{ws:List Bool}{V:Nat->List aE}{ch g:Nat->Nat}{bb fb cS lb i gn len:Nat}{μ:Nat->Option (List U)}{a:V6}{Post:U->F->Prop}{cs:List Ut}{kk:List WM}{lA:Bool}
def Ef{l0:List (Nat×U)}(F:i<ws.length)
 (o:Knows a 73 ((7,.bool lA)::(10,.int .i64 (i:Int))::(6,.slice (I ⟨lb,0,K⟩) ws.length ws.length)::(3,.pointer (I ⟨bb,0,K⟩))::l0)) (P:tQ S O w) (J:O lb) (H:O bb) (C:aM w lb (0+i*1) (.slice (I ⟨gn,0,K⟩) len N)) (D:aM w bb 0 (.int .i64 (N:Int)))
 (y:∀a' z,Knows a' 73 ((7,.bool (lA&&((len:Int)==(N:Int))))::(z++((7,.bool lA)::(10,.int .i64 (i:Int))::(6,.slice (I ⟨lb,0,K⟩) ws.length ws.length)::(3,.pointer (I ⟨bb,0,K⟩))::l0)))->z.map (·.1)=Rk->a'.defers=a.defers->
   ku (aB T4) T4 Post S O μ (Ug ((base 78).at a' kk) cs) w):
 ku (aB T4) T4 Post S O μ (Ug ((base 78).at a (.code (.region 16 (yI U2) Z)::kk)) cs) w:=by
 have l:=dS (aB T4) T4 Post S μ;cases lA with
 |true=>
  refine qC (Ph:=λi=>decide (i<11)) (l:=SU lb bb gn i len N ws.length) l q7 ?_;refine kM (u:=11) l (by decide) o xw ?_ ?_ ?_
  ·intro f b c v _ _ d;have j:b<11:=by simpa using v
   have h:∀c:Vu,c.guard=I (1,Z)->UF c (Vj (yI U2) (fill a (SU lb bb gn i len N ws.length)).tmps)=Z:=λc u=>oW (d:=60) (b:=Z) u Y (f.slot 60 _ Y) (by rw[f.size];decide);have:b=0\/b=1\/b=2\/b=3\/b=4\/b=5\/b=6\/b=7\/b=8\/b=9\/b=10:=by omega
   rcases this with rfl|rfl|rfl|rfl|rfl|rfl|rfl|rfl|rfl|rfl|rfl
   ·cases(show I _=I c from d);exact⟨_,rfl,.inl ⟨rfl,cz (cj Y (f.of Y))⟩⟩
   ·cases(show I _=I c from d);exact⟨_,rfl,.inl ⟨rfl,cz (cj Y (f.of Y))⟩⟩
   ·cases(show I _=I c from d);exact⟨_,rfl,.inl ⟨h _ Y,cz (cj Y (f.of Y))⟩⟩
   ·cases(show I _=I c from d);exact⟨_,rfl,.inl ⟨h _ Y,cz (cj Y (f.of Y))⟩⟩
   ·cases(show I _=I c from d);exact⟨_,rfl,.inl ⟨h _ Y,cz (fH Y (f.of Y) (f.of Y) Tryz.underlying26 Tryz.sizeOf43 F)⟩⟩
   ·cases(show I _=I c from d);exact⟨_,rfl,.inl ⟨h _ Y,bZ Y (f.of Y) Tryz.isAgg43 (.inr J) C⟩⟩
   ·cases(show I _=I c from d);exact⟨_,rfl,.inl ⟨h _ Y,cz (sn Y (f.of Y) Wz)⟩⟩
   ·cases(show I _=I c from d);exact⟨_,rfl,.inl ⟨h _ Y,cz (dj (off':=0) Y (f.of Y) V7 Y X5 Y)⟩⟩
   ·cases(show I _=I c from d);exact⟨_,rfl,.inl ⟨h _ Y,bZ Y (f.of Y) Yv (.inr H) D⟩⟩
   ·cases(show I _=I c from d);exact⟨_,rfl,.inl ⟨h _ Y,cz (Ro Y (f.of Y) (f.of Y))⟩⟩
   ·cases(show I _=I c from d);exact⟨_,rfl,.inl ⟨rfl,cz (yM Y (f.of Y) (f.of Y))⟩⟩
  ·intro c d B M L A p q G E _;have f:=o.fill (SU lb bb gn i len N ws.length) Y;have m:=gG (Dn:=λi=>decide (i<=11)) p q Ed (λb j=>by
    have:b<=11:=by simpa using j
    show b<12;omega)
   cases(show I _=I c from d);obtain⟨r,t⟩:=n9 p q rfl o.size xw (λb j=>m b (by
    have:b<12:=j;simp;omega))
   rw[t];subst r;refine mC l (by decide) d Y _ (kF Y (f.of Y)) ?_;refine ak l (y _ (SU lb bb gn i len N ws.length) ?_ Y (by rw[put_defers];exact ez _ _));exact f.put (d:=7) (by decide) (.bool ((len:Int)==(N:Int)))
  ·intro m;exact absurd (m 11 (by decide)) (by decide)
 |false=>
  refine qC (Ph:=λi=>decide (i<11)) (l:=okF) l q7 ?_;refine kM (u:=11) l (by decide) o xw ?_ ?_ ?_
  ·intro f b c v _ _ d;have j:b<11:=by simpa using v
   have h:∀c:Vu,c.guard=I (1,Z)->UF c (Vj (yI U2) (fill a okF).tmps)=T7:=λc u=>oW (d:=60) (b:=T7) u Y (f.slot 60 _ Y) (by rw[f.size];decide);have:b=0\/b=1\/b=2\/b=3\/b=4\/b=5\/b=6\/b=7\/b=8\/b=9\/b=10:=by omega
   rcases this with rfl|rfl|rfl|rfl|rfl|rfl|rfl|rfl|rfl|rfl|rfl
   ·cases(show I _=I c from d);exact⟨_,rfl,.inl ⟨rfl,cz (cj Y (f.of Y))⟩⟩
   ·cases(show I _=I c from d);exact⟨_,rfl,.inl ⟨rfl,cz (cj Y (f.of Y))⟩⟩
   ·cases(show I _=I c from d);exact⟨_,rfl,.inr ⟨h _ Y,rfl⟩⟩
   ·cases(show I _=I c from d);exact⟨_,rfl,.inr ⟨h _ Y,rfl⟩⟩
   ·cases(show I _=I c from d);exact⟨_,rfl,.inr ⟨h _ Y,rfl⟩⟩
   ·cases(show I _=I c from d);exact⟨_,rfl,.inr ⟨h _ Y,rfl⟩⟩
   ·cases(show I _=I c from d);exact⟨_,rfl,.inr ⟨h _ Y,rfl⟩⟩
   ·cases(show I _=I c from d);exact⟨_,rfl,.inr ⟨h _ Y,rfl⟩⟩
   ·cases(show I _=I c from d);exact⟨_,rfl,.inr ⟨h _ Y,rfl⟩⟩
   ·cases(show I _=I c from d);exact⟨_,rfl,.inr ⟨h _ Y,rfl⟩⟩
   ·cases(show I _=I c from d);exact⟨_,rfl,.inl ⟨rfl,cz (yL Y (f.of Y) Y)⟩⟩
  ·intro c d B M L A p q G E _;have f:=o.fill okF Y;have m:=gG (Dn:=λi=>decide (i<=11)) p q Ed (λb j=>by
    have:b<=11:=by simpa using j
    show b<12;omega)
   cases(show I _=I c from d);obtain⟨r,t⟩:=n9 p q rfl o.size xw (λb j=>m b (by
    have:b<12:=j;simp;omega))
   rw[t];subst r;refine mC l (by decide) d Y _ (kF Y (f.of Y)) ?_;refine ak l (y _ okF ?_ Y (by rw[put_defers];exact ez _ _));exact f.put (d:=7) (by decide) (.bool T7)
  ·intro m;exact absurd (m 11 (by decide)) (by decide)
end
structure zS(S O:Nat->Prop)(w0 w:F)(N cb n cap kb nk ck eb ne ce:Nat)(x:U)(wb gU:Nat)(ws:List Bool)(V:Nat->List aE)(ch g:Nat->Nat)(bb fb cS lb i:Nat)(lA:Bool)(μ:Nat->Option (List U))(a:V6):Prop where
 kn:Knows a 73 [(42,.int .i64 (i:Int)),(41,.int .i64 (ws.length:Int)),(8,.slice (I ⟨cS,0,K⟩) ws.length ws.length),(7,.bool lA),(6,.slice (I ⟨lb,0,K⟩) ws.length ws.length),(3,.pointer (I ⟨bb,0,K⟩)),(2,.slice (I ⟨wb,0,K⟩) ws.length gU)]
 df:a.defers=[]
 own:q9 S O w0 w N cb n cap kb nk ck eb ne ce x bb fb
 oc:O cS
 hc:w.heap[cS]? =I (.cells (eE ws ch ws.length).toArray 193 (0,0))
 ol:O lb
 ll:w0.heap.size<=lb
 nb:lb≠bb
 nf:lb≠fb
 nc:lb≠cS
 hl:w.heap[lb]? =I (.cells (fq ws g V N i).toArray 43 (0,0))
 rows:∀j,j<i->ws[j]? =I Z->Row w (g j) N (V j)/\O (g j)/\g j≠lb/\w0.heap.size<=g j
 TK:R9 O w ws V ch i ws.length μ
 ok:lA=Z↔∀j,j<i->ws[j]? =I Z->(V j).length=N
section
variable {S O:Nat->Prop}{w0 w w':F}{s:Nat->ByteArray}{k e:Nat->Int}{N cb n cap kb nk ck eb ne ce wb gU:Nat}{x:U}{ws:List Bool}{V:Nat->List aE}{ch g:Nat->Nat}{bb fb cS lb i:Nat}{μ:Nat->Option (List U)}{a:V6}{Post:U->F->Prop}{cs:List Ut}{lA:Bool}
def KP(l:Fj S w0 s k e N cb n kb nk eb ne wb ws V)(h:zS S O w0 w N cb n cap kb nk ck eb ne ce x wb gU ws V ch g bb fb cS lb i lA μ a)(p:ws[i]? =I T7)
 (E:∀a',zS S O w0 w N cb n cap kb nk ck eb ne ce x wb gU ws V ch g bb fb cS lb (i+1) lA μ a'->ku (aB T4) T4 Post S O μ (Ug ((base 78).at a' [.code (nl U2),.inLoop (nl U2),.inBlock 2,.code (FX U2)]) cs) w):
 ku (aB T4) T4 Post S O μ (Ug ((base 78).at a [.code (nl U2),.inLoop (nl U2),.inBlock 2,.code (FX U2)]) cs) w:=by
 obtain⟨b,B,r,L,C,P,F,G,J,H,D,Q,m,M⟩:=h;have c:=dS (aB T4) T4 Post S μ;have o:i<ws.length:=(UA.1 p).1;have T:=l.mm;refine aS c ?_;refine bq c [0] Y ?_;refine dD c b Y (.bool Z) (jx Y (b.of Y) (b.of Y) (by simp;omega)) λb=>?_;refine ak c ?_;refine aS c ?_;refine dn c Z (b.of Y) ?_;refine ij c ?_;refine aS c ?_;refine gB c ?_;refine aS c ?_;refine bq c [0,1] Y ?_;refine cH c b λb=>?_;refine gX c b λb=>?_;refine ak c ?_;refine aS c ?_;refine bq c [0,1,2,3] Y ?_;refine cH c b λb=>?_;refine cH c b λb=>?_;refine dD c b Y (.pointer (I ⟨wb,0+i*1,K⟩)) (fH Y (b.of Y) (b.of Y) WG Tryz.sizeOf4 o) λb=>?_;refine rf c b Y (.bool T7) (bZ Y (b.of Y) Tryz.isAgg4 (r.low wb l.wl) ((r.Hz.cell (p:=⟨wb,0+i*1,K⟩) l.wl).trans (l.wc i _ p))) λb=>?_;refine ak c ?_;refine dn c T7 (b.of Y) ?_;refine ij c ?_;refine iJ c ?_;refine bq c [0,1] Y ?_;refine dD c b Y (.int .i64 ((i+1:Nat):Int)) (nO (j:=1) Y (b.of Y) Y (by omega)) λb=>?_;refine cH c b λb=>?_;refine ak c ?_;refine kV c ?_;have v:ws[i]? ≠I Z:=by rw[p];simp
 have q:∀d,ws[d]? =I Z->d≠i:=λd j e=>v (e▸j);refine E _ ⟨((((((b.nil.cons (b.slot 2 _ Y)).cons (b.slot 3 _ Y)).cons (b.slot 6 _ Y)).cons (b.slot 7 _ Y)).cons (b.slot 8 _ Y)).cons (b.slot 41 _ Y)).cons (b.slot 42 _ Y),by simp only[put_defers];exact B,r,L,C,P,F,G,J,H,by rw[B8 v];exact D,λd o j=>Q d (by have:=q d j;omega) j,⟨λd R o j=>m.mu d (by omega) o j,λy A=>?_,m.inj,m.lt⟩,?_⟩
 ·obtain⟨d,t,f,u,z⟩:=m.no y A;exact⟨d,by have:=q d u;omega,f,u,z⟩
 ·rw[M];constructor
  ·intro h d t f;exact h d (by have:=q d f;omega) f
  ·intro h d t f;exact h d (by omega) f
def G6(B:Fj S w0 s k e N cb n kb nk eb ne wb ws V)(h:zS S O w0 w N cb n cap kb nk ck eb ne ce x wb gU ws V ch g bb fb cS lb i lA μ a)(o:ws[i]? =I Z)
 (a5:∀D w' a' g' bi aq,zS S D w0 w' N cb n cap kb nk ck eb ne ce x wb gU ws V ch g' bb fb cS lb (i+1) bi aq a'->ku (aB T4) T4 Post S D aq (Ug ((base 78).at a' [.code (nl U2),.inLoop (nl U2),.inBlock 2,.code (FX U2)]) cs) w'):
 ku (aB T4) T4 Post S O μ (Ug ((base 78).at a [.code (nl U2),.inLoop (nl U2),.inBlock 2,.code (FX U2)]) cs) w:=by
 obtain⟨b,a1,z,F,W,G,aa,ab,ae,ad,a4,ba,v,a7⟩:=h;have c:=dS (aB T4) T4 Post S μ;have t:i<ws.length:=(UA.1 o).1;have bs:=B.mm;refine aS c ?_;refine bq c [0] Y ?_;refine dD c b Y (.bool Z) (jx Y (b.of Y) (b.of Y) (by simp;omega)) λb=>?_;refine ak c ?_;refine aS c ?_;refine dn c Z (b.of Y) ?_;refine ij c ?_;refine aS c ?_;refine gB c ?_;refine aS c ?_;refine bq c [0,1] Y ?_;refine cH c b λb=>?_;refine gX c b λb=>?_;refine ak c ?_;refine aS c ?_;refine bq c [0,1,2,3] Y ?_;refine cH c b λb=>?_;refine cH c b λb=>?_;refine dD c b Y (.pointer (I ⟨wb,0+i*1,K⟩)) (fH Y (b.of Y) (b.of Y) WG Tryz.sizeOf4 t) λb=>?_;refine rf c b Y (.bool Z) (bZ Y (b.of Y) Tryz.isAgg4 (z.low wb B.wl) ((z.Hz.cell (p:=⟨wb,0+i*1,K⟩) B.wl).trans (B.wc i _ o))) λb=>?_;refine ak c ?_;refine dn c Z (b.of Y) ?_;refine aS c ?_;have be:=v.mu i (T8 _) t o;have a0:aM w cS (0+i*1) (.chan (I (ch i))):=by
  unfold Us;simp only[W,UT,Nat.mul_one];have:=mE (ws:=ws) (ch:=ch) (i:=ws.length) t;rw[if_pos ⟨t,o⟩] at this;simpa using this
 refine Ds (c:=ch i) (l0:=[(42,.int .i64 (i:Int)),(41,.int .i64 (ws.length:Int)),(7,.bool lA),(2,.slice (I ⟨wb,0,K⟩) ws.length gU)]) B o ((((((((b.nil.cons (b.slot 2 _ Y)).cons (b.slot 7 _ Y)).cons (b.slot 41 _ Y)).cons (b.slot 42 _ Y)).cons (b.slot 3 _ Y)).cons (b.slot 6 _ Y)).cons (b.slot 8 _ Y)).cons (b.slot 10 _ Y)) z F a0 be G a4 (by simp[dW]) λD bt ap q a' bo a9 T j u m a2=>?_;have c:=dS (aB T4) T4 Post S (gd μ (ch i) K);have a8:=z.So j;have H:=a8.set u ab ae aa;have br:=z.inr lb (.inr G);have av:(fq ws g V N i).toArray.toList.take i++[Vg (I ⟨q,0,K⟩) (V i).length N]++(fq ws g V N i).toArray.toList.drop (i+1)=fq ws (λd=>if d=i then q else g d) V N (i+1):=by
  rw[<-D4 o q]
 rw[av] at u;have X:=u.set;have az:aM ap lb (0+i*1) (.slice (I ⟨q,0,K⟩) (V i).length N):=by
  unfold Us;simp only[X,UT,Nat.mul_one];have:=mK (ws:=ws) (g:=λd=>if d=i then q else g d) (V:=V) (N:=N) (i:=i+1) t;simp[o] at this;simpa using this
 have bd:=u.size;have bc:=j.rel.size;refine Ef (l0:=[(42,.int .i64 (i:Int)),(41,.int .i64 (ws.length:Int)),(8,.slice (I ⟨cS,0,K⟩) ws.length ws.length),(2,.slice (I ⟨wb,0,K⟩) ws.length gU)]) t ((((((((m.nil.cons (m.slot 2 _ Y)).cons (m.slot 8 _ Y)).cons (m.slot 41 _ Y)).cons (m.slot 42 _ Y)).cons (m.slot 3 _ Y)).cons (m.slot 6 _ Y)).cons (m.slot 10 _ Y)).cons (m.slot 7 _ Y)) H.inr (j.sub lb G) H.ob az (by unfold Us;simp only[H.hb];rfl) λar am p a6 a3=>?_;have y:∀C,Rk.contains C=T7->∀L,(am++L).lookup C=L.lookup C:=λC al L=>by
  rw[List.lookup_append];cases e:am.lookup C with
  |none=>rfl
  |some bu=>
   have:=gQ e;rw[a6] at this;have:=List.contains_iff_mem.2 this;rw[this] at al;cases al
 have f:Knows ar 73 [(42,.int .i64 (i:Int)),(41,.int .i64 (ws.length:Int)),(8,.slice (I ⟨cS,0,K⟩) ws.length ws.length),(7,.bool (lA&&(((V i).length:Int)==(N:Int)))),(6,.slice (I ⟨lb,0,K⟩) ws.length ws.length),(3,.pointer (I ⟨bb,0,K⟩)),(2,.slice (I ⟨wb,0,K⟩) ws.length gU)]:=
  ((((((p.nil.cons (p.slot 2 _ (y 2 Y _))).cons (p.slot 3 _ (y 3 Y _))).cons (p.slot 6 _ (y 6 Y _))).cons (p.slot 7 _ Y)).cons (p.slot 8 _ (y 8 Y _))).cons (p.slot 41 _ (y 41 Y _))).cons (p.slot 42 _ (y 42 Y _))
 refine iJ c ?_;refine bq c [0,1] Y ?_;refine dD c f Y (.int .i64 ((i+1:Nat):Int)) (nO (j:=1) Y (f.of Y) Y (by omega)) λf=>?_;refine cH c f λf=>?_;refine ak c ?_;refine kV c ?_;have U:q≠lb:=by omega
 refine a5 D ap _ (λd=>if d=i then q else g d) _ _ ⟨((((((f.nil.cons (f.slot 2 _ Y)).cons (f.slot 3 _ Y)).cons (f.slot 6 _ Y)).cons (f.slot 7 _ Y)).cons (f.slot 8 _ Y)).cons (f.slot 41 _ Y)).cons (f.slot 42 _ Y),by simp only[put_defers];rw[a3,a2];simp only[put_defers];exact a1,H,j.sub cS F,?_,j.sub lb G,aa,ab,ae,ad,X,λd r l=>?_,⟨λd bm r l=>?_,λP J=>?_,v.inj,λd r l=>?_⟩,?_⟩
 ·rw[u.at_ cS (.inr (j.sub cS F)) (λe=>ad e.symm),j.rel.at_ cS (.inr F)];exact W
 ·by_cases e:d=i
  ·subst e;simp only[if_true];have:=z.Hz.size;exact⟨a9.same (u.at_ q (.inr T) U),T,U,by omega⟩
  ·obtain⟨bj,M,ao,bl⟩:=ba d (by omega) l;simp only[if_neg e];exact⟨(bj.same (j.rel.at_ _ (.inr M))).same (u.at_ _ (.inr (j.sub _ M)) ao),j.sub _ M,ao,bl⟩
 ·have E:ch d≠ch i:=λe=>by have:=v.inj d i r t l o e;omega
  simp only[gd,E,if_false];exact v.mu d (by omega) r l
 ·have E:P≠ch i:=λe=>J (by simp[gd,e]);simp only[gd,E,if_false] at J;obtain⟨d,A,Q,aw,R⟩:=v.no P J;exact⟨d,by rcases Vy i d with h|h;exact h;have:d=i:=(by omega);subst this;exact absurd R.symm E,Q,aw,R⟩
 ·exact Ud (v.lt d r l) (Uy bc bd)
 ·rw[Uw,a7,beq_iff_eq];constructor
  ·rintro⟨A,Q⟩ d r l;by_cases e:d=i
   ·subst e;omega
   ·exact A d (by omega) l
  ·intro A;exact⟨λd r l=>A d (by omega) l,by have:=A i (by omega) o;omega⟩
end
end Cc
end Go.Proofs.YtjidbonhhpkljaaGreat
