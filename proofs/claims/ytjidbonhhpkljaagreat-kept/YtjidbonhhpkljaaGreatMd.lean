/- What the proof stands on, in short names. -/
import Derived.Test.YtjidbonhhpkljaaGreatMc
import Derived.RangeFuncRecord
import Derived.RangeFuncIn
import Derived.Deep.CutRange
set_option linter.all false
open Array renaming getD_eq_getD_getElem?->UE,getElem?_eq_getElem->UW,getElem?_eq_some_iff->Uc,length_toList->Wb,replicate->U4
open Bool renaming and_eq_true->Ux,false->T8,false_eq_true->UC,or_eq_true->WV,true->Z
open False renaming elim->Yr
open Go renaming Act->V7,Addr->UK,Code->WX,Ending->WU,Frame->Uu,Func->WD,FuncId->V2,Item->WO,Oper->Vv,Operand->U7,Program->Ug,Sem->Wv,TypeId->Ui,TypeInfo->Xi,Value->U,World->F,bodyPost->VS,execOp->UI,heap_alloc_new->V5,heap_setCell_other->Uv,heap_setCell_same->Us,info_parts->Vg,lt_of_block->Uf,maxLen->Ur,results->UY,step_append_lies->WL,undef->Vl,yielded->Vk,zeroValue->Wo
open Go.Act renaming put->UX
open Go.Addr renaming add_lit->VM,add_mid->Xf
open Go.Addr.mk renaming injEq->Wi
open Go.ByteArray renaming toList_eq->XL
open Go.Conc renaming G->Uh
open Go.Deferred renaming ofValue->XP
open Go.Extern renaming find->YC
open Go.Extern.BytealgCompare renaming compare->XA
open Go.Extern.Bytes renaming bytesOf->YM,loadBytes->YK
open Go.Extern.ReflectliteType renaming rows->Yo
open Go.Extern.RuntimeError renaming boundsError->YS,boundsErrorFmts->YP,boundsNegErrorFmts->YN,described->YE,pkgpathOf->YF,rows->Vb,text->YJ,typeAssertionError->Yt,unhashableTypeError->Yp
open Go.Extern.RuntimeError.boundsError renaming match_1->YL
open Go.Frame renaming enter->UZ,finish_at->XI,round->WZ
open Go.IntKind renaming i64->XO,u64->Wm,wrap_i64->Xa
open Go.Lib renaming size_eq->X5
open Go.Proofs.Tryz renaming f116->VH,f117->XR,f19->Wd,f78->U3,f79->Wz,isAgg3->Yw,prog->T5,sizeOf3->X6,underlying115->WG,underlying139->V8,underlying160->WH,underlying43->WA
open Go.Region renaming binds->Vo,ready->U0,wanted->UG
open Go.Region.linearise renaming go->Va
open Go.RowKit renaming intOf->UT,wrap64->Vd
open Go.RowKit.Below renaming heap_alloc->UO,refl->Uq
open Go.Sem renaming runT_eq->Ye
open Go.Value renaming bool->WQ,cells->WI,int->VZ,slice->Vc
open Go.Value.slice renaming injEq->VB
open Go.World renaming cell?->Ut,frozen?->UR,news_of_block->VL,ownsRow_nil->Vq
open Go.World.grownBy renaming block->Ww
open Go.stepG renaming apply->VO
open Int renaming eq_ofNat_of_zero_le->WC
open List renaming all_eq_true->UA,append_assoc->UD,append_nil->Ws,drop_eq_getElem_cons->Wp,eq_nil_of_length_eq_zero->Vi,flatMap_append->Vj,flatMap_cons->WT,flatMap_singleton->Ve,getD_eq_getElem?_getD->Uj,getElem?_append_left->Vx,getElem?_append_right->Vp,getElem?_eq_getElem->Uo,getElem?_eq_some_iff->UB,getElem?_take->V9,getElem_map->Xt,getElem_mem->Uk,getElem_of_mem->Vw,length->XF,length_append->Ub,length_cons->VJ,length_drop->Xc,length_eq_zero_iff->Wh,length_map->UH,length_nil->XJ,length_take->Vt,map_append->U1,map_cons->Xy,map_singleton->Wq,mem_cons->VN,mem_map->U8,not_mem_nil->XS,range->UL,setIfInBounds_toArray->Ud,set_cons_succ->Ul,set_cons_zero->Um,take_append_drop->Wx,take_length->Vh,take_of_length_le->UP,take_succ_eq_append_getElem->Up
open List.cons renaming injEq->Xl
open Nat renaming le_refl->T9,le_trans->Uz,lt_of_lt_of_le->Ue,lt_or_ge->Vz,mul_le_mul->Wt,zero_add->UU,zero_le->UF
open Option renaming bind_eq_some_iff->US,bind_some->XT,getD_some->V3,isNone_iff_eq_none->V1,map_eq_some_iff->Wr,none->K,some->I
open Option.some renaming injEq->U9
open Prod renaming fst->Uy,snd->VV
set_option maxRecDepth 100000
set_option maxHeartbeats 8000000
namespace Go.Proofs.YtjidbonhhpkljaaGreat
namespace Ec
open Go.RowKit Pk Pm
def EG(s:ByteArray)(w:F)(E:s.size<=65536):bG 98 #[.string s] w λe w'=>e= .returned (.string s)/\aP w w':=by
 by_cases j:s.size=0
 ·obtain rfl:s=⟨#[]⟩:=ByteArray.ext (Array.eq_empty_of_size_eq_zero j);go_enter ay.func98,Tryz.ntmps98;go_wp2;go_ret;exact⟨rfl,Uq _ _⟩
 ·obtain⟨m,g,x,h,y⟩:=Vg ay.rH;have u:((aB T5).info? 5).map (·.size)=I 1:=by rw[g];simp[h]
  have q:(aB T5).cellsOf 5=1:=by simp[Program.cellsOf,g,h]
  obtain⟨a,d⟩:∃a,a=madeCells (VZ .u8 0).cells (((s.size:Nat):Int).toNat*m.size):=⟨_,rfl⟩;have A:a.size=s.size:=by rw[d,size_madeCells,h];simp
  have D:∀c:F,(Instr.makeSlice 133 (.int .i64 (s.size:Int)) (.int .i64 (s.size:Int))).run (aB T5) c= .ok (.slice (I ⟨c.heap.size,0,K⟩) s.size s.size) (c.alloc (.cells a 5)):=λc=>by
   have i:=run_make (P:=(aB T5)) c 133 5 m (.int .u8 0) ay.underlying133 g x .i64 .i64 (s.size:Int) (s.size:Int) (by omega) (by omega) (by rw[y];omega) (by omega);rw[<-d] at i;simpa using i
  clear d;have r:=Lib.run_copy_row_string (P:=(aB T5)) (w.alloc (.cells a 5)) 133 9 3 5 w.heap.size 0 s.size s.size s a 5 ay.underlying133 u (V5 w _) (T9 _) (by omega);obtain⟨b,f⟩:∃b,b=(a.toList.take 0++Lib.byteCells s.data.toList++a.toList.drop (0+s.size)).toArray:=⟨_,rfl⟩;rw[<-f] at r;have k:b.toList=Lib.byteCells s.data.toList:=by
   rw[f,List.toList_toArray,List.take_zero,List.nil_append,List.drop_of_length_le (by rw[Wb];omega),Ws]
  have B:b.size=s.size:=by rw[<-Wb,k,Lib.byteCells_length,<-X5]
  have l:((w.alloc (.cells a 5)).setRow w.heap.size b).heap[w.heap.size]? =I (.cells b 5 (0,0)):=setRow_heap _ _ a _ 5 (0,0) (V5 w _);have t:s.data.toList≠[]:=λe=>j (by rw[X5,e];rfl);have n:=Lib.run_unsafeString_row (P:=(aB T5)) ((w.alloc (.cells a 5)).setRow w.heap.size b) 206 3 9 5 ay.underlying206 q w.heap.size b.size (by unfold World.shape?;rw[l]) s.data.toList t (by rw[<-X5];omega) (by rw[<-X5];omega)
   (λz H v=>Lib.cells_of_row l b.size z _ (by rw[UP (by rw[Wb];exact T9 _),k];simp[Lib.byteCells,v]))
  rw[<-X5] at n;clear f;go_enter ay.func98,Tryz.ntmps98;go_wp2;go_ret;have o:aP w (w.alloc (.cells a 5)):=(Uq _ w).alloc (T9 _) _;have p:Below w.heap.size (w.alloc (.cells a 5)) ((w.alloc (.cells a 5)).setRow w.heap.size b):=⟨rfl,rfl,rfl,by simp,λG C=>setRow_other _ _ _ _ (by omega)⟩;exact⟨rfl,Lib.below_freeze (o.trans p) (p:=⟨w.heap.size,0,K⟩) (T9 _) _⟩
def xW(s:ByteArray)(w:F)(b:s.size<=65536):bG 66 #[.string s] w λe w'=>e= .returned (.string s)/\aP w w':=by
 go_enter ay.func66,Tryz.ntmps66
 go_wp2_with fail
 refine(EG s _ b).mono ?_;rintro e w' ⟨rfl,a⟩;go_wp2;go_ret;exact⟨rfl,a⟩
def AH(r p:Nat)(s:ByteArray)(w:F)(d:s.size<=Ur)(f:p<=s.size)(h:w.heap[r]? =I (cj s p)):
 bG 129 #[(bS r)] w λe w'=>Kp r w w'/\((∃b:Nat,e= .returned (.int .u8 (b:Int))/\b<256/\ai (bytesOf s) p [b]/\p+1<=s.size/\w'.heap[r]? =I (cj s (p+1)))\/
  (∃q,e= .panicked (eE q)/\∀b:Nat,¬ai (bytesOf s) p [b])):=by
 by_cases a:p<s.size
 ·refine(xg r p s w d a h).mono ?_;rintro e w' ⟨rfl,c,rfl⟩;exact⟨(Kp.refl r w).set 1 _ c,.inl ⟨_,rfl,s[p].toNat_lt,dI.2 (sM s p a),a,lW h c⟩⟩
 ·refine(sN r p s w d a f h).mono ?_;rintro e w' ⟨rfl,c,rfl⟩;refine⟨(Kp.refl r w).drewN c,.inr ⟨_,rfl,λb g=>?_⟩⟩;have:=gK g (by rw[aj];exact f);rw[aj] at this;simp at this;omega
def Bv(r p c:Nat)(s:ByteArray)(w:F)(f:s.size<=Ur)(g:p<=s.size)(hc:c<=2147483648)(h:w.heap[r]? =I (cj s p)):
 bG 128 #[(bS r),.int .i64 (c:Int)] w λe w'=>Kp r w w'/\((∃x:ByteArray,e= .returned (.string x)/\x.size=c/\ai (bytesOf s) p (bytesOf x)/\p+c<=s.size/\w'.heap[r]? =I (cj s (p+c)))\/
  (∃q,e= .panicked (eE q)/\∀d:List Nat,d.length=c->¬ai (bytesOf s) p d)):=by
 by_cases b:p+c<=s.size
 ·refine(E2 r p c s w f b h).mono ?_;rintro e w' ⟨rfl,a,rfl⟩;refine⟨(Kp.refl r w).set 1 _ a,.inl ⟨_,rfl,by rw[ByteArray.size_extract];omega,?_,b,lW h a⟩⟩;rw[dA];exact List.take_prefix _ _
 ·refine(Bu r p c s w f hc b g h).mono ?_;rintro e w' ⟨rfl,a,rfl⟩;refine⟨(Kp.refl r w).drewN a,.inr ⟨_,rfl,λd j i=>?_⟩⟩;have:=gK i (by rw[aj];exact g);rw[aj] at this;omega
def yl{α d:Type}{f g:α->List d}{l:List α}(h:∀x∈l,f x=g x):l.flatMap f=l.flatMap g:=by
 induction l with
 |nil=>rfl
 |cons x e b=>rw[WT,WT,h x (by simp),b (λc a=>h c (by simp[a]))]
def sF {α:Type}(ok:Nat->α->Prop)(l:List α):Prop:=∀a (b:a<l.length),ok a l[a]
def sF.snoc{α:Type}{ok:Nat->α->Prop}{l:List α}{x:α}(h:sF ok l)(d:ok l.length x):sF ok (l++[x]):=by
 intro b c;rcases Vz b l.length with a|a
 ·rw[List.getElem_append_left a];exact h b a
 ·have:b=l.length:=by simp at c;omega
  subst this;simpa using d
def sF.at{α:Type}{ok:Nat->α->Prop}{l r:List α}{x:α}(h:sF ok (l++x::r)):ok l.length x:=by
 have:=h l.length (by simp);simpa using this
structure Q2{α:Type}(E G:List α->List Nat)(ok:Nat->α->Prop)(B:List Nat)(p:Nat)(C:List Nat)(q cn:Nat)(l:List α):Prop where
 le:l.length<=cn
 Ro:sF ok l
 st:ai B p (E l)
 sc:ai C q (G l)
 IN:∀L:List α,L.length=cn->sF ok L->ai B p (E L)->ai C q (G L)->∃m,L=l++m
def Q2.zero{α:Type}{E G:List α->List Nat}{ok:Nat->α->Prop}{B C:List Nat}{p q cn:Nat}(b:E []=[])(h1:G []=[]):Q2 E G ok B p C q cn []:=
 ⟨UF _,λd c=>by simp at c,by rw[b];exact mU _ _,by rw[h1];exact mU _ _,λa _ _ _ _=>⟨a,rfl⟩⟩
def Q2.next{α:Type}{E G:List α->List Nat}{ok:Nat->α->Prop}{e g:List α->α->List Nat}{B C:List Nat}{p q cn:Nat}{l:List α}(h:Q2 E G ok B p C q cn l)(c:∀l x,E (l++[x])=E l++e l x)(d:∀l x,G (l++[x])=G l++g l x)(k:l.length<cn)
 (L:List α) (hL:L.length=cn) (f:sF ok L) (b:ai B p (E L)) (hc:ai C q (G L)):∃x m,L=(l++[x])++m/\ok l.length x/\ai B (p+(E l).length) (e l x)/\ai C (q+(G l).length) (g l x):=by
 obtain⟨m,rfl⟩:=h.IN L hL f b hc;cases m with
 |nil=>simp at hL;omega
 |cons x a=>
  obtain⟨n,i⟩:=zo c (l++[x]) a;obtain⟨o,j⟩:=zo d (l++[x]) a;refine⟨x,a,by simp,f.at,?_,?_⟩
  ·rw[show l++x::a=l++[x]++a by simp,i,c,UD,au,au] at b;exact b.2.1
  ·rw[show l++x::a=l++[x]++a by simp,j,d,UD,au,au] at hc;exact hc.2.1
def Q2.more{α:Type}{E G:List α->List Nat}{ok:Nat->α->Prop}{e g:List α->α->List Nat}{B C:List Nat}{p q cn:Nat}{l:List α}(h:Q2 E G ok B p C q cn l)(b:∀l x,E (l++[x])=E l++e l x)(c:∀l x,G (l++[x])=G l++g l x)(o:l.length<cn)
 {x:α} (v:ok l.length x) (s:ai B (p+(E l).length) (e l x)) (hc:ai C (q+(G l).length) (g l x)) (u:∀y,ok l.length y->ai B (p+(E l).length) (e l y)->ai C (q+(G l).length) (g l y)->y=x):Q2 E G ok B p C q cn (l++[x]):=by
 refine⟨by simp;omega,h.Ro.snoc v,by rw[b,au];exact⟨h.st,s⟩,by rw[c,au];exact⟨h.sc,hc⟩,?_⟩;intro d k r t n;obtain⟨y,m,a,f,i,j⟩:=h.next b c o d k r t n;rw[u y f i j] at a;exact⟨m,a⟩
def Q2.fail{α:Type}{E G:List α->List Nat}{ok:Nat->α->Prop}{e g:List α->α->List Nat}{B C:List Nat}{p q cn:Nat}{l:List α}(h:Q2 E G ok B p C q cn l)(d:∀l x,E (l++[x])=E l++e l x)(f:∀l x,G (l++[x])=G l++g l x)(j:l.length<cn)
 (o:∀y,ok l.length y->ai B (p+(E l).length) (e l y)->¬ai C (q+(G l).length) (g l y)) (L:List α) (hL:L.length=cn) (k:sF ok L) (n:ai B p (E L)):¬ai C q (G L):=by
 intro i;obtain⟨y,m,r,a,b,c⟩:=h.next d f j L hL k n i;exact o y a b c
def Q2.done{α:Type}{E G:List α->List Nat}{ok:Nat->α->Prop}{B C:List Nat}{p q cn:Nat}{l:List α}(h:Q2 E G ok B p C q cn l)(f:¬l.length<cn):
 l.length=cn/\(∀L:List α,L.length=cn->sF ok L->ai B p (E L)->ai C q (G L)->L=l):=by
 have d:l.length=cn:=by have:=h.le;omega
 refine⟨d,?_⟩;intro L a b e c;obtain⟨m,rfl⟩:=h.IN L a b e c;rw[Ub] at a;have:m=[]:=Wh.1 (by omega);rw[this];simp
structure jR(r q:Nat)(w w':F):Prop where
 os:w'.os=w.os
 tape:w'.tape=w.tape
 output:w'.output=w.output
 size:w.heap.size<=w'.heap.size
 block:∀i,i<w.heap.size->i≠r->i≠q->w'.heap[i]? =w.heap[i]?
def jR.refl(r q:Nat)(w:F):jR r q w w:=⟨rfl,rfl,rfl,T9 _,λ_ _ _ _=>rfl⟩
def jR.trans{r q:Nat}{w e f:F}(h:jR r q w e)(k:jR r q e f):jR r q w f:=
 ⟨k.os.trans h.os,k.tape.trans h.tape,k.output.trans h.output,Uz h.size k.size,λd c a b=>(k.block d (Ue c h.size) a b).trans (h.block d c a b)⟩
def jR.jx{r q:Nat}{w a:F}(h:Kp r w a):jR r q w a:=⟨h.os,h.tape,h.output,h.size,λe d c _=>Ww h e d (λb=>c (by cases b;rfl))⟩
def jR.Ed{r q:Nat}{w a:F}(h:Kp q w a):jR r q w a:=⟨h.os,h.tape,h.output,h.size,λe d _ c=>Ww h e d (λb=>c (by cases b;rfl))⟩
def jR.ct{r q:Nat}{w a:F}(h:aP w a):jR r q w a:=⟨h.os,h.tape,h.output,h.size,λc b _ _=>h.block c b⟩
def jR.alloc{r q:Nat}{w a:F}(h:jR r q w a)(o:Obj):jR r q w (a.alloc o):=h.trans (jR.jx (Kp.alloc (Kp.refl r a) o))
def jR.grown{r q:Nat}{w d e:F}{c:Option Nat}(h:jR r q w d)(k:d.grownBy e c)(l:∀g,c=I g->w.heap.size<=g):jR r q w e:=
 ⟨k.os.trans h.os,k.tape.trans h.tape,k.output.trans h.output,Uz h.size k.size,λa b i j=>(k.block a (Ue b h.size) (λf=>by have:=l a f.symm;omega)).trans (h.block a b i j)⟩
def jR.keep{r q:Nat}{w a:F}(k:jR r q w a){i:Nat}{o:Obj}(h:w.heap[i]? =I o)(h1:i≠r)(b:i≠q):a.heap[i]? =I o:=by
 rw[k.block i (Uf h) h1 b];exact h
def jR.own{r q:Nat}{w d:F}{base e c n:Nat}{v:U}{f:List U}(k:jR r q w d)(h:w.ownsRow base e c v n f)(p:r<base)(o:q<base):d.ownsRow base e c v n f:=by
 refine⟨h.1,?_⟩;rcases h.2 with l|⟨a,g,i,rfl,j,b,m⟩
 ·exact .inl l
 ·refine .inr ⟨a,g,i,rfl,j,?_,m⟩;rw[k.block a (Uf b) (by omega) (by omega)];exact b
def Le (cs:List bK)(l:List kr)(c:kr):List Nat:=aL c.text.size++cr (cs.getD l.length ⟨⟨#[]⟩,0⟩).kind c.eZ
def wL (cs:List bK)(l:List kr):List Nat:=fp cs l l.length
def um(cs:List bK)(l:List kr)(c:kr):wL cs (l++[c])=wL cs l++Le cs l c:=by
 unfold wL;rw[Ub,List.length_singleton,vM];have b:fp cs (l++[c]) l.length=fp cs l l.length:=by
  unfold fp;refine yl (λe a=>?_);have a:=List.mem_range.1 a;unfold o9;rw[Uj,Vx a,<-Uj]
 have d:o9 cs (l++[c]) l.length=Le cs l c:=by
  unfold o9 Le;rw[Uj (l:=l++[c]),Vp (T9 _)];simp
 rw[b,d]
structure Fp(cs:List bK)(i:Nat)(c:kr):Prop where
 n:c.text.size<2147483648
 b:Lg (cs.getD i ⟨⟨#[]⟩,0⟩).kind c.eZ
structure eM(cs:List bK)(b:Bd):Prop where
 lo:1<=b.rows
 hi:b.rows<=100
 len:b.chunks.length=cs.length
 each:sF (Fp cs) b.chunks
def Ja{k:Int}(l:k=1\/k=2\/k=3){B:List Nat}{p:Nat}{b b':lC}(h:Lg k b)(d:Lg k b')(c:ai B p (cr k b))(a:ai B p (cr k b')):b=b':=by
 have m:∀{b b':lC},b=cF->b'.there=Z->ai B p (cr k b)->ai B p (cr k b')->False:=by
  rintro b b' rfl w c a;unfold cr at a;rw[if_pos w] at a;have:=iE (show ai B p [0] from c) (au.1 a).1 Y;simp at this
 rcases h with h|⟨e,r,t,x⟩<;>rcases d with d|⟨f,s,u,y⟩
 ·rw[h,d]
 ·exact(m h f c a).elim
 ·exact(m d e a c).elim
 ·unfold cr at c a;rw[if_pos e] at c;rw[if_pos f] at a;obtain⟨n,i⟩:=au.1 (au.1 c).2;obtain⟨o,q⟩:=au.1 (au.1 a).2;have g:=l8 l r s n o;rw[g] at i;have j:=l8 l t u i q;obtain⟨z,C,v⟩:=b;obtain⟨A,D,E⟩:=b';simp only at e f g j;rw[e,f,g,j]
def Q4{cs:List bK}{l:List kr}(n:(cs.getD l.length ⟨⟨#[]⟩,0⟩).kind=1\/(cs.getD l.length ⟨⟨#[]⟩,0⟩).kind=2\/(cs.getD l.length ⟨⟨#[]⟩,0⟩).kind=3){B C:List Nat}{p q:Nat}{x y:kr}(g:Fp cs l.length x)(h:Fp cs l.length y)(e:ai B p (Le cs l x))(f:ai B p (Le cs l y))(hc:ai C q (bytesOf x.text))(m:ai C q (bytesOf y.text)):y=x:=by
 unfold Le at e f;obtain⟨i,j⟩:=au.1 e;obtain⟨k,a⟩:=au.1 f;have b:=cB (by have:=h.n;omega) (by have:=g.n;omega) k i;rw[b] at a;have c:=Ja n h.b g.b a j;have d:=ng (iE m hc (by rw[aj,aj,b]));obtain⟨o,s⟩:=x;obtain⟨r,t⟩:=y;simp only at c d;rw[c,d]
def vp.bN{w:F}{base:Nat}{v:U}{l:List bK}(h:w.ownsRow base 63 2 v l.length (eI l)):vp w v l:=by
 rcases h.2 with⟨rfl,g⟩|⟨c,f,j,rfl,k,o,i,m,n,p⟩
 ·have:l=[]:=Vi g;subst this;exact⟨K,0,0,0,rfl,T9 _,⟨λh=>by simp at h,λh=>by simp at h,λb h=>by simp at h,λb h=>by simp at h⟩⟩
 ·have e:=h.cells (g:=c) Y;refine⟨I ⟨c,0,K⟩,c,0,f,rfl,i,⟨λ_=>rfl,λ_=>(h.lt c Y).2,λb d=>?_,λb d=>?_⟩⟩
  ·have:=e _ _ (lR (λa:bK=>[Value.string a.name,VZ .i64 a.kind]) 2 (λ_=>rfl) l b d 0 _ Y);simpa [VM] using this
  ·have:=e _ _ (lR (λa:bK=>[Value.string a.name,VZ .i64 a.kind]) 2 (λ_=>rfl) l b d 1 _ Y);simpa [VM] using this
def eW (bs:List Bd):Nat:=(bs.map λa=>a.rows).sum
def Gz(bs:List Bd)(b:Bd):eW (bs++[b])=eW bs+b.rows:=by simp[eW]
def GA(bs:List Bd)(k:Nat)(h:k<bs.length):eW (bs.take (k+1))=eW (bs.take k)+bs[k].rows:=by
 rw[Up h,Gz]
def Ey(bs:List Bd)(h:∀b∈bs,b.rows<=100):eW bs<=bs.length*100:=by
 induction bs with
 |nil=>simp[eW]
 |cons b g d=>
  have f:=h b (by simp);have a:=d (λe c=>h e (by simp[c]));simp[eW] at a ⊢;omega
def tC(bs:List Bd)(h:∀b∈bs,1<=b.rows):bs.length<=eW bs:=by
 induction bs with
 |nil=>simp[eW]
 |cons b g d=>
  have f:=h b (by simp);have a:=d (λe c=>h e (by simp[c]));simp[eW] at a ⊢;omega
def IY (cs:List bK)(es:List Int):Prop:=∀a (b:a<es.length) (c:a<cs.length),bI cs[a].kind es[a]=Z
def IY.snoc{cs:List bK}{es:List Int}(h:IY cs es){e:Int}(f:es.length<cs.length)(b:bI cs[es.length].kind e=Z):IY cs (es++[e]):=by
 intro a c d;rw[List.getElem_append]
 split
 ·exact h a _ _
 ·have:a=es.length:=by simp at c;omega
  subst this;simpa using b
def Pp(w W:F)(v:Nat->U)(g:Nat)(dV:List Int)(co:Option UK)(G bD cb:Nat)(cs:List bK)(bc:U)(aw:v 2= .slice co dV.length cb)(ar:v 11=(bS g))(av:v 13= .int .i64 (cs.length:Int))(ck:dV.length<=Ur)(bj:(0<dV.length->co=I ⟨G,bD,K⟩)/\(0<dV.length->G<w.heap.size)/\∀j,j<dV.length->w.cell? ⟨G,bD+j,K⟩=I (.int .i64 (dV.getD j 0)))(br:∀x∈dV,lQ x)(am:hU cs)(ad:eN w W g bc cs (.slice K 0 0) [] 0 (.slice K 0 0) [] T8):
 (Tg Wd).wp (aB T5) (λe a' W'=>e= .normal/\∃es b,lE cs es/\eN w W' g bc cs (.slice K 0 0) [] 0 b es T8/\Cc.Knows a' 156 ((13,v 13)::Su v)/\a'.defers=[]) (pX v) W:=by
 obtain⟨b1,bu,bx,bA,bB⟩:=Vg ay.vE;unfold Ur at ck;have c9:1<=cs.length/\cs.length<=8:=⟨am.1,am.2.1⟩;have b3:=af (gz am);have b2:=af br;have ao:=af bj;obtain⟨ca,E,cv,aJ,rfl,da,bm⟩:=vp.bN ad.ah;have cl:ca=I ⟨E,0,K⟩/\cv=0:=by
  rcases ad.ah.2 with⟨e,c8⟩|⟨c7,c3,c6,e,_⟩
  ·omega
  ·have r:=bm.addr (by omega);simp only[VB] at e;rw[e.1] at r;simp only[U9,Wi] at r;exact⟨by rw[e.1,r.1],r.2.1.symm⟩
 obtain⟨rfl,rfl⟩:=cl;clear bm;have bb:=af ad;have b5:=af aw;have b4:=af ar;have c1:=af av;unfold pX;rw[aw,ar,av];clear br bj ad aw ar av am;unfold Tg Wd;dsimp only
 go_wp2_with fail
 go_loopw [14] (λC wr=>∃(es:List Int) (b:U),C= .int .i64 (es.length:Int)/\es.length<=cs.length/\IY cs es/\eN w wr g (.slice (I ⟨E,0,K⟩) cs.length aJ) cs (.slice K 0 0) [] 0 b es T8) (λC _=>cs.length-(UT C).toNat)
 case atStart=>exact⟨[],_,rfl,UF _,λC c=>absurd c (by simp),bb.o⟩
 case round=>
  clear bb;obtain⟨es,b,rfl,df,bd,B⟩:=hrel;have a6:=af bd;have aa:=af B;clear bd;by_cases M:es.length<cs.length
  ·obtain⟨c2,c4,dq,c5,bo,db,a0⟩:=vp.bN B.ah;simp only[VB,true_and] at bo;obtain⟨rfl,rfl⟩:=bo;have r:=a0.addr (by omega);simp only[U9,Wi] at r;obtain⟨rfl,rfl,-⟩:=r;have b0:=a0.c1 es.length M;simp only[UU] at b0;have al:=b3.o cs[es.length] (Uk M);have a7:X (∀e∈fy cs[es.length].kind,IY cs (es++[e])):=λe cf=>a6.o.snoc M (OQ _ al e cf);have a5:X (∀W:F,bG 39 #[.int .i64 cs[es.length].kind] W λe R=>aP W R/\W.heap.size<R.heap.size/\e= .returned (.slice (I ⟨W.heap.size,0,K⟩) (fy cs[es.length].kind).length (fy cs[es.length].kind).length)/\∀j,j<(fy cs[es.length].kind).length->R.cell? ⟨W.heap.size,0+j,K⟩=I (.int .i64 ((fy cs[es.length].kind).getD j 0))):=λW=>Ad _ W al;have dc:=L9 cs[es.length].kind;have dd:0<(fy cs[es.length].kind).length:=by rcases al with c|c|c<;>rw[c]<;>decide
   generalize cs[es.length].kind=kd at*;obtain⟨⟨cx,-,-,y,-⟩,-⟩:=B.cells;have dl:=B.dh.size;clear B a0 al
   go_upto_region 14 with(go_at_call 39;refine(a5.o _).mono ?_;rintro e p ⟨be,bt,rfl,bi⟩)
   have ab:=af (aa.o.below be);have i:X (eN w p.drew g (.slice (I ⟨E,0,K⟩) cs.length aJ) cs (.slice K 0 0) [] 0 b es T8):=ab.o.below ((Uq _ _).drew);have a3:X (I wr.heap.size≠b.ownBlock):=λe=>by have:=(aa.o.eJ.lt _ e.symm).2;omega
   have Z:X (wr.heap.size<p.drew.heap.size):=by exact bt
   have a4:X (∀j,j<(fy kd).length->p.drew.cell? ⟨wr.heap.size,j,K⟩=I (.int .i64 ((fy kd).getD j 0))):=λj ae=>by
    have:=bi j ae;rw[UU] at this;exact this
   have a9:X (∀j,j<(fy kd).length->IY cs (es++[(fy kd).getD j 0])):=λj ae=>a7.o _ (by rw[Uj,Uo ae];exact Uk ae);clear bi bt be cx y b0 a5 a7 aa;generalize wr.heap.size=h at*;by_cases az:es.length<dV.length
   ·obtain rfl:=ao.o.1 (by omega);have bl:=ao.o.2.1 (by omega);have cd:p.cell? ⟨G,bD+es.length,K⟩=I (.int .i64 (dV.getD es.length 0)):=(ab.o.dh.cell (p:=⟨G,bD+es.length,K⟩) bl).trans (ao.o.2.2 _ az);have a8:X (lQ (dV.getD es.length 0)):=b2.o _ (by rw[Uj,Uo az];exact Uk az);have ba:X (∀W:F,bG 23 #[.int .i64 (dV.getD es.length 0),.int .i64 ((fy kd).length:Int)] W λe R=>R=W/\∃an,e= .returned (.int .i64 an)/\0<=an/\an<((fy kd).length:Int)):=λW=>qd _ _ W (by omega) (by omega) a8.o.1 a8.o.2;generalize dV.getD es.length 0=dp at*;clear bl
    go_upto_region 16 with(go_at_call 23;refine(ba.o _).mono ?_;rintro e c0 ⟨bv,an,rfl,cp,dk⟩;rw[bv];clear bv c0;obtain⟨l,rfl⟩:=WC cp)
    clear cd ba;have bs:l<(fy kd).length:=by omega
    have n:=a4.o l bs;have q:=a9.o l bs;replace q:=af q;have y:=i.o.cells.1.2.2.2.1;generalize (fy kd).getD l 0=a at*;refine Un.open_ (λW:F=>W.cell? ⟨g,3,K⟩=I b/\W.cell? ⟨h,l,K⟩=I (.int .i64 a)) 11 (λ_ _ _ _ _ c=>absurd (And.left c) (λc=>by cases c)) λcn=>?_;have t:(λW:F=>W.cell? ⟨g,3,K⟩=I b/\W.cell? ⟨h,l,K⟩=I (.int .i64 a)) p.drew:=⟨y,n⟩;clear ab;generalize p.drew=f at*;refine Un.pk 0 ?_;refine Un.pk 1 ?_;refine Un.ld [11] 2 ?_;refine Un.pk 3 ?_;refine Un.pk 4 ?_;refine Un.pk 5 ?_;refine Un.ld [11] 6 ?_;refine Un.on 7 λk d=>?_;go_simp;have D:X (eN w (f.alloc (.cells #[.int .i64 a] 3)) g (.slice (I ⟨E,0,K⟩) cs.length aJ) cs (.slice K 0 0) [] 0 b es T8):=i.o.below ((Uq _ _).alloc (T9 _) _);have S:=D.o.cells.1.2.2.2.1;have T:(f.alloc (.cells #[.int .i64 a] 3)).cell? ⟨h,l,K⟩=I (.int .i64 a):=(((Uq f.heap.size f).alloc (T9 _) _).cell (p:=⟨h,l,K⟩) Z.o).trans n;refine d.o _ _ (λ_=>⟨S,T⟩) ?_;clear d k t
    try simp only[UX,Ud,Um,Ul]
    refine Un.one (i:=8) (by kernel_rfl) Y (λk d=>?_);have O:=i.o.eJ;have cu:w.heap.size<=f.heap.size:=i.o.dh.size;refine WL _ (by rfl) _ _ 22 (by rfl) w.heap.size 3 b1 _ 1 8 ay.underlying22 bu bx bA bB Y (by decide) b es.length _ (by rfl) (O.alloc _) ⟨f.heap.size,0,K⟩ 1 1 [.int .i64 a] (by rfl) Y (VL (bh f _)) (by intro cR Q;simp at Q;subst Q;rfl) (by decide) (by unfold Ur;omega) (by omega) (by simp;omega) _ Y ?_;intro s m o P L J a1;have u:=aO.jm (n:=es.length+1) (cap:=m) L J;have N:o.ownsRow w.heap.size 3 1 (.slice (I ⟨s,0,K⟩) (es.length+1) m) (es++[a]).length (bw (es++[a])):=by
     rw[<-eT,Ub];exact P
    obtain⟨H,z,V⟩:=i.o.QE u N;have ap:=af H;have a2:=V 3;have A:o.cell? ⟨h,l,K⟩=I (.int .i64 a):=by
     rw[<-n];unfold Ut;rw[u.fP.block h Z.o a3.o]
    refine d.o _ _ (λ_=>⟨z,A⟩) ?_;clear d k O P L J a1 N u H V
    try simp only[UX,Ud,Um,Ul]
    have t:(λW:F=>W.cell? ⟨g,3,K⟩=I b/\W.cell? ⟨h,l,K⟩=I (.int .i64 a)) o:=⟨z,A⟩;refine Un.pk 9 ?_;refine Un.pk 10 ?_;refine Un.on 11 λk d=>?_;go_simp;refine d.o _ _ (λc=>absurd c (by decide)) ?_;clear d k t z A S T a2 y n;refine Un.done (by kernel_rfl) ?_ _
    try simp only[UX,Ud,Um,Ul]
    clear D i;generalize o.setCell ⟨g,3,K⟩ (.slice (I ⟨s,0,K⟩) (es.length+1) m)=b6 at*;generalize Vc (I ⟨s,0,K⟩) (es.length+1) m=cc at*
    go_wp2_with fail
    go_roundw
    case rel=>exact⟨_,_,by rw[Ub];go_num,by rw[Ub];exact M,q.o,ap.o⟩
    case measure=>simp[UT];omega
   ·have n:=a4.o 0 (by omega);have q:=a9.o 0 (by omega);replace q:=af q
    go_upto_region 16 with fail
    have y:=i.o.cells.1.2.2.2.1;generalize (fy kd).getD 0 0=a at*;refine Un.open_ (λW:F=>W.cell? ⟨g,3,K⟩=I b/\W.cell? ⟨h,0,K⟩=I (.int .i64 a)) 11 (λ_ _ _ _ _ c=>absurd (And.left c) (λc=>by cases c)) λcn=>?_;have t:(λW:F=>W.cell? ⟨g,3,K⟩=I b/\W.cell? ⟨h,0,K⟩=I (.int .i64 a)) p.drew:=⟨y,n⟩;clear ab;generalize p.drew=f at*;refine Un.pk 0 ?_;refine Un.pk 1 ?_;refine Un.ld [11] 2 ?_;refine Un.pk 3 ?_;refine Un.pk 4 ?_;refine Un.pk 5 ?_;refine Un.ld [11] 6 ?_;refine Un.on 7 λk d=>?_;go_simp;have D:X (eN w (f.alloc (.cells #[.int .i64 a] 3)) g (.slice (I ⟨E,0,K⟩) cs.length aJ) cs (.slice K 0 0) [] 0 b es T8):=i.o.below ((Uq _ _).alloc (T9 _) _);have S:=D.o.cells.1.2.2.2.1;have T:(f.alloc (.cells #[.int .i64 a] 3)).cell? ⟨h,0,K⟩=I (.int .i64 a):=(((Uq f.heap.size f).alloc (T9 _) _).cell (p:=⟨h,0,K⟩) Z.o).trans n;refine d.o _ _ (λ_=>⟨S,T⟩) ?_;clear d k t
    try simp only[UX,Ud,Um,Ul]
    refine Un.one (i:=8) (by kernel_rfl) Y (λk d=>?_);have O:=i.o.eJ;have cu:w.heap.size<=f.heap.size:=i.o.dh.size;refine WL _ (by rfl) _ _ 22 (by rfl) w.heap.size 3 b1 _ 1 8 ay.underlying22 bu bx bA bB Y (by decide) b es.length _ (by rfl) (O.alloc _) ⟨f.heap.size,0,K⟩ 1 1 [.int .i64 a] (by rfl) Y (VL (bh f _)) (by intro cR Q;simp at Q;subst Q;rfl) (by decide) (by unfold Ur;omega) (by omega) (by simp;omega) _ Y ?_;intro s m o P L J a1;have u:=aO.jm (n:=es.length+1) (cap:=m) L J;have N:o.ownsRow w.heap.size 3 1 (.slice (I ⟨s,0,K⟩) (es.length+1) m) (es++[a]).length (bw (es++[a])):=by
     rw[<-eT,Ub];exact P
    obtain⟨H,z,V⟩:=i.o.QE u N;have ap:=af H;have a2:=V 3;have A:o.cell? ⟨h,0,K⟩=I (.int .i64 a):=by
     rw[<-n];unfold Ut;rw[u.fP.block h Z.o a3.o]
    refine d.o _ _ (λ_=>⟨z,A⟩) ?_;clear d k O P L J a1 N u H V
    try simp only[UX,Ud,Um,Ul]
    have t:(λW:F=>W.cell? ⟨g,3,K⟩=I b/\W.cell? ⟨h,0,K⟩=I (.int .i64 a)) o:=⟨z,A⟩;refine Un.pk 9 ?_;refine Un.pk 10 ?_;refine Un.on 11 λk d=>?_;go_simp;refine d.o _ _ (λc=>absurd c (by decide)) ?_;clear d k t z A S T a2 y n;refine Un.done (by kernel_rfl) ?_ _
    try simp only[UX,Ud,Um,Ul]
    clear D i;generalize o.setCell ⟨g,3,K⟩ (.slice (I ⟨s,0,K⟩) (es.length+1) m)=b6 at*;generalize Vc (I ⟨s,0,K⟩) (es.length+1) m=cc at*
    go_wp2_with fail
    go_roundw
    case rel=>exact⟨_,_,by rw[Ub];go_num,by rw[Ub];exact M,q.o,ap.o⟩
    case measure=>simp[UT];omega
  ·have ch:es.length=cs.length:=by omega
   clear B
   go_wp2_with fail
   refine⟨es,⟨ch.symm,λC ci=>by rw[Uj,Uo (by omega)];exact a6.o C (by omega) ci⟩,⟨b,aa.o⟩,?_⟩;exact Cc.Knows.cons ((((((((An Y (by exact b4.o.symm)).cons Y).cons Y).cons Y).cons (by exact b5.o.symm)).cons Y).cons Y)) Y
def R7 (cs:List bK)(x:List aE):Prop:=∀a (b:a<x.length) (c:a<cs.length),VC cs[a].kind x[a]
def R7.snoc{cs:List bK}{x:List aE}(h:R7 cs x){y:aE}(e:x.length<cs.length)(b:VC cs[x.length].kind y):R7 cs (x++[y]):=by
 intro a c d;rw[List.getElem_append]
 split
 ·exact h a _ _
 ·have:a=x.length:=by simp at c;omega
  subst this;simpa using b
def eN.kept{w W W1:F}{g:Nat}{cv:U}{cs:List bK}{rv:U}{L:List (List aE×U)}{c:Int}{ev:U}{es:List Int}{bo:Bool}{u u':U}{n:Nat}{f:List U}(h:eN w W g cv cs rv L c ev es bo)(a:aO W W1 u u')(b:W.ownsRow w.heap.size 59 3 u n f)(e:∀p∈L,Apart p.2 u):eN w W1 g cv cs rv L c ev es bo:=
 ⟨(a.fP.block _ (Uf h.res) (bq b h.res (by decide))).trans h.res,(a.fP.block _ (Uf h.box) (bq b h.box (by decide))).trans h.box,bE h.ah a (dR h.ah b (by decide)),bE h.rows a (dR h.rows b (by decide)),λp d=>bE (h.each p d) a (e p d),bE h.eJ a (dR h.eJ b (by decide)),h.dh.trans (a.below (λg a=>(b.lt g a).1) h.dh.size),h.hg⟩
structure wF(w W:F)(g:Nat)(cv:U)(cs:List bK)(rv:U)(L:List (List aE×U))(ev:U)(es:List Int)(x:List aE)(u:U):Prop where
 md:eN w W g cv cs rv L 0 ev es T8
 own:W.ownsRow w.heap.size 59 3 u x.length (aH x)
 ap:∀p∈L,Apart p.2 u
 typ:R7 cs x
section
variable {w W W1:F}{g:Nat}{cv:U}{cs:List bK}{rv:U}{L:List (List aE×U)}{ev:U}{es:List Int}{x:List aE}{u u':U}
def wF.below(h:wF w W g cv cs rv L ev es x u)(a:aP W W1):wF w W1 g cv cs rv L ev es x u:=⟨h.md.below a,aK h.own a,h.ap,h.typ⟩
def wF.grow(h:wF w W g cv cs rv L ev es x u)(a:aO W W1 u u'){y:aE}(e:W1.ownsRow w.heap.size 59 3 u' (x++[y]).length (aH (x++[y])))(d:x.length<cs.length)(f:VC cs[x.length].kind y):wF w W1 g cv cs rv L ev es (x++[y]) u':=
 ⟨h.md.kept a h.own h.ap,e,λc b=>(h.ap c b).jQ (h.md.each c b) a,h.typ.snoc d f⟩
end
def Oq (cs:List bK)(L:List (List aE×U)):Prop:=∀a∈L,a.1.length=cs.length/\R7 cs a.1
def Pq(w W:F)(v:Nat->U)(g:Nat)(raw:List aE)(ro:Option UK)(rb bg aM:Nat)(cs:List bK)(cv:U)(es:List Int)(ev:U)(h1:v 1= .slice ro raw.length aM)(aw:v 11=(bS g))(bj:v 13= .int .i64 (cs.length:Int))(c8:raw.length<=Ur)(b1:sK w ro rb bg raw)(bA:∀x∈raw,rD x/\x.s.size<=Ur)(ab:hU cs)(V:eN w W g cv cs aR [] 0 ev es T8):
 (Tj Wd).wp (aB T5) (λe a' W'=>e= .normal/\∃L rv,eN w W' g cv cs rv L 0 ev es T8/\Oq cs L/\L.length*cs.length<=raw.length/\L.length<=150/\Cc.Knows a' 156 (Su v)/\a'.defers=[]) (pX v) W:=by
 obtain⟨dq,c7,db,dc,dd⟩:=Vg ay.mK;obtain⟨dp,Z,df,dk,dl⟩:=Vg ay.Mr;unfold Ur at c8;have c5:1<=cs.length/\cs.length<=8:=⟨ab.1,ab.2.1⟩;have ch:=af (gz ab);have cf:=af bA;have ci:=af b1;obtain⟨cp,c,dr,aJ,rfl,d5,bu⟩:=vp.bN V.ah;have da:cp=I ⟨c,0,K⟩/\dr=0:=by
  rcases V.ah.2 with⟨e,d2⟩|⟨d1,dv,dO,e,_⟩
  ·omega
  ·have o:=bu.addr (by omega);simp only[VB] at e;rw[e.1] at o;simp only[U9,Wi] at o;exact⟨by rw[e.1,o.1],o.2.1.symm⟩
 obtain⟨rfl,rfl⟩:=da;clear bu;have bb:=af V;have cd:X (∀W rv L (i:Nat) (Z:i<cs.length),eN w W g (.slice (I ⟨c,0,K⟩) cs.length aJ) cs rv L 0 ev es T8->bU W c (i*2+1) (.int .i64 cs[i].kind)):=λW rv L i Z b=>by
  obtain⟨du,dC,eb,dE,bx,d6,bt⟩:=vp.bN b.ah;simp only[VB,true_and] at bx;obtain⟨rfl,rfl⟩:=bx;have o:=bt.addr (by omega);simp only[U9,Wi] at o;obtain⟨rfl,rfl,-⟩:=o;have:=bt.c1 i Z;rwa [UU] at this
 have bc:=af h1;have bd:=af aw;unfold pX;rw[h1,aw,bj];clear bA b1 V h1 aw bj ab;unfold Tj Wd;dsimp only
 go_wp2_with fail
 go_loopw [17,20] (λi _ wr=>∃(L:List (List aE×U)) (rv:U),i= .int .i64 ((L.length*cs.length:Nat):Int)/\L.length*cs.length<=raw.length/\L.length<=150/\Oq cs L/\eN w wr g (.slice (I ⟨c,0,K⟩) cs.length aJ) cs rv L 0 ev es T8) (λi _ _=>raw.length-(UT i).toNat)
 case atStart=>exact⟨[],_,by simp,by simp,by simp,λal b=>absurd b (by simp),bb.o⟩
 case round=>
  clear bb;obtain⟨L,rv,rfl,a2,a0,bo,y⟩:=hrel;have ap:=af bo;obtain⟨C,gQ,rfl⟩:=bz y.rows;have Q:=af y;obtain⟨⟨M,ca,-,-,-⟩,-⟩:=y.cells;obtain⟨k,T⟩:∃k,k=L.length*cs.length:=⟨_,rfl⟩;have an:=af T;have d4:k<=150*8:=by rw[T];exact Wt a0 c5.2
  have dT:XO.wrap ((k:Int)+(cs.length:Int))=((k+cs.length:Nat):Int):=by rw[Xa]<;>omega
  rw[<-T] at a2 ⊢;clear bo T;by_cases c2:k+cs.length<=raw.length
  ·by_cases c3:L.length<150
   ·clear y;have d3:(L.length:Int)<150:=by omega
    go_upto_region 21 with fail
    have ba:X (wF w wr g (.slice (I ⟨c,0,K⟩) cs.length aJ) cs (.slice C L.length gQ) L ev es [] aR):=⟨Q.o,Vq _ _ _ _,λal p=>(show Apart aR al.2 from .inl Y).symm,λea b=>absurd b (by simp)⟩;clear M ca
    go_wp2_with fail
    go_loopw [18,19,20] (λu i _ wr=>∃x:List aE,i= .int .i64 (x.length:Int)/\x.length<=cs.length/\wF w wr g (.slice (I ⟨c,0,K⟩) cs.length aJ) cs (.slice C L.length gQ) L ev es x u) (λ_ i _ _=>cs.length-(UT i).toNat)
    case atStart=>exact⟨[],rfl,by simp,ba.o⟩
    case round=>
     clear ba Q;obtain⟨x,rfl,d8,h⟩:=hrel;have O:=af h;by_cases aa:x.length<cs.length
     ·obtain⟨d,c4⟩:∃d,d=k+x.length:=⟨_,rfl⟩;have ae:d<raw.length:=by omega
      have z:=ci.o.below h.md.dh;obtain rfl:=z.addr (by omega);have am:=z.c0 _ ae;have a7:=z.c1 _ ae;have a8:=z.c2 _ ae;have a6:=cf.o raw[d] (Uk ae);have bB:=ch.o cs[x.length] (Uk aa);have N:X (∀W:F,bG 24 #[.agg #[.bool raw[d].null,.int .i64 raw[d].n,.string raw[d].s],.int .i64 cs[x.length].kind] W λe ds=>aP W ds/\∃a:aE,e= .returned (.agg (iG a))/\VC cs[x.length].kind a):=λW=>uq _ _ W bB a6.1 a6.2;have cn:X (∀(W1 R:F) (a:aE) (u':U),wF w W1 g (.slice (I ⟨c,0,K⟩) cs.length aJ) cs (.slice C L.length gQ) L ev es x u18->aO W1 R u18 u'->R.ownsRow w.heap.size 59 3 u' (x++[a]).length (aH (x++[a]))->VC cs[x.length].kind a->wF w R g (.slice (I ⟨c,0,K⟩) cs.length aJ) cs (.slice C L.length gQ) L ev es (x++[a]) u'):=λW1 R a u' b c6 c9 q=>b.grow c6 c9 aa q;have av:=cd.o wr _ _ x.length aa h.md;have M:=h.md.cells.1.1;have d0:XO.wrap ((k:Int)+(x.length:Int))=(d:Int):=by rw[Xa]<;>omega
      have a4:=h.md.dh.size;have s:X (rb<wr.heap.size/\c<wr.heap.size/\g<wr.heap.size):=⟨z.lt (by omega),(h.md.ah.lt c (by simp[Value.ownBlock])).2,Uf h.md.box⟩;have dt:=af a4;generalize cs[x.length].kind=kd at*;generalize raw[d]=n at*;clear h z a6 bB a4 c4
      go_upto_region 24 with fail
      refine Un.open_ (λW:F=>(bU W rb (bg+d*3) (.bool n.null)/\bU W rb (bg+d*3+1) (.int .i64 n.n)/\bU W rb (bg+d*3+2) (.string n.s))/\bU W g 0 (.slice (I ⟨c,0,K⟩) cs.length aJ)/\bU W c (x.length*2+1) (.int .i64 kd)) 15 (λ_ _ _ _ _ b=>absurd (And.left b) (λb=>by cases b)) λd7=>?_;have bm:(λW:F=>(bU W rb (bg+d*3) (.bool n.null)/\bU W rb (bg+d*3+1) (.int .i64 n.n)/\bU W rb (bg+d*3+2) (.string n.s))/\bU W g 0 (.slice (I ⟨c,0,K⟩) cs.length aJ)/\bU W c (x.length*2+1) (.int .i64 kd)) wr.drew:=⟨⟨am,a7,a8⟩,M,av⟩;have P:X (wF w wr.drew g (.slice (I ⟨c,0,K⟩) cs.length aJ) cs (.slice C L.length gQ) L ev es x u18):=O.o.below ((Uq _ _).drew);have t:X (∀W,aP wr.drew W->(λW:F=>(bU W rb (bg+d*3) (.bool n.null)/\bU W rb (bg+d*3+1) (.int .i64 n.n)/\bU W rb (bg+d*3+2) (.string n.s))/\bU W g 0 (.slice (I ⟨c,0,K⟩) cs.length aJ)/\bU W c (x.length*2+1) (.int .i64 kd)) W):=λW b=>⟨⟨(b.cell (p:=⟨rb,_,K⟩) s.o.1).trans am,(b.cell (p:=⟨rb,_,K⟩) s.o.1).trans a7,(b.cell (p:=⟨rb,_,K⟩) s.o.1).trans a8⟩,(b.cell (p:=⟨g,0,K⟩) s.o.2.2).trans M,(b.cell (p:=⟨c,_,K⟩) s.o.2.1).trans av⟩;clear O s am a7 a8 M av;generalize wr.drew=m at*;refine Un.pk 0 ?_;refine Un.pk 1 ?_;refine Un.pk 2 ?_;refine Un.pk 3 ?_;refine Un.pk 4 ?_;refine Un.ld [15] 5 ?_;refine Un.pk 6 ?_;refine Un.pk 7 ?_;refine Un.ld [15] 8 ?_;refine Un.pk 9 ?_;refine Un.pk 10 ?_;refine Un.pk 11 ?_;refine Un.ld [15] 12 ?_;refine Un.pair (i:=13) (j:=14) (by kernel_rfl) Y Y (λj f=>?_) (λj f=>?_);rw[if_pos (by kernel_rfl)];go_simp;go_at_call 24;refine(N.o _).mono ?_;rintro e r ⟨l,a,rfl,q⟩;refine f.o _ _ (λ_=>t.o _ l) ?_;clear f j bm
      try simp only[UX,Ud,Um,Ul]
      refine Un.on 14 λj f=>?_;go_simp;refine f.o _ _ (λ_=>t.o _ (l.trans ((Uq _ _).alloc l.size _))) ?_;clear f j
      try simp only[UX,Ud,Um,Ul]
      refine Un.on 15 λj f=>?_;go_simp;refine f.o _ _ (λb=>absurd b (by decide)) ?_;clear f j;refine Un.done (by kernel_rfl) ?_ _
      try simp only[UX,Ud,Um,Ul]
      obtain⟨b4,b5,b6⟩:=qA r (.bool a.null) (.int .i64 a.n) (.string a.s) 59;have be:=af q;have D:X (wF w (r.alloc (.cells (iG a) 59)) g (.slice (I ⟨c,0,K⟩) cs.length aJ) cs (.slice C L.length gQ) L ev es x u18):=P.o.below (l.trans ((Uq _ _).alloc l.size _));clear l q;clear P t N;generalize r.alloc (.cells (iG a) 59)=ar at*;generalize r.heap.size=cu at*;rotate_left;rw[if_pos (by kernel_rfl)];go_simp;refine f.o _ _ (λ_=>t.o _ ((Uq _ _).alloc (T9 _) _)) ?_;clear f j bm
      try simp only[UX,Ud,Um,Ul]
      refine Un.on 13 λj f=>?_;go_simp;go_at_call 24;refine(N.o _).mono ?_;rintro e r ⟨l,a,rfl,q⟩;have az:=((Uq m.heap.size m).alloc (T9 _) (.cells #[.bool T8,.int .i64 0,.string ⟨#[]⟩] 59)).trans (l.mono (by simp));have a5:r.heap[m.heap.size]? =I (.cells #[.bool T8,.int .i64 0,.string ⟨#[]⟩] 59 (0,0)):=(l.block _ (by simp)).trans (bh m _);refine f.o _ _ (λ_=>t.o _ az) ?_;clear f j
      try simp only[UX,Ud,Um,Ul]
      refine Un.on 15 λj f=>?_;obtain⟨cx,cR,c0,c1⟩:=l6 a5;obtain⟨b4,b5,b6,bs⟩:=Jb (W:=m) (.bool a.null) (.int .i64 a.n) (.string a.s) a5 az (T9 _);go_simp;refine f.o _ _ (λb=>absurd b (by decide)) ?_;clear f j cx cR c0 c1 a5;refine Un.done (by kernel_rfl) ?_ _
      try simp only[UX,Ud,Um,Ul]
      have be:=af q;have D:=af (P.o.below bs);clear l q az bs;clear P t N;generalize ((r.setCell ⟨m.heap.size,0,K⟩ (.bool a.null)).setCell ⟨m.heap.size,1,K⟩ (.int .i64 a.n)).setCell ⟨m.heap.size,2,K⟩ (.string a.s)=ar at*;generalize m.heap.size=cu at*
      all_goals
       have ad:=D.o.own;have d9:=D.o.md.dh.size;have bl:=fD a;have bv:=mX a
       go_upto_region 23 with(at_builtin;refine wpList_append_lies _ Y _ _ 43 Y w.heap.size 59 dq _ 3 32 ay.underlying43 c7 db dc dd Y (by decide) _ x.length _ Y (ad.alloc _) ⟨ar.heap.size,0,K⟩ 1 1 [.bool a.null,.int .i64 a.n,.string a.s] Y Y (VL (bh ar _)) bl (by decide) (by unfold Ur;omega) (by omega) (by simp;omega) _ Y ?_;intro bi S cb J H E a3)
       have G:=aO.jm (n:=x.length+1) (cap:=S) H E;have b0:cb.ownsRow w.heap.size 59 3 (.slice (I ⟨bi,0,K⟩) (x.length+1) S) (x++[a]).length (aH (x++[a])):=by
        rw[jv,bv,Ub];exact J
       have ao:=cn.o _ _ a _ D.o G b0 be.o;replace ao:=af ao;clear ad J H E a3 b0 G D b4 b5 b6 bv bl
       go_wp2_with fail
       go_roundw
       case rel=>
        exact⟨_,by rw[Ub];go_num,by rw[Ub];exact aa,ao.o⟩
       case measure=>simp[UT];omega
     ·have b3:x.length=cs.length:=by omega
      obtain⟨B,A,rfl⟩:=bz h.own;have ad:=h.md.rows;obtain⟨⟨-,ca,-,-,-⟩,-⟩:=h.md.cells;have a4:=h.md.dh.size;have co:=af h.own;have ck:X (Oq cs (L++[(x,.slice B x.length A)])):=λal p=>by
       rcases List.mem_append.1 p with p|p
       ·exact ap.o al p
       ·simp only[List.mem_singleton] at p;subst p;exact⟨b3,O.o.typ⟩
      have a9:X ((L++[(x,Vc B x.length A)]).length*cs.length=k+cs.length):=by
       show(L++[(x,Vc B x.length A)]).length*cs.length=k+cs.length;rw[Ub,an.o,Nat.add_mul];simp
      clear h b3
      go_wp2_with (at_builtin;refine wpList_append_lies _ Y _ _ 26 Y w.heap.size 43 dp _ 1 24 ay.underlying26 Z df dk dl Y (by decide) _ L.length _ Y (ad.alloc _) ⟨wr.heap.size,0,K⟩ 1 1 [.slice B x.length A] Y Y (VL (bh wr _)) (by intro u b2;simp at b2;subst b2;rfl) (by decide) (by unfold Ur;omega) (by omega) (by simp;omega) _ Y ?_;intro bi S cb J H E a3;have G:=aO.jm (n:=L.length+1) (cap:=S) H E;obtain⟨br,am,cc⟩:=O.o.md.So G (x:=x) (u:=.slice B x.length A) co.o (by rw[Ub,U1];exact J);have ec:=cc 1;have cl:=af br;clear J H E a3 G br cc)
      go_roundw
      case rel=>
       exact⟨L++[(x,.slice B x.length A)],_,by rw[a9.o];go_num,by rw[a9.o];exact c2,by rw[Ub];exact c3,ck.o,cl.o⟩
      case measure=>simp[UT];omega
   ·clear y;have a1:L.length*cs.length<=raw.length:=by rw[<-an.o];exact a2
    go_wp2_with fail
    trace_state
    exact⟨L,⟨_,Q.o⟩,ap.o,a1,a0,(((((((An Y (by exact bd.o.symm)).cons Y).cons Y).cons Y).cons Y).cons (by exact bc.o.symm)).cons Y)⟩
  ·clear y;have a1:L.length*cs.length<=raw.length:=by rw[<-an.o];exact a2
   go_wp2_with fail
   trace_state
   exact⟨L,⟨_,Q.o⟩,ap.o,a1,a0,(((((((An Y (by exact bd.o.symm)).cons Y).cons Y).cons Y).cons Y).cons (by exact bc.o.symm)).cons Y)⟩
structure Ll(W:F)(base:Nat)(cv:U)(cs:List bK)(rv:U)(L:List (List aE×U))(ev:U)(es:List Int):Prop where
 ah:W.ownsRow base 63 2 cv cs.length (eI cs)
 rows:W.ownsRow base 43 1 rv L.length (L.map VV)
 each:∀p∈L,W.ownsRow base 59 3 p.2 p.1.length (aH p.1)
 eJ:W.ownsRow base 3 1 ev es.length (bw es)
def nA{W:F}{base:Nat}{e:Ui}{a n:Nat}{v:U}{b:List U}(h:W.ownsRow base e a v n b):n<=Ur:=by
 rcases h.2 with⟨_,g⟩|⟨f,c,d,_,_,_,j,i,_⟩
 ·omega
 ·omega
def vU{W:F}{base:Nat}{f:U}{L:List (List aE×U)}(h1:W.ownsRow base 43 1 f L.length (L.map VV))(i:∀p∈L,W.ownsRow base 59 3 p.2 p.1.length (aH p.1)):AD W f (L.map Uy):=by
 have m:=h1;rcases h1.2 with⟨rfl,h⟩|⟨c,g,n,rfl,o,j,l,q,r,s⟩
 ·obtain rfl:=Vi h;exact⟨K,0,0,0,rfl,T9 _,λa=>by simp at a,λa=>by simp at a,λb a=>by simp at a⟩
 ·refine⟨I ⟨c,0,K⟩,c,0,g,by rw[UH],by rw[UH];exact l,λ_=>rfl,λ_=>(Uc.1 j).1,λb k=>?_⟩;have e:b<L.length:=by simpa using k
  have d:=m.cells (g:=c) Y b L[b].2 (by simp[e]);rw[Xf] at d;refine⟨_,d,?_⟩;rw[Xt];exact rZ.bN (i _ (Uk e))
def uC{k:Int}{v:aE}(l:k=1\/k=2\/k=3)(h:VC k v):fR v k=Z/\rD v:=by
 obtain⟨n,m,s⟩:=v;rcases h with⟨a,b,c⟩|⟨a,f,e,g,i,j⟩
 ·simp only at a b c;subst a b c;exact⟨by simp[fR],⟨by decide,by decide⟩⟩
 ·simp only at a f e g i j;subst a;refine⟨?_,⟨f,e⟩⟩;rcases l with rfl|rfl|rfl
  ·obtain rfl:=g rfl;simp[fR]
  ·obtain⟨d,rfl⟩:=i rfl;rcases d with rfl|rfl<;>simp[fR]
  ·obtain⟨rfl,d⟩:=j rfl;simp[fR];omega
def ML{cs:List bK}{L:List (List aE×U)}{es:List Int}{e:Nat}(hc:hU cs)(k:lE cs es)(o:Oq cs L)(r:L.length<=150)(h1:1<=e)(c:e<=100):m0 cs (L.map Uy) es e:=by
 have m:=gz hc;have f:∀a∈L.map Uy,a.length=cs.length/\R7 cs a:=λa d=>by
  obtain⟨q,n,rfl⟩:=U8.1 d;exact o q n
 have j:∀a∈L.map Uy,∀b (g:b<a.length) (c:b<cs.length),fR a[b] cs[b].kind=Z/\rD a[b]:=λa d b g c=>uC (m _ (Uk c)) ((f a d).2 b g c);refine⟨⟨hc,by rw[UH];omega,λs l=>?_⟩,k,h1,c,λa d t p=>?_⟩
 ·have i:=Uk l;exact⟨(f _ i).1,λb h1 c=>(j _ i b h1 c).1⟩
 ·obtain⟨b,h,rfl⟩:=Vw p;exact(j a d b h (by rw[<-(f a d).1];exact h)).2
section
variable {w W:F}{g:Nat}{cv:U}{cs:List bK}{rv:U}{L:List (List aE×U)}{bd:Int}{ev:U}{es:List Int}{bo:Bool}{base b:Nat}
def Ll.set(h:Ll W base cv cs rv L ev es){c:Array U}(a:W.heap[b]? =I (.cells c 50 (0,0)))(i:Nat)(u:U):Ll (W.setCell ⟨b,i,K⟩ u) base cv cs rv L ev es:=
 ⟨fZ h.ah a (by decide) _ _,fZ h.rows a (by decide) _ _,λe d=>fZ (h.each e d) a (by decide) _ _,fZ h.eJ a (by decide) _ _⟩
def eN.R9(h:eN w W g cv cs rv L bd ev es bo):Ll W w.heap.size cv cs rv L ev es:=⟨h.ah,h.rows,h.each,h.eJ⟩
def eN.Tz(h:eN w W g cv cs rv L bd ev es bo)(b':Int):eN w (W.setCell ⟨g,2,K⟩ (.int .i64 b')) g cv cs rv L b' ev es bo:=by
 have a:=h.hg;have m:=h.R9.set h.box 2 (.int .i64 b');exact⟨by rw[Uv _ _ _ _ (by simp;omega)];exact h.res,Us W g 2 _ _ _ h.box,m.ah,m.rows,m.each,m.eJ,dj h.dh h.dh.size (by omega) _ _,a⟩
def eN.TA(h:eN w W g cv cs rv L bd ev es bo)(b':Bool):eN w (W.setCell ⟨g,4,K⟩ (.bool b')) g cv cs rv L bd ev es b':=by
 have a:=h.hg;have m:=h.R9.set h.box 4 (.bool b');exact⟨by rw[Uv _ _ _ _ (by simp;omega)];exact h.res,Us W g 4 _ _ _ h.box,m.ah,m.rows,m.each,m.eJ,dj h.dh h.dh.size (by omega) _ _,a⟩
def fh{c d e f h:U}{t:Ui}(a:W.heap[g]? =I (.cells #[c,d,e,f,h] t (0,0))):(W.cell? ⟨g,0,K⟩=I c/\W.cell? ⟨g,1,K⟩=I d/\W.cell? ⟨g,2,K⟩=I e/\W.cell? ⟨g,3,K⟩=I f/\W.cell? ⟨g,4,K⟩=I h)/\W.frozen? ⟨g,0,K⟩=T8/\W.frozen? ⟨g,1,K⟩=T8/\W.frozen? ⟨g,2,K⟩=T8/\W.frozen? ⟨g,3,K⟩=T8/\W.frozen? ⟨g,4,K⟩=T8:=
 ⟨⟨by simp[Ut,a],by simp[Ut,a],by simp[Ut,a],by simp[Ut,a],by simp[Ut,a]⟩,by simp[UR,a],by simp[UR,a],by simp[UR,a],by simp[UR,a],by simp[UR,a]⟩
def eN.fill(h:eN w W g cv cs rv L bd ev es bo):let a:=((((W.setCell ⟨w.heap.size,0,K⟩ cv).setCell ⟨w.heap.size,1,K⟩ rv).setCell ⟨w.heap.size,2,K⟩ (.int .i64 bd)).setCell ⟨w.heap.size,3,K⟩ ev).setCell ⟨w.heap.size,4,K⟩ (.bool bo)
 a.heap[w.heap.size]? =I (.cells #[cv,rv,.int .i64 bd,ev,.bool bo] 50 (0,0))/\Ll a w.heap.size cv cs rv L ev es/\aP w a:=by
 have c:=Us W w.heap.size 0 _ _ cv h.res;have d:=Us _ w.heap.size 1 _ _ rv c;have e:=Us _ w.heap.size 2 _ _ (.int .i64 bd) d;have f:=Us _ w.heap.size 3 _ _ ev e;have m:=Us _ w.heap.size 4 _ _ (.bool bo) f;have i:=bT h.dh (T9 _) (T9 _) 0 cv;have j:=bT i (T9 _) (T9 _) 1 rv;have k:=bT j (T9 _) (T9 _) 2 (.int .i64 bd);have l:=bT k (T9 _) (T9 _) 3 ev;exact⟨m,((((h.R9.set h.res 0 cv).set c 1 rv).set d 2 (.int .i64 bd)).set e 3 ev).set f 4 (.bool bo),bT l (T9 _) (T9 _) 4 (.bool bo)⟩
end
def Td (fn:WD):WX:=match fn.body with|some (.seq a _)=>a|_=>.skip
def Te (fn:WD):WX:=match fn.body with|some (.seq _ (.seq a _))=>a|_=>.skip
def Tk (fn:WD):WX:=match fn.body with|some (.seq _ (.seq _ (.seq _ (.seq _ (.seq _ (.seq _ (.seq _ a)))))))=>a|_=>.skip
def Pn:Wd.body=I (.seq (Td Wd) (.seq (Te Wd) (.seq (Tf Wd) (.seq (SS Wd) (.seq (Ti Wd) (.seq (Tg Wd) (.seq (Tj Wd) (Tk Wd)))))))):=rfl
def TG (w:F)(n:Nat)(bo:Bool)(e:WU)(w':F):Prop:=aP w w'/\∃cv cs rv L ev es,∃bd:Nat,e= .returned (.agg #[cv,rv,.int .i64 (bd:Int),ev,.bool bo])/\Ll w' w.heap.size cv cs rv L ev es/\m0 cs (L.map Uy) es bd/\L.length*cs.length<=n
def Pr(w W:F)(v:Nat->U)(g:Nat)(cv:U)(cs:List bK)(rv:U)(L:List (List aE×U))(ev:U)(es:List Int)(bd:Int)(bo:Bool)(y:v 3= .int .i64 bd)(z:v 4= .bool bo)(u:v 10=(bS w.heap.size))(x:v 11=(bS g))(n:lQ bd)(c:eN w W g cv cs rv L 0 ev es T8)(B:∀b:Nat,1<=b->b<=100->m0 cs (L.map Uy) es b):
 (Tk Wd).wp (aB T5) (λe a' W'=>e= .ret/\(∃b:Nat,W'.heap[w.heap.size]? =I (.cells #[cv,rv,.int .i64 (b:Int),ev,.bool bo] 50 (0,0))/\Ll W' w.heap.size cv cs rv L ev es/\aP w W'/\m0 cs (L.map Uy) es b)/\Cc.Knows a' 156 [(10,(bS w.heap.size))]/\a'.defers=[]) (pX v) W:=by
 obtain⟨s,aJ,rfl⟩:=bz c.ah;obtain⟨D,aM,rfl⟩:=bz c.rows;obtain⟨t,bX,rfl⟩:=bz c.eJ;have p:=af c;have q:=af B;have o:X (∀W:F,bG 23 #[.int .i64 bd,.int .i64 100] W λe S=>S=W/\∃a,e= .returned (.int .i64 a)/\0<=a/\a<100):=λW=>qd bd 100 W (by omega) (by omega) n.1 n.2;obtain⟨⟨-,-,E,-,-⟩,h,i,j,k,l⟩:=fh c.box;unfold pX;rw[y,z,u,x];clear y z u x c B n h i k l;unfold Tk Wd;dsimp only
 go_upto_region 28 with(go_at_call 23;refine(o.o _).mono ?_;rintro e H ⟨rfl,a,rfl,Q,R⟩;have P:XO.wrap (1+a)=1+a:=by rw[Xa]<;>omega)
 obtain⟨b,d⟩:∃b:Nat,1+a=(b:Int):=⟨(1+a).toNat,by omega⟩;rw[d];have m:X (eN w (H.setCell ⟨g,2,K⟩ (.int .i64 (b:Int))) g (.slice s cs.length aJ) cs (.slice D L.length aM) L (b:Int) (.slice t es.length bX) es T8):=p.o.Tz _;have N:X (m0 cs (L.map Uy) es b):=q.o _ (by omega) (by omega);clear p q o E j P Q R d;generalize H.setCell ⟨g,2,K⟩ (.int .i64 (b:Int))=r at*;obtain⟨⟨-,-,-,-,G⟩,h,i,j,k,l⟩:=fh m.o.box;clear h i j k
 go_upto_region 29 with fail
 have f:X (eN w (r.setCell ⟨g,4,K⟩ (.bool bo)) g (.slice s cs.length aJ) cs (.slice D L.length aM) L (b:Int) (.slice t es.length bX) es bo):=m.o.TA _;clear m G l;generalize r.setCell ⟨g,4,K⟩ (.bool bo)=T at*;obtain⟨⟨ae,al,E,am,G⟩,-⟩:=fh f.o.box;obtain⟨⟨V,Z,aa,ab,ad⟩,h,i,j,k,l⟩:=fh f.o.res;obtain⟨C,A,d⟩:=f.o.fill;have O:=af C;have M:=af A;have J:=af d;clear C A d f
 go_wp2_with fail
 exact⟨⟨b,O.o,M.o,J.o,N.o⟩,An Y Y⟩
end Ec
namespace Cc
open Go Go.Conc
section
variable {P0 P:Ug}{Post:U->F->Prop}
def qJ(h:Twins P0 P){fr fr':Uu}{aF tops' cs:List Uu}{w w':F}(ok:eO P0 fr aF)(A:w'.tape=w.tape)(s:∀ws,Mk P0 ws w->∃d,rY ws w d w'/\∀c,Steps P0 (lone fr (aF++[bF]) (sh c 0 ws)) (lone fr' (tops'++[bF]) (sh c 0 d)))(E:¬IX fr')
 (C:eO P0 fr' tops'->Sm w w'->tS P0 P Post (Uh fr' (tops'++cs)) w'):tS P0 P Post (Uh fr (aF++cs)) w:=by
 obtain⟨ws,t⟩:=D7 P0 w;obtain⟨d,q,s⟩:=s ws t;refine sY h (Stop:=λf x e=>f=fr'/\x=tops'/\∃c g,e=sh c g d) (λf x e u=>?_) ok t.hp t.un (λc=>⟨fr',tops',_,s c,rfl,rfl,c,0,rfl⟩) (λf x e u2 u G r j=>?_)
 ·obtain⟨rfl,_⟩:=u;exact E
 ·obtain⟨c,g,rfl,rfl,y,l,v⟩:=u;have B:e.heap=d.heap:=show(sh c g e).heap=(sh y l d).heap by rw[v]
  have m:=Qc r q B;have n:u2.os=w'.os:=by
   rw[r.un.os,q.un.os];exact show(sh c g e).os=(sh y l d).os by rw[v]
  have p:u2.output=w'.output:=by
   rw[r.un.output,q.un.output];exact show(sh c g e).output=(sh y l d).output by rw[v]
  have D:AtRel w' u2:=by
   refine⟨u2.drawn,?_⟩;have z:=j.tape.trans A.symm;obtain⟨H,I,J,K,L⟩:=u2;simp only at m n p z;subst m n p z;rfl
  exact Rn (C G ⟨A,n▸j.os,p▸j.output,m▸j.size⟩) D
def Fu (P0 P:Ug)(Post:U->F->Prop)(l:Nat)(args:Array U)(w:F)(R:U->F->Prop):Prop:=
 ∃c:Loop,w.heap[l]? =I (.loop c)/\bk P0 (.loop c)/\args.size=c.params.size/\∀(d:Uu) (cs:List Uu),eO P0 d []->Qw d->xH P0 w->
  (∀v e,R v e->xH P0 e->Sm w e->eO P0 (d.finish v) []->tS P0 P Post (Uh (d.finish v) cs) e)->
  eO P0 (WZ l c.fn ((c.params.zip args).foldl (λg (f,a)=>g.setIfInBounds f a) c.tmps) c.assign c.body .normal) [d]->tS P0 P Post (Uh (WZ l c.fn ((c.params.zip args).foldl (λg (f,a)=>g.setIfInBounds f a) c.tmps) c.assign c.body .normal) (d::cs)) w
section
variable {b:Uu}{a:V7}{k:List WO}{cs:List Uu}{w:F}{ops:Array Vv}{i:Nat}{rest:List Nat}{o:Vv}
def MW(h:Twins P0 P){x:U7}{f:Array U7}{ats:Array Ui}{l:Nat}{R:U->F->Prop}(n:ops[i]? =I o)(L:UG o (Vk ops a.tmps)=Z)(A:o.op= .call {callee:=.value x,args:=f,argTypes:=ats})(M:a.eval x= .func (.yield l) #[] #[])
 (hR:Fu P0 P Post l (f.map a.eval) w R) (u:∀v w',R v w'->Sm w w'->Fi P0 P Post (b.at (a.put o.dst v) (.inRegion ops rest::k)) cs w'):Fi P0 P Post (b.at a (.inRegion ops (i::rest)::k)) cs w:=by
 intro q O;obtain⟨c,C,D,H,y⟩:=hR;have E:∀d,Mk P0 d w->∀e,(UI a.eval o).run P0 (sh e 0 d)= .ok (.round l c.fn ((c.params.zip (f.map a.eval)).foldl (λtmps (j,a)=>tmps.setIfInBounds j a) c.tmps) c.assign c.body) (sh e 0 d):=λd g e=>by
  have r:(sh e 0 d).heap[l]? =I (.loop c):=g.at_ l _ C D;have t:=run_yield (P:=P0) (args:=f.map a.eval) r H;unfold UI;simp[A,resolve,XP,M,invoke,t]
 refine qJ (aF:=[]) (tops':=[b.at a (.inRegion ops (i::rest)::k)]) (fr':=WZ l c.fn ((c.params.zip (f.map a.eval)).foldl (λtmps (j,a)=>tmps.setIfInBounds j a) c.tmps) c.assign c.body .normal) (w':=w) h q Y (λd g=>⟨d,g.un.two,λe=>.one (step_lone_go ?_)⟩) (λz=>?_) λN Q=>?_
 ·rw[stepG_op n L];simp[VO,E d g e]
 ·obtain⟨_,s,J⟩:=z;simp[WZ] at J
 ·refine y _ cs q ⟨rfl,.inl ⟨ops,i,rest,k,rfl⟩⟩ trivial (λv w' K B G p=>?_) N;have m:=XI b a ops i rest k v;rw[n] at m;rw[m] at p ⊢;exact u v w' K G p B
end
section
variable {b:Uu}{k:List WO}{cs:List Uu}{ops:Array Vv}
def Pz{o:Vv}{i:Nat}{rest:List Nat}{a:V7}{w:F}{next:V7->F->Prop}{Q:Exit->V7->F->Prop}(n:ops[i]? =I o)(z:UG o (Vk ops a.tmps)=Z)(x:∀c,o.op≠.defer c)(r:∀ch a w,¬Q (.panic ch) a w)(y:¬LetsOut Q)(h:o.wp P0 a w next Q):
 ∃a' w',next a' w'/\Steps P0 (lone (b.atR a (.inRegion ops (i::rest)::k)) cs w) (lone (b.atR a' (.inRegion ops rest::k)) cs w'):=by
 have e:=stepGR_op (P:=P0) (b:=b) (k:=k) (cs:=cs) (w:=w) (rest:=rest) n z;rw[Oper.semAt_eq _ _ _ x] at e;have j:∀v,(b.atR a (.inRegion ops (i::rest)::k)).finish v=b.atR (a.put o.dst v) (.inRegion ops rest::k):=by
  intro v;rw[Frame.finish_atR,n];rfl
 simp only[Oper.wp,Oper.upon] at h
 split at h
 ·rename_i v w' d;refine⟨_,_,h,.one (step_lone_go ?_)⟩;rw[e,<-j];simp[VO,d]
 ·rename_i w' d;refine⟨_,_,h,.one (step_lone_go ?_)⟩;rw[e,<-j];simp[VO,d]
 ·rename_i l w' d;refine⟨_,_,h,.one (step_lone_go ?_)⟩;have t:({b.atR a (.inRegion ops (i::rest)::k) with defers:=l::a.defers}:Uu).finish Vl=b.atR ({a with defers:=l::a.defers}.put o.dst Vl) (.inRegion ops rest::k):=by
   have:=Frame.finish_atR b {a with defers:=l::a.defers} ops i rest k Vl;rw[n] at this;exact this
  rw[e];simp only[VO,Ye,d,GStep.bare_after];exact congrArg (λq=>GStep.go {frame:=q,callers:=cs,status:=.running,dying:=K} w') t
 ·rename_i f args w' d;obtain⟨s,B,q,g,p,_,u⟩:=h (b.atR a (.inRegion ops (i::rest)::k)::cs);have m:step P0 (lone (b.atR a (.inRegion ops (i::rest)::k)) cs w)= .next (lone (UZ P0 f args .normal) (b.atR a (.inRegion ops (i::rest)::k)::cs) w'):=
   step_lone_go (by rw[e];simp[VO,d,Frame.atR])
  cases s with
  |returned v=>
   refine⟨_,_,g,.head m (p.trans (.one ?_))⟩;rw[<-j];exact step_leave_returned u
  |panicked C=>exact absurd g (r _ _ _)
  |outgrown=>exact absurd g y
 ·rename_i A args w' d;obtain⟨v,B,g,p⟩:=h (b.atR a (.inRegion ops (i::rest)::k)) cs;have m:step P0 (lone (b.atR a (.inRegion ops (i::rest)::k)) cs w)= .next (lone (Frame.ofRow P0 A args .normal) (b.atR a (.inRegion ops (i::rest)::k)::cs) w'):=
   step_lone_go (by rw[e];simp[VO,d,Frame.atR])
  refine⟨_,_,g,.head m ?_⟩;rw[<-j];exact p
 ·exact absurd h (r _ _ _)
 ·exact h.elim
def B7:Op->Bool
 | .defer _=>Z
 |_=>T8
def QG{Q:Exit->V7->F->Prop}(rest:List Nat)(v:(ops.toList.all λo=> !B7 o.op)=Z)(x:∀ch a w,¬Q (.panic ch) a w)(n:¬LetsOut Q):∀(l:List Nat) (a:V7) (w:F),wpOps P0 ops Q l a w->
 ∃a' w',Q .normal a' w'/\Steps P0 (lone (b.atR a (.inRegion ops (l++rest)::k)) cs w) (lone (b.atR a' (.inRegion ops rest::k)) cs w'):=by
 intro l
 induction l with
 |nil=>exact λa w c=>⟨a,w,c,.refl _ _⟩
 |cons i l j=>
  intro a w c;simp only[wpOps] at c;cases d:ops[i]? with
  |none=>
   simp only[d] at c;have g:=stepR_op_skip (P:=P0) (b:=b) (a:=a) (k:=k) (cs:=cs) (w:=w) (ops:=ops) (i:=i) (rest:=l++rest) (by simp[d]);simp only[d,Option.bind_none,UX] at g;obtain⟨a',w',e,f⟩:=j a w c;exact⟨a',w',e,.head g f⟩
  |some o=>
   simp only[d] at c;have t:∀m,o.op≠.defer m:=λm q=>by
    obtain⟨u,rfl⟩:=Uc.1 d;have:=UA.1 v _ (Array.getElem_mem_toList u);rw[q] at this;cases this
   by_cases h:UG o (Vk ops a.tmps)=Z
   ·simp only[h,if_true] at c;rcases c with c|⟨_,c⟩
    ·obtain⟨a',w',e,f⟩:=Pz (b:=b) (k:=k) (cs:=cs) (rest:=l++rest) d h t x n c;obtain⟨p,y,r,s⟩:=j a' w' e;exact⟨p,y,r,f.trans s⟩
    ·exact absurd c n
   ·simp only[h,if_false,UC] at c;have g:=stepR_op_skip (P:=P0) (b:=b) (a:=a) (k:=k) (cs:=cs) (w:=w) (ops:=ops) (i:=i) (rest:=l++rest) (by simp[d];simpa using h);simp only[d,XT] at g;obtain⟨a',w',e,f⟩:=j _ w c;exact⟨a',w',e,.head g f⟩
end
end
section
variable {P0 P:Ug}{Post:U->F->Prop}{b:Uu}{a:V7}{k:List WO}{cs:List Uu}{w:F}
def Ba (fn:V2)(tmps:Array U)(ps:Array Tmp)(assign body:WX)(D:Nat):Loop:={state:=.ready,pending:=K,fn,tmps,params:=ps,assign,body,defers:=D}
def MV(h:Twins P0 P){g:U7}{ps:Array Tmp}{assign body:WX}{gf:V2}{cap:Array U}{R:WU->F->Prop}(u:a.eval g= .func (.func gf) #[] cap)(hc:∀args w,(callFunc gf args).run P0 w= .ok (.enter gf args) w)(r:P.funcs[gf]? =P0.funcs[gf]? \/UZ P gf (#[.func (.yield (w.heap.size+1)) #[] #[]]++cap) .normal=UZ P0 gf (#[.func (.yield (w.heap.size+1)) #[] #[]]++cap) .normal)
 (hR:mj P0 P Post gf (#[.func (.yield (w.heap.size+1)) #[] #[]]++cap) ((w.alloc (.deferred (I []))).alloc (.loop (Ba b.fn a.tmps ps assign body w.heap.size))) R)
 (n:∀v w',R (.returned v) w'->Sm w w'->Fi P0 P Post (b.at {a with defers:={target:=.collected w.heap.size,args:= #[]}::a.defers} (.endRangeFunc (w.heap.size+1)::k)) cs w') (x:∀ch w',¬R (.panicked ch) w') (y:∀w',¬R .outgrown w') (z:∀s,(UZ P0 gf (#[.func (.yield (w.heap.size+1)) #[] #[]]++cap) .normal).todo≠[.code (.refuse s)]):Fi P0 P Post (b.at a (.code (.rangeFunc g ps assign body)::k)) cs w:=by
 intro ok J;have t:UZ P gf (#[.func (.yield (w.heap.size+1)) #[] #[]]++cap) .normal=UZ P0 gf (#[.func (.yield (w.heap.size+1)) #[] #[]]++cap) .normal:=by
  rcases r with d|d
  ·unfold UZ;rw[d]
  ·exact d
 let j:Uu:={b with roundOf:=K};have H:∀a todo,j.atR a todo=b.at a todo:=λa todo=>rfl;refine qJ (aF:=[]) (tops':=[b.at {a with defers:={target:=.collected w.heap.size,args:= #[]}::a.defers} (.inRangeFunc (w.heap.size+1)::k)]) (fr':=UZ P0 gf (#[.func (.yield (w.heap.size+1)) #[] #[]]++cap) .normal) (w':=(w.alloc (.deferred (I []))).alloc (.loop (Ba b.fn a.tmps ps assign body w.heap.size))) h ok Y (λc i=>⟨(c.alloc (.deferred (I []))).alloc (.loop (Ba b.fn a.tmps ps assign body w.heap.size)),?_,λm=>.one ?_⟩) (λp=>?_) λl D=>?_
 ·exact(i.un.push (by simp[pz])).trans ((i.un.push (by simp[pz])).un.push (by simp[pz]))
 ·rw[<-i.un.size.symm];have e:=run_enterLoop_outer (P:=P0) (w:=sh m 0 c) b.fn a.tmps ps assign body;have C:=stepR_rangeFunc (P:=P0) (b:=j) (a:=a) (k:=k) (cs:=[bF]) (w:=sh m 0 c) (g:=g) (ps:=ps) (assign:=assign) (body:=body) (w₁':=_) (d:={target:=.fn (.func gf) cap,args:= #[.func (.yield (c.heap.size+1)) #[] #[]]}) (f:=gf) (args:= #[.func (.yield (c.heap.size+1)) #[] #[]]++cap) e (by
   have d:a.eval (.const (.func (.yield (c.heap.size+1)) #[] #[]))= .func (.yield (c.heap.size+1)) #[] #[]:=rfl;simp[resolve,rangeCall,u,XP,sh];exact⟨rfl,rfl⟩) (by simp only[invoke];exact hc _ _)
  exact C
 ·obtain⟨_,s,G⟩:=p;exact z s G
 ·have o:eO P0 (b.at {a with defers:={target:=.collected w.heap.size,args:= #[]}::a.defers} (.inRangeFunc (w.heap.size+1)::k)) []:=⟨l.rest _ (by simp),λf q=>by simp at q,l.bot⟩;show tS P0 P Post (Uh (UZ P0 gf _ .normal) _) _;rw[<-t];refine hR _ cs o ⟨rfl,.inr ⟨_,_,rfl⟩⟩ trivial λd w' e B E A=>?_;cases d with
  |returned v=>exact n v w' e (D.trans E) A B
  |panicked ch=>exact absurd e (x _ _)
  |outgrown=>exact absurd e (y _)
def Ef(h:Twins P0 P){l:Nat}{r:Loop}(m:w.heap[l]? =I (.loop r))(o:bk P0 (.loop r))(p:r.state≠.busy)(d:r.pending=K)(n:∀s,k≠[.code (.refuse s)])(g:Fi P0 P Post (b.at a k) cs (w.putObj l (.loop {r with state:=.exhausted}))):Fi P0 P Post (b.at a (.endRangeFunc l::k)) cs w:=by
 intro t B;let f:Uu:={b with roundOf:=K};refine qJ (aF:=[]) (tops':=[]) (fr':=b.at a k) (w':=w.putObj l (.loop {r with state:=.exhausted})) h t Y (λe c=>⟨e.putObj l (.loop {r with state:=.exhausted}),c.un.set l (by simp[pz]),λv=>.one ?_⟩) (λi=>?_) λu C=>g u trivial
 ·have j:=run_endLoop (P:=P0) (w:=sh v 0 e) (l:=l) (r:=r) (c.at_ l _ m o) p;have:=stepR_endRangeFunc (P:=P0) (b:=f) (a:=a) (k:=k) (cs:=[bF]) j;obtain⟨F,D,A,G,E,x,y,z⟩:=r;simp only at d;subst d;exact this
 ·obtain⟨_,s,q⟩:=i;exact n s q
def Cb(h:Twins P0 P){D:Nat}{todo:List WO}(c:a.defers=[{target:=.collected D,args:= #[]}])(f:w.heap[D]? =I (.deferred (I [])))(g:Fi P0 P Post {b.at {a with defers:=[]} todo with mode:=.returning} cs (w.putObj D (.deferred K))):Fi P0 P Post {b.at a todo with mode:=.returning} cs w:=by
 intro j o;refine qJ (aF:=[]) (tops':=[]) (fr':={b.at {a with defers:=[]} todo with mode:=.returning}) (w':=w.putObj D (.deferred K)) h j Y (λe d=>⟨e.putObj D (.deferred K),d.un.set D (by simp[pz]),λm=>.one (step_lone_go ?_)⟩) (λc=>?_) λl p=>g l trivial
 ·have i:=run_takeDeferred (P:=P0) (w:=sh m 0 e) (b:=D) (ds:=[]) (d.at_ D _ f (λn c=>by cases c));simp[stepG,unwind,Frame.at,c,i,Ye,GStep.bare_after];rfl
 ·obtain⟨d,_⟩:=c;cases d
end
end Cc
namespace Cc
open Go Go.Conc
open Go.RowKit (Below)
def Xe (P0 P:Ug)(Post:U->F->Prop)(own:Nat->Prop)(fr:Uu)(cs:List Uu)(w:F):Prop:=
 (∀b,own b->b<w.heap.size)->∀c,RelB own w c->xH P0 c->tS P0 P Post (Uh fr cs) c
def JU:Nat->Prop:=λ_=>False
def RF{own:Nat->Prop}{w c:F}(h:RelB own w c):RelB (λb=>JU b\/own b) w c:=h.mono λb d=>d.elim Yr (λh=>h)
def Ge{own:Nat->Prop}{w c:F}(h:RelB (λb=>JU b\/own b) w c):RelB own w c:=h.mono λb d=>.inr d
def ir(P0 P:Ug)(Post:U->F->Prop):nR P0 P JU Z (Xe P0 P Post):=by
 refine⟨λown y cs w c h p f n=>?_,λown y cs w p c f h u C n=>?_⟩
 ·refine yK λu e=>?_;obtain⟨q,rfl⟩:=e;obtain⟨G,E,g,x,v,d,D⟩:=c (p.at q) (RF (f.trans (RelB.at _ _ _)));have j:∀b,cV own (p.at q) g b->b<g.heap.size:=λb A=>A.elim (λc=>Ue (h b c) (Uz f.size d.size)) (λc=>c.2);refine⟨_,g,x,v,rfl,⟨d.size,d.tape,d.os,d.output,d.hp,λr B=>?_⟩,D j g (RelB.refl _ _) (d.hp n)⟩;have:=d.evs r B;unfold EvW at this;unfold C8;cases l:r.loc with
  |cell a=>rw[l] at this;exact this.elim (j _) (λc=>c.1.elim)
  |obj H=>rw[l] at this;exact this.elim (j _) (λc=>c.1.elim)
  |mark m=>rw[l] at this;exact this
  |_=>trivial
 ·have t:=Ge f;refine c (λb s=>?_) u (t.trans C) n;have z:=h b s;have e:=t.at_ b s;rw[UW z] at e;exact(Uc.1 e.symm).1
def yB (P:Ug):WO->Bool
 | .code c| .inLoop c=>bn P T8 c
 | .inBlock _| .inRangeFunc _| .endRangeFunc _=>Z
 | .inRegion ops _=>ops.toList.all λo=>mE P T8 o.op
 |_=>T8
def dK{P:Ug}{b:Uu}{a:V7}{todo:List WO}(c:b.kind= .normal)(e:a.defers=[])(l:(todo.all (yB P))=Z):eO P (b.at a todo) []:=by
 refine⟨⟨λi j=>?_,λd g=>?_,.inl c⟩,λf h=>by simp at h,c⟩
 ·have:=UA.1 l i j;cases i<;>first|exact this|trivial|cases this
 ·have:d∈a.defers:=g;rw[e] at this;cases this
section
variable {P0 P:Ug}{Post:U->F->Prop}{own:Nat->Prop}{cs:List Uu}{w:F}{b:Uu}{a:V7}{k:List WO}{ops:Array Vv}{i:Nat}{rest:List Nat}{o:Vv}
def grown(own:Nat->Prop)(n m:Nat):Nat->Prop:=λb=>own b\/(n<=b/\b<m)
def sE{f:V2}{fn:WD}{c:WX}{args:Array U7}{ats:Array Ui}{vs:Array U}{R:F->WU->F->Prop}(y:b.kind= .normal)(D:ops[i]? =I o)(L:UG o (Vk ops a.tmps)=Z)(E:o.op= .call {callee:=.value (.func f),args,argTypes:=ats})(u:args.map a.eval=vs)
 (A:P.funcs[f]? =I fn) (B:(fn.name == "runtime.NumGoroutine")=T8) (x:fn.body=I c) (J:eO P0 (b.at a (.inRegion ops (i::rest)::k)) []) (hR:∀d,RelB own w d->mj P0 P Post f vs d (R d))
 (t:∀d v w',RelB own w d->R d (.returned v) w'->Sm d w'->xH P0 w'->tS P0 P Post (Uh (b.at (a.put o.dst v) (.inRegion ops rest::k)) cs) w') (hP:∀d ch w',¬R d (.panicked ch) w') (C:∀d w',¬R d .outgrown w'):Xe P0 P Post own (b.at a (.inRegion ops (i::rest)::k)) cs w:=by
 intro M d m G;have:=Px (P0:=P0) (P:=P) (Post:=Post) (b:=b) (a:=a) (k:=k) (cs:=cs) (w:=d) (R:=λh w'=>∃e,R (d.at e) h w') y D L E A B x (λO l=>by
  obtain⟨e,rfl⟩:=l;rw[u];intro n p q l r s;exact hR _ (m.trans (RelB.at _ _ _)) n p q l r λh w' z=>s h w' ⟨e,z⟩) (λv w' ⟨e,S⟩ g N H=>t (d.at e) v w' (m.trans (RelB.at _ _ _)) S ⟨g.tape,g.os,g.output,g.size⟩ H) (λch w' ⟨e,j⟩=>absurd j (hP _ _ _)) (λw' ⟨e,j⟩=>C _ _ j)
 exact this J G
def C6(h:Twins P0 P){f:V2}{fn:WD}{c:WX}{args:Array U7}{ats:Array Ui}{vs:Array U}{R:F->WU->F->Prop}(L:b.kind= .normal)(q:ops[i]? =I o)(aa:UG o (Vk ops a.tmps)=Z)(S:o.op= .call {callee:=.value (.func f),args,argTypes:=ats})(K:args.map a.eval=vs)
 (N:P.funcs[f]? =I fn) (Q:(fn.name == "runtime.NumGoroutine")=T8) (x:fn.body=I c) (O:P.funcs[f]? =P0.funcs[f]?) (V:eO P0 (b.at a (.inRegion ops (i::rest)::k)) [])
 (hR:∀W,(∀b o,own b->w.heap[b]? =I o->bk P0 o->W.heap[b]? =I o)->w.heap.size<=W.heap.size->Calls P0 f vs W λe W'=>aP W W'/\∃v,e= .returned v/\R W (.returned v) W')
 (H:∀v w' W W',(∀b o,own b->w.heap[b]? =I o->bk P0 o->W.heap[b]? =I o)->w.heap.size<=W.heap.size->aP W W'->R W (.returned v) W'->Un W' w'->RelB own w w'->Xe P0 P Post (grown own W.heap.size w'.heap.size) (b.at (a.put o.dst v) (.inRegion ops rest::k)) cs w'):Xe P0 P Post own (b.at a (.inRegion ops (i::rest)::k)) cs w:=by
 intro y;refine sE (P0:=P0) (R:=λn e ab=>∃m,Mk P0 m n/\Tl m n (λe W'=>∃W,W.heap=m.heap/\aP W W'/\∃v,e= .returned v/\R W (.returned v) W') e ab) L q aa S K N Q x V (λn d=>?_) (λn v w' d Y z T=>?_) (λn ad w' ⟨_,_,_,_,_,_,W,_,_,v,e,_⟩=>by cases e) (λn w' ⟨_,_,_,_,_,_,W,_,_,v,e,_⟩=>by cases e) y
 ·obtain⟨m,l⟩:=D7 P0 n;intro B C p g E G;exact pN h l.hp l.un O (λw' ⟨W,_,_,v,e,_⟩=>by cases e) (λr=>(hR (sh r 0 m) (λb o x q t=>l.at_ b o ((d.at_ b x).trans q) t) (by show w.heap.size<=m.heap.size;rw[<-l.un.size];exact d.size)).mono λe W' ⟨p,g⟩=>⟨sh r 0 m,rfl,p,g⟩) B C p g E λe w' M=>G e w' ⟨m,l,M⟩
 obtain⟨m,l,r,D,W',g,W,u,s,ae,e,J⟩:=Y;cases e;have X:W.heap.size<=w'.heap.size:=by rw[g.un.size];exact s.size
 have A:W.heap.size=n.heap.size:=by rw[u,l.un.size]
 have hrel:RelB own w w':=⟨λb j=>by
  have p:W'.heap[b]? =W.heap[b]? :=s.block b (by rw[A];exact Ue (y b j) d.size);exact(g.same l.un (by rw[p,u])).trans (d.at_ b j),Uz d.size (by rw[<-A];exact X),z.tape.trans d.tape,z.os.trans d.os,z.output.trans d.output⟩
 refine H v w' W (sh r D W') (λb o j q t=>by rw[u];exact l.at_ b o ((d.at_ b j).trans q) t) (by rw[A];exact d.size) s J ⟨g.un.size,g.un.at_,g.un.os,g.un.output⟩ hrel (λb j=>?_) w' (RelB.refl _ _) T;rcases j with j|j
 ·exact Ue (y b j) hrel.size
 ·exact j.2
def Qi(h:Twins P0 P){x:U7}{d:Array U7}{ats:Array Ui}{vs:Array U}{l:Nat}{R:F->U->F->Prop}(j:ops[i]? =I o)(t:UG o (Vk ops a.tmps)=Z)(m:o.op= .call {callee:=.value x,args:=d,argTypes:=ats})(u:a.eval x= .func (.yield l) #[] #[])(g:d.map a.eval=vs)(r:eO P0 (b.at a (.inRegion ops (i::rest)::k)) [])
 (hR:∀c,RelB own w c->Fu P0 P Post l vs c (R c)) (f:∀c v w',RelB own w c->R c v w'->Sm c w'->xH P0 w'->tS P0 P Post (Uh (b.at (a.put o.dst v) (.inRegion ops rest::k)) cs) w'):Xe P0 P Post own (b.at a (.inRegion ops (i::rest)::k)) cs w:=by
 intro y c e n;exact MW h j t m u (by rw[g];exact hR c e) (λv w' s q _ p=>f c v w' e s q p) r n
def Xe.go{fr:Uu}(h:Xe P0 P Post own fr cs w)(c:∀b,own b->b<w.heap.size)(d:xH P0 w):tS P0 P Post (Uh fr cs) w:=h c w (RelB.refl _ _) d
end
section
variable {P:Ug}{a:V7}{o:Vv}
def yL{t:Ui}{x:U7}{c:Bool}(e:o.op= .unOp .not t x)(f:a.eval x= .bool c):∀d,(UI a.eval o).run P d= .ok (.value (.bool (!c))) d/\(UI a.eval o).events P d #[]=#[]:=λd=>by
 unfold UI;simp[e,f,Op.unary]
end
def oX{o:Vv}{ops:Array Vv}{z:V7}{j d:Nat}{want b:Bool}(g:o.guard=I (j,want))(e:jh ops j=I d)(c:aV z d= .bool b)(f:d<z.tmps.size):UG o (Vk ops z.tmps)=(b==want):=by
 unfold UG Vk;rw[g];unfold jh at e;unfold aV at c;rw[UE,UW f] at c;simp only[e,XT,UW f];simp only[V3] at c;rw[c];cases b<;>cases want<;>rfl
def Knows.want{a:V7}{n:Nat}{l:List (Nat×U)}(c:Knows a n l){o:Vv}{ops:Array Vv}{j d:Nat}{want b:Bool}(f:o.guard=I (j,want))(e:jh ops j=I d)(h:l.lookup d=I (.bool b))(g:d<n):UG o (Vk ops a.tmps)=(b==want):=oX f e (c.slot d _ h) (by rw[c.size];exact g)
def sO{P0 P:Ug}{S:Nat->Prop}{m:Bool}{f:(Nat->Prop)->Uu->List Uu->F->Prop}{own:Nat->Prop}{cs:List Uu}{w:F}{b:Uu}{a:V7}{k:List WO}{ops:Array Vv}{i:Nat}{rest:List Nat}{o:Vv}(h:nR P0 P S m f){n:Nat}{l:List (Nat×U)}(g:Knows a n l){d j e:Nat}{want c:Bool}(s:Knows (a.put (I d) Vl) n ((d,Vl)::l)->f own (b.at (a.put (I d) Vl) (.inRegion ops rest::k)) cs w)(x:ops[i]? =I o:=by rfl)(r:o.guard=I (j,want):=by rfl)(q:jh ops j=I e:=by rfl)(y:l.lookup e=I (.bool c):=by rfl)(t:e<n:=by decide)(v:(c==want)=T8:=by rfl)(p:o.dst=I d:=by rfl)(u:d<n:=by decide):f own (b.at a (.inRegion ops (i::rest)::k)) cs w:=
 xU h x ((g.want r q y t).trans v) (by rw[p];exact s (g.put u Vl))
end Cc
namespace Cc
open Go
section
variable {P P':Ug}{O:Obj->Prop}
def tE(a:Twin P P')(b:Plain O)(v:U):St P P' O (YE v):=by
 unfold YE;refine cD ?_ ?_
 ·have:∀v,handleType P' v=handleType P v:=λv=>by unfold handleType;rw[a.yq]
  rw[this]
 ·((try dsimp only);repeat' first|exact bM a _|exact aA _|exact sA a _|assumption|(refine ag ?_ (λ_=>?_))|intro _|split|(dsimp only)|exact trivial)
def CP(a:Twin P P')(b:Plain O)(i:Xi):St P P' O (YF i):=by
 unfold YF
 ((try dsimp only);repeat' first|exact bM a _|assumption|(refine ag ?_ (λ_=>?_))|intro _|split|(dsimp only)|exact trivial)
def zG(b:Twin P P')(a:Plain O)(args:Array U):St P P' O (Yt args):=by
 unfold Yt YJ
 ((try dsimp only);repeat' first|exact bP b a _|exact tF _ _|(refine aY _ ?_;rfl)|exact qp _|exact oh b a _|exact tE b a _|exact CP b a _|assumption|(refine ag ?_ (λ_=>?_))|(refine bW ?_ ?_)|intro _|split|(dsimp only)|exact trivial)
def Rt{o:Option String}{a:String->Wv U}{b:Unit->Wv U}(h1:∀f,St P P' O (a f))(c:St P P' O (b ())):St P P' O (YL (λ_=>Wv U) o a b):=by
 cases o with
 |none=>exact c
 |some f=>exact h1 f
def GR(args:Array U):St P P' O (YS args):=by
 have a:∀s:String,St P P' O (stuck s:Wv U):=λs=>aA s;obtain⟨c⟩:=args;rcases c with _|⟨v,_|⟨o,c⟩⟩
 case cons.nil=>
  cases v with
  |agg b=>
   obtain⟨d⟩:=b;rcases d with _|⟨e,_|⟨g,_|⟨h,_|⟨i,_|⟨k,d⟩⟩⟩⟩⟩
   case cons.cons.cons.cons.nil=>
    cases e with
    |int l b=>
     cases g with
     |int m p=>
      cases h with
      |bool s=>
       cases i with
       |int n j=>
        refine Rt (o:=(if (s&&decide (b<0))=Z then YN else YP)[j.toNat]?) (λf=>?_) ?_
        ·exact trivial
        ·exact a _
       |_=>exact a _
      |_=>exact a _
     |_=>exact a _
    |_=>exact a _
   all_goals exact a _
  |_=>exact a _
 all_goals exact a _
def G4(c:Twin P P')(b:Plain O)(args:Array U):St P P' O (Yp args):=by
 have a:∀s:String,St P P' O (stuck s:Wv U):=λs=>aA s;unfold Yp YJ;obtain⟨d⟩:=args;rcases d with _|⟨v,_|⟨j,d⟩⟩
 case cons.nil=>
  cases v with
  |agg f=>
   obtain⟨e⟩:=f;rcases e with _|⟨g,_|⟨h,e⟩⟩
   case cons.nil=>
    refine ag (tE c b _) λi=>?_
    split
    ·exact trivial
    ·exact bP c b _
   all_goals exact a _
  |_=>exact a _
 all_goals exact a _
def EQ(a:UK)(n:Nat)(b:ByteArray):St P P' O (YK a n b):=by
 induction n generalizing a b with
 |zero=>exact trivial
 |succ n c=>
  unfold YK;refine ag (tF _ _) λv=>?_
  split
  ·exact c _ _
  ·exact aA _
def zw(v:U):St P P' O (YM v):=by
 unfold YM
 split<;>first|exact trivial|exact EQ _ _ _|exact aA _
def EN(args:Array U):St P P' O (XA args):=by
 have b:∀s:String,St P P' O (stuck s:Wv U):=λs=>aA s;unfold XA;obtain⟨a⟩:=args;rcases a with _|⟨c,_|⟨d,_|⟨e,a⟩⟩⟩
 case cons.cons.nil=>exact ag (zw _) λ_=>ag (zw _) λ_=>trivial
 all_goals exact b _
def dY(b:Twin P P')(a:Plain O):∀r∈Vb,∀args,St P P' O (r.2 args):=by
 intro r c args;simp only[Vb,VN,XS,or_false] at c;rcases c with rfl|rfl|rfl|rfl|rfl|rfl|rfl|rfl|rfl|rfl|rfl|rfl|rfl|rfl|rfl
 all_goals first
  |exact GR _
  |exact zG b a _
  |exact G4 b a _
  |exact trivial
  |exact ag (qp _) λ_=>trivial
  |exact ag (zu _) λ_=>ag (qp _) λ_=>trivial
  |exact ag (zu _) λ_=>ag (lg _) λ_=>trivial
def G0(a:11<Yo.length)(args:Array U):St P P' O ((Yo[11]'a).2 args):=ag (lg (args.getD 0 (.tuple #[]))) λ_=>trivial
def fX{fn:WD}{n:String}{e:Array U->Wv U}(c:fn.name=n)(h1:(Extern.allGenericRows.lookup n).isNone=Z)(a:(Extern.allTypedRows.lookup n).isNone=Z)(b:Extern.allRows.lookup n=I e):YC fn=I e:=by
 unfold YC;dsimp only;rw[c,V1.1 h1,V1.1 a,b];rfl
def ux{fn:WD}{n m:String}(d:fn.name=n)(c:fn.origin=m)(h1:(Extern.allGenericRows.lookup n).isNone=Z)(a:(Extern.allTypedRows.lookup n).isNone=Z)(b:(Extern.allRows.lookup n).isNone=Z)(e:(Extern.allGenericRows.lookup m).isNone=Z)(f:(Extern.allTypedRows.lookup m).isNone=Z)(g:(Extern.allRows.lookup m).isNone=Z):YC fn=K:=by
 unfold YC;dsimp only;rw[d,c,V1.1 h1,V1.1 a,V1.1 b,V1.1 e,V1.1 f,V1.1 g];rfl
end
def Hu:(T5.funcs.toList.all λfn=> !fn.body.isNone||(([Tryz.f0.name,Tryz.f1.name,Tryz.f168.name,Tryz.f179.name,Tryz.f180.name,Tryz.f181.name,Tryz.f182.name,Tryz.f183.name,Tryz.f184.name,Tryz.f185.name,Tryz.f186.name,Tryz.f187.name,Tryz.f188.name,Tryz.f189.name,Tryz.f190.name,Tryz.f191.name,Tryz.f192.name,Tryz.f193.name,Tryz.f194.name]:List String).contains fn.name&&fn.origin==Tryz.f0.origin))=Z:=by kernel_rfl
def RV{fn:WD}(a:(([Tryz.f0.name,Tryz.f1.name,Tryz.f168.name,Tryz.f179.name,Tryz.f180.name,Tryz.f181.name,Tryz.f182.name,Tryz.f183.name,Tryz.f184.name,Tryz.f185.name,Tryz.f186.name,Tryz.f187.name,Tryz.f188.name,Tryz.f189.name,Tryz.f190.name,Tryz.f191.name,Tryz.f192.name,Tryz.f193.name,Tryz.f194.name]:List String).contains fn.name)=Z)(f:fn.origin=Tryz.f0.origin){e:Array U->Wv U}(b:YC fn=I e)(args:Array U):St (aB T5) T5 (bk (aB T5)) (e args):=by
 have d:=M8;have c:=eB (aB T5);simp only[List.contains_cons,List.contains_nil,Bool.or_false,WV,beq_iff_eq] at a;rcases a with a|a|a|a|a|a|a|a|a|a|a|a|a|a|a|a|a|a|a
 ·rw[ux a f (by kernel_rfl) (by kernel_rfl) (by kernel_rfl) (by kernel_rfl) (by kernel_rfl) (by kernel_rfl)] at b;cases b
 ·rw[ux a f (by kernel_rfl) (by kernel_rfl) (by kernel_rfl) (by kernel_rfl) (by kernel_rfl) (by kernel_rfl)] at b;cases b
 ·rw[fX (e:=XA) a (by kernel_rfl) (by kernel_rfl) (by kernel_rfl)] at b;cases b;exact EN _
 ·rw[fX (e:=(Vb[4]'(by decide)).2) a (by kernel_rfl) (by kernel_rfl) (by kernel_rfl)] at b;cases b;exact dY d c _ (Uk _) _
 ·rw[fX (e:=(Vb[11]'(by decide)).2) a (by kernel_rfl) (by kernel_rfl) (by kernel_rfl)] at b;cases b;exact dY d c _ (Uk _) _
 ·rw[fX (e:=(Vb[0]'(by decide)).2) a (by kernel_rfl) (by kernel_rfl) (by kernel_rfl)] at b;cases b;exact dY d c _ (Uk _) _
 ·rw[fX (e:=(Vb[8]'(by decide)).2) a (by kernel_rfl) (by kernel_rfl) (by kernel_rfl)] at b;cases b;exact dY d c _ (Uk _) _
 ·rw[fX (e:=(Vb[1]'(by decide)).2) a (by kernel_rfl) (by kernel_rfl) (by kernel_rfl)] at b;cases b;exact dY d c _ (Uk _) _
 ·rw[fX (e:=(Vb[9]'(by decide)).2) a (by kernel_rfl) (by kernel_rfl) (by kernel_rfl)] at b;cases b;exact dY d c _ (Uk _) _
 ·rw[fX (e:=(Vb[2]'(by decide)).2) a (by kernel_rfl) (by kernel_rfl) (by kernel_rfl)] at b;cases b;exact dY d c _ (Uk _) _
 ·rw[fX (e:=(Vb[10]'(by decide)).2) a (by kernel_rfl) (by kernel_rfl) (by kernel_rfl)] at b;cases b;exact dY d c _ (Uk _) _
 ·rw[fX (e:=(Vb[5]'(by decide)).2) a (by kernel_rfl) (by kernel_rfl) (by kernel_rfl)] at b;cases b;exact dY d c _ (Uk _) _
 ·rw[fX (e:=(Vb[12]'(by decide)).2) a (by kernel_rfl) (by kernel_rfl) (by kernel_rfl)] at b;cases b;exact dY d c _ (Uk _) _
 ·rw[fX (e:=(Vb[6]'(by decide)).2) a (by kernel_rfl) (by kernel_rfl) (by kernel_rfl)] at b;cases b;exact dY d c _ (Uk _) _
 ·rw[fX (e:=(Vb[13]'(by decide)).2) a (by kernel_rfl) (by kernel_rfl) (by kernel_rfl)] at b;cases b;exact dY d c _ (Uk _) _
 ·rw[ux a f (by kernel_rfl) (by kernel_rfl) (by kernel_rfl) (by kernel_rfl) (by kernel_rfl) (by kernel_rfl)] at b;cases b
 ·rw[fX (e:=(Vb[7]'(by decide)).2) a (by kernel_rfl) (by kernel_rfl) (by kernel_rfl)] at b;cases b;exact dY d c _ (Uk _) _
 ·rw[fX (e:=(Vb[14]'(by decide)).2) a (by kernel_rfl) (by kernel_rfl) (by kernel_rfl)] at b;cases b;exact dY d c _ (Uk _) _
 ·rw[fX (e:=(Yo[11]'(by decide)).2) a (by kernel_rfl) (by kernel_rfl) (by kernel_rfl)] at b;cases b;exact G0 _ _
def M7{f:Nat}{fn:WD}(a:(aB T5).funcs[f]? =I fn)(d:fn.body.isNone=Z):T5.funcs[f]? =I fn:=by
 rcases oE f with b|⟨e,_,_,c⟩
 ·rw[b];exact a
 ·rw[c] at a;cases a;cases d
def SE:Ext (aB T5) T5:=by
 refine⟨λf c a=>?_,λf c a b=>?_,λf c j a b i args=>?_⟩
 ·rcases oE f with e|⟨d,_,g,h⟩
  ·have:=jH tP (e.trans a);simpa using this
  ·rw[h] at a;cases a;have:=jH tP g;show(d.name==_)=T8;simpa using this
 ·have:=jH R1 (M7 a b);rw[b] at this;simpa using this
 ·have:=jH Hu (M7 a b);rw[b] at this;simp only[Bool.not_true,Bool.false_or,Ux,beq_iff_eq] at this;exact RV this.1 this.2 i args
def PI:o4 (aB T5) T5:=by
 refine⟨M8,SE,λf=>?_,rfl,λf=>?_,λf i h g e=>?_,N6 (ay.tables _)⟩
 ·rcases oE f with a|⟨d,_,c,b⟩
  ·rw[a]
  ·rw[c,b];rfl
 ·rcases oE f with a|⟨d,_,c,b⟩
  ·exact .inl a
  ·exact .inr ⟨_,_,b,rfl⟩
 ·have:=jH Rz g;rw[e] at this;exact this
def cW:Twins (aB T5) T5:=by
 refine⟨PI,λf=>?_⟩;rcases oE f with b|⟨j,_,a,c⟩
 ·exact⟨by rw[b],λg h i a=>by rw[b,i] at a;cases a;rfl⟩
 ·refine⟨by rw[a,c];simp,λg h d e=>?_⟩;rw[c] at d;rw[a] at e;cases d;cases e;rfl
end Cc
namespace Ec
open Go.RowKit Pk Pm
def C9 (y:bK×Int):List Nat:=aL y.1.name.size++(bytesOf y.1.name++[byteOf y.1.kind,byteOf y.2])
def ru (l:List (bK×Int)):List Nat:=l.flatMap C9
def qP(l:List (bK×Int))(y:bK×Int):ru (l++[y])=ru l++C9 y:=by
 unfold ru;rw[Vj,Ve]
def PD(y:bK×Int):1<=(C9 y).length:=by unfold C9;simp;omega
def M5(l:List (bK×Int)):l.length<=(ru l).length:=by
 induction l with
 |nil=>simp
 |cons b c a=>
  have:=PD b;unfold ru at a ⊢;rw[WT,Ub,VJ];omega
structure Ft(y:bK×Int):Prop where
 n:y.1.name.size<2147483648
 k0:0<=y.1.kind
 k1:y.1.kind<256
 e0:0<=y.2
 e1:y.2<256
def AG{x:Int}(a:0<=x)(h1:x<256):(byteOf x:Int)=x:=by unfold byteOf;omega
def Ci{B:List Nat}{p v:Nat}{y:bK×Int}(b:Ft y)(c:v<2147483648)(a:ai B p (aL v))(h:ai B p (C9 y)):y.1.name.size=v:=by
 unfold C9 at h;exact cB (by have:=b.n;omega) (by omega) (au.1 h).1 a
def Cj{B:List Nat}{p v:Nat}{x:ByteArray}{y:bK×Int}(i:Ft y)(f:v<2147483648)(d:ai B p (aL v))(g:x.size=v)(e:ai B (p+(aL v).length) (bytesOf x))(h:ai B p (C9 y)):y.1.name=x/\ai B (p+(aL v).length+v) [byteOf y.1.kind,byteOf y.2]:=by
 have a:=Ci i f d h;unfold C9 at h;obtain⟨c,b⟩:=au.1 (au.1 h).2;rw[a] at c b;have:=ng (iE c e (by rw[aj,aj,a,g]));rw[aj,a] at b;exact⟨this,b⟩
def Ru{B:List Nat}{p v kd b:Nat}{x:ByteArray}{y:bK×Int}(a:Ft y)(q:v<2147483648)(l:ai B p (aL v))(r:x.size=v)(m:ai B (p+(aL v).length) (bytesOf x))(n:ai B (p+(aL v).length+v) [kd])(o:ai B (p+(aL v).length+v+1) [b])(h:ai B p (C9 y)):y=(⟨x,(kd:Int)⟩,(b:Int)):=by
 obtain⟨g,i⟩:=Cj a q l r m h;obtain⟨j,k⟩:=eX.1 i;have e:byteOf y.1.kind=kd:=by have:=j.symm.trans (dI.1 n);simpa using this
 have f:byteOf y.2=b:=by have:=(dI.1 k).symm.trans (dI.1 o);simpa using this
 have c:=AG a.k0 a.k1;have d:=AG a.e0 a.e1;obtain⟨⟨u,t⟩,s⟩:=y;simp only at g e f c d;rw[e] at c;rw[f] at d;rw[g,c,d]
def J3{B:List Nat}{p v kd a:Nat}{x:ByteArray}(e:ai B p (aL v))(b:x.size=v)(f:ai B (p+(aL v).length) (bytesOf x))(g:ai B (p+(aL v).length+v) [kd])(h:ai B (p+(aL v).length+v+1) [a])(h1:kd<256)(i:a<256):ai B p (C9 (⟨x,(kd:Int)⟩,(a:Int)))/\(C9 (⟨x,(kd:Int)⟩,(a:Int))).length=(aL v).length+v+1+1:=by
 have c:byteOf (kd:Int)=kd:=by unfold byteOf;omega
 have d:byteOf (a:Int)=a:=by unfold byteOf;omega
 unfold C9;simp only[c,d,b];refine⟨au.2 ⟨e,au.2 ⟨f,?_⟩⟩,by simp[aj,b];omega⟩;rw[aj,b];exact eX.2 ⟨dI.1 g,h⟩
def nU (l:List (bK×Int)):Prop:=hU (l.map Uy)/\lE (l.map Uy) (l.map VV)
def nU.each{l:List (bK×Int)}(h:nU l):(∀y∈l,Ft y)/\l.length<2147483648:=by
 obtain⟨⟨j,e,f⟩,k,g⟩:=h;refine⟨λy i=>?_,by simp at e;omega⟩;obtain⟨a,b,rfl⟩:=Vw i;have d:=(f a (by simpa using b)).1;have c:=g a (by simpa using b);simp only[Xt,n6,fY,Ux,decide_eq_true_eq] at d;rw[show(l.map VV).getD a 0=l[a].2 by simp[b]] at c;simp only[Xt,bI,fY,WV,Ux,decide_eq_true_eq,beq_iff_eq] at c;exact⟨by omega,by omega,by omega,by omega,by omega⟩
def yP (l:List (bK×Int)):List Nat:=aL l.length++ru l
def Cut (s:ByteArray)(C a:List Nat):Prop:=s.size<=65536/\bytesOf s=dP++(C++(a++(iA a.length++dP)))
def Cut.len{s:ByteArray}{C a:List Nat}(h:Cut s C a):s.size=C.length+a.length+12:=by
 have:=congrArg XF h.2;rw[aj] at this;simp[dP,iA] at this;omega
def MI{a b:Nat}(c:a<=65536)(d:b<=65536)(h:iA a=iA b):a=b:=by
 unfold iA at h;simp at h;omega
def Cut.IN{s:ByteArray}{C a b F':List Nat}(h:Cut s C a)(c:Cut s b F'):C=b/\a=F':=by
 have l:=h.len;have m:=c.len;have k:=h.1;have d:=h.2.symm.trans c.2;have e:=List.append_cancel_left d;have f:(C++a)++(iA a.length++dP)=(b++F')++(iA F'.length++dP):=by rw[UD,UD];exact e
 obtain⟨g,i⟩:=List.append_inj' f (by simp[iA]);have j:=MI (by omega) (by omega) (List.append_cancel_right i);exact List.append_inj' g j
def qF (l:List (bK×Int))(bs:List Bd):List Nat:=yP l++(aL bs.length++cS (l.map Uy) bs)
structure xf(l:List (bK×Int))(bs:List Bd):Prop where
 pl:nU l
 cg:∀b∈bs,eM (l.map Uy) b
 rows:eW bs<=2000
def ga (s:ByteArray)(l:List (bK×Int))(bs:List Bd):Prop:=xf l bs/\Cut s (bQ bs) (qF l bs)
def Sb (s:ByteArray)(cs:List bK)(n e:Nat):Prop:=
 (∃b a,ga s b a/\cs=b.map Uy/\n=eW a/\e=0/\∀d c,ga s d c->d=b/\eW c=eW a)\/((∀b a,¬ga s b a)/\cs=[]/\n=0/\e=3)
def Ji(l:List (bK×Int)):∀n,n<=l.length->iT (l.map Uy) (l.map VV) n=ru (l.take n):=by
 intro n
 induction n with
 |zero=>intro _;simp[iT,ru]
 |succ n c=>
  intro d;rw[x9,c (by omega),Up (by omega),qP];congr 1;unfold xZ C9;have a:(l.map Uy).getD n ⟨⟨#[]⟩,0⟩=l[n].1:=by rw[Uj,Uo (by rw[UH];omega)];simp
  have b:(l.map VV).getD n 0=l[n].2:=by rw[Uj,Uo (by rw[UH];omega)];simp
  rw[a,b]
def Mh(l:List (bK×Int))(bs:List Bd):jl (l.map Uy) (l.map VV) bs=qF l bs:=by
 unfold jl qF yP;rw[Ji l _ (by simp),UH,Vh,UD]
structure mi(w W:F)(g r q n:Nat)(kv:U)(l:List kr):Prop where
 res:W.heap[w.heap.size]? =I (.cells #[.int .i64 0,.slice K 0 0] 139 (0,0))
 box:W.heap[g]? =I (.cells #[.int .i64 (n:Int),kv] 139 (0,0))
 own:W.ownsRow w.heap.size 143 8 kv l.length (ek l)
 kp:jR r q w W
def mi.step{w W a:F}{g r q n:Nat}{b:U}{l:List kr}(h:mi w W g r q n b l)(d:r<w.heap.size)(c:q<w.heap.size)(e:w.heap.size<g)(k:jR r q W a):mi w a g r q n b l:=
 ⟨k.keep h.res (by omega) (by omega),k.keep h.box (by omega) (by omega),k.own h.own d c,h.kp.trans k⟩
def mi.below{w W b:F}{g r q n:Nat}{c:U}{l:List kr}(h:mi w W g r q n c l)(a:aP W b):mi w b g r q n c l:=
 ⟨(a.block _ (Uf h.res)).trans h.res,(a.block _ (Uf h.box)).trans h.box,aK h.own a,h.kp.trans (jR.ct a)⟩
def mi.cells{w W:F}{g r q n:Nat}{b:U}{l:List kr}(h:mi w W g r q n b l):
 W.cell? ⟨g,0,K⟩=I (.int .i64 (n:Int))/\W.cell? ⟨g,1,K⟩=I b/\W.frozen? ⟨g,1,K⟩=T8:=by
 have a:=h.box;exact⟨by simp[Ut,a],by simp[Ut,a],by simp[UR,a]⟩
def mi.kept{w W a:F}{g r q n:Nat}{b e:U}{l:List kr}(h:mi w W g r q n b l)(d:aO W a b e):
 a.cell? ⟨g,1,K⟩=I b/\a.frozen? ⟨g,1,K⟩=T8:=by
 have c:=(d.fP.block _ (Uf h.box) (bq h.own h.box (by decide))).trans h.box;exact⟨by simp[Ut,c],by simp[UR,c]⟩
def mi.jQ{w W b:F}{g r q n:Nat}{j a:U}{l d:List kr}(h:mi w W g r q n j l)(s:w.heap.size<g)(c:aO W b j a)(i:b.ownsRow w.heap.size 143 8 a d.length (ek d)):
 mi w (b.setCell ⟨g,1,K⟩ a) g r q n a d:=by
 have m:=(c.fP.block _ (Uf h.res) (bq h.own h.res (by decide))).trans h.res;have f:=(c.fP.block _ (Uf h.box) (bq h.own h.box (by decide))).trans h.box;have o:=Us b g 1 _ _ a f;refine⟨?_,o,?_,?_⟩
 ·rw[Uv _ _ _ _ (by simp;omega)];exact m
 ·exact i.kept (aN b _ 1 a) (.inr (bq i f (by decide)).symm)
 ·exact(h.kp.grown c.fP (λe p=>(h.own.lt e p).1)).grown (aN b g 1 a) (λe k=>by cases k;omega)
def mi.reader{w W a:F}{g r q n:Nat}{c d:U}{l:List kr}(h:mi w W g r q n c l)(j:w.heap.size<g)(f:aO W a c d){i:Nat}{o:Obj}(k:i<w.heap.size)(b:W.heap[i]? =I o):(a.setCell ⟨g,1,K⟩ d).heap[i]? =I o:=by
 rw[Uv _ _ _ _ (by simp;omega),f.fP.block i (Uf b) (λe=>by have:=(h.own.lt i e.symm).1;omega)];exact b
def Sd (cs:List bK)(w:F)(r p:Nat)(s:ByteArray)(q t:Nat)(z:ByteArray)(e:WU)(w':F):Prop:=
 jR r q w w'/\((∃(a:Bd) (c:U),e= .returned (.agg #[.int .i64 (a.rows:Int),c])/\eM cs a/\ai (bytesOf s) p (ep cs a)/\p+(ep cs a).length<=s.size/\w'.heap[r]? =I (cj s (p+(ep cs a).length))/\ai (bytesOf z) t (cw a.chunks)/\t+(cw a.chunks).length<=z.size/\w'.heap[q]? =I (cj z (t+(cw a.chunks).length))/\
  w'.ownsRow w.heap.size 143 8 c a.chunks.length (ek a.chunks)/\(∀b,eM cs b->ai (bytesOf s) p (ep cs b)->ai (bytesOf z) t (cw b.chunks)->b=a))\/
  (∃m,e= .panicked (eE m)/\∀a,eM cs a->ai (bytesOf s) p (ep cs a)->¬ai (bytesOf z) t (cw a.chunks)))
def AS(co z:Option UK)(cn v y x base:Nat)(s:U)(L:List (Bd×U))(w:F)(m:ja w base s L)(ab:L.length<=65536)(M:∀b∈L.map Uy,b.rows<=100):
 bG 45 #[.agg #[.slice co cn v,.slice z y x,s]] w λe w'=>e= .returned (.int .i64 (eW (L.map Uy):Int))/\aP w w':=by
 have C:∀p∈L,∃h g d,p.2= .slice h g d:=λp I=>by
  obtain⟨h,d,A⟩:=bz (m.each p I);exact⟨h,_,d,A⟩
 obtain⟨R,Q,D⟩:=bz m.own;have n:=QL.bN qE m.own;subst D;obtain⟨P,j,k,V,E,n⟩:=n;cases E;have i:=af n;have u:=af C;have r:=af M;go_enter ay.func45,Tryz.ntmps45
 go_wp2_with fail
 go_loopw [3,9] (λg o wr=>∃a:Nat,a<=L.length/\o= .int .i64 (a:Int)/\g= .int .i64 (eW ((L.map Uy).take a):Int)/\aP w wr) (λ_ o _=>L.length-(UT o).toNat)
 case atStart=>exact⟨0,UF _,rfl,rfl,(Uq _ _).alloc (T9 _) _⟩
 case round=>
  obtain⟨a,aa,rfl,rfl,c⟩:=hrel;have q:=af c;have N:=c.size;by_cases f:a<L.length
  ·have H:a<(L.map Uy).length:=by rw[UH];exact f
   have l:X (eW ((L.map Uy).take (a+1))=eW ((L.map Uy).take a)+L[a].1.rows):=by
    show _=_;rw[GA _ _ H];simp
   have ae:eW ((L.map Uy).take a)<=65536*100:=by
    have W:=Ey ((L.map Uy).take a) (λb c=>r.o b (List.mem_of_mem_take c));have B:((L.map Uy).take a).length<=65536:=by simp;omega
    have Z:=Nat.mul_le_mul_right 100 B;omega
   have ad:L[a].1.rows<=100:=r.o _ (U8.2 ⟨L[a],Uk f,rfl⟩);obtain⟨h,g,d,J⟩:=u.o L[a] (Uk f);have G:=i.o.addr (by omega);subst G;have t:=i.o.lt (by omega);have S:bU wr j (k+a*2) (.int .i64 (L[a].1.rows:Int)):=(c.cell (p:=⟨j,k+a*2,K⟩) t).trans (i.o.c a f 0 _ Y);have T:bU wr j (k+a*2+1) (.slice h g d):=(c.cell (p:=⟨j,k+a*2+1,K⟩) t).trans (by rw[<-J];exact i.o.c a f 1 _ Y);generalize L[a].1.rows=al at*;generalize eW ((L.map Uy).take a)=O at*
   go_wp2_with fail
   go_roundw
   case rel=>exact⟨a+1,by omega,by go_num,by rw[l.o];go_num,q.o.alloc N _⟩
   case measure=>simp[UT];omega
  ·obtain rfl:a=L.length:=by omega
   have l:X ((L.map Uy).take L.length=L.map Uy):=by show _=_;rw[<-UH (f:=Uy),Vh]
   go_wp2;go_ret;exact⟨by first|rfl|(rw[l.o];rfl),q.o⟩
def QI{n:Nat}(h:n<256):Vd (n:Int)=(n:Int)/\XO.wrap (n:Int)=(n:Int):=by
 constructor
 ·unfold Vd;omega
 ·rw[Xa];omega
def Se (w:F)(r p:Nat)(s:ByteArray)(e:WU)(w':F):Prop:=
 Kp r w w'/\((∃(a:List (bK×Int)) (c d:U),e= .returned (.tuple #[c,d])/\nU a/\ai (bytesOf s) p (yP a)/\p+(yP a).length<=s.size/\w'.heap[r]? =I (cj s (p+(yP a).length))/\w'.ownsRow w.heap.size 63 2 c a.length (eI (a.map Uy))/\w'.ownsRow w.heap.size 3 1 d a.length (bw (a.map VV))/\(∀b,nU b->ai (bytesOf s) p (yP b)->b=a))\/
  (∃f,e= .panicked (eE f)/\∀a,nU a->¬ai (bytesOf s) p (yP a)))
def wQ(r p:Nat)(s:ByteArray)(w:F)(gm:s.size<=65536)(fg:p<=s.size)(h:w.heap[r]? =I (cj s p)):
 bG 94 #[(bS r)] w (Se w r p s):=by
 obtain⟨f7,e3,f4,f5,f6⟩:=Vg ay.Ga;obtain⟨f8,fi,fz,f0,f1⟩:=Vg ay.vE;have x:=Uf h;have M:s.size<=Ur:=by unfold Ur;omega
 have d3:=af h;go_enter ay.func94,Tryz.ntmps94
 go_wp2_with fail
 refine(jL r p s _ M fg d3.o).mono ?_;rintro d gt ⟨cd,⟨A,rfl,e9,fk,co,cf⟩|⟨t,rfl,o⟩⟩;rotate_left
 ·have ar:X (∀a,nU a->¬ai (bytesOf s) p (yP a)):=λa e4 c=>o _ e4.each.2 (au.1 c).1;have ap:=af cd;go_wp2;exact⟨rfl,ap.o,.inr ⟨t,rfl,ar.o⟩⟩
 ·have a2:=af fk;have g:=af e9;obtain⟨y,c0⟩:∃y,y=p+(aL A).length:=⟨_,rfl⟩;have az:=af c0;rw[<-c0] at co cf;have d4:=af cf;have ap:=af cd;have gn:(A:Int)<2147483648:=by omega
  go_wp2_with fail
  go_loopw [2,3,7] (λee eh bc wr=>∃a:List (bK×Int),bc= .int .i64 (a.length:Int)/\AB ru Ft (bytesOf s) y A a/\y+(ru a).length<=s.size/\wr.heap[r]? =I (cj s (y+(ru a).length))/\wr.ownsRow w.heap.size 63 2 ee a.length (eI (a.map Uy))/\wr.ownsRow w.heap.size 3 1 eh a.length (bw (a.map VV))/\Kp r w wr) (λ_ _ bc _=>A-(UT bc).toNat)
  case atStart=>exact⟨[],rfl,AB.zero Y,by simpa [ru] using co,by simpa [ru] using d4.o,Vq _ _ _ _,Vq _ _ _ _,ap.o⟩
  case round=>
   obtain⟨a,rfl,ci,bb,eq,fb,fd,eo⟩:=hrel;have T:=af ci;have S:=af eq;have ao:=af eo;have Q:=af fb;have R:=af fd;have cs:a.length<=65536:=by have:=M5 a;omega
   have gi:=ci.le;obtain⟨m,c1⟩:∃m,m=y+(ru a).length:=⟨_,rfl⟩;have G:=af c1;rw[<-c1] at bb S;by_cases ba:a.length<A
   ·have O:X ((∀e,Ft e->¬ai (bytesOf s) m (C9 e))->∀b,nU b->¬ai (bytesOf s) p (yP b)):=λz b f c=>by
     obtain⟨J,u⟩:=au.1 c;have L:=cB (by have:=f.each.2;omega) (by omega) J a2.o;rw[L] at u;refine T.o.fail (e:=λ_ e=>C9 e) qP ba (λe j=>?_) b L f.each.1 (by rw[az.o];exact u);rw[<-G.o];exact z e j
    go_wp2_with fail
    refine(jL r m s _ M bb S.o).mono ?_;rintro d gv ⟨V,⟨v,rfl,fv,fl,cp,ch⟩|⟨t,rfl,o⟩⟩;rotate_left
    ·have ar:=O.o (λe j c=>o _ j.n (au.1 c).1);have g:=af ar;have P:=af (ao.o.trans V);go_wp2;exact⟨rfl,P.o,.inr ⟨t,rfl,g.o⟩⟩
    ·have C:=af fv;have B:=af fl;have fx:v<=2147483648:=by omega
     have P:=af (ao.o.trans V);have dp:=af (V.own Q.o x);have dv:=af (V.own R.o x);obtain⟨q,c2⟩:∃q,q=m+(aL v).length:=⟨_,rfl⟩;have i:=af c2;rw[<-c2] at cp ch;have d5:=af ch
     go_wp2_with fail
     refine(Bv r q v s _ M cp fx d5.o).mono ?_;rintro d gx ⟨W,⟨k,rfl,f3,fm,e5,er⟩|⟨t,rfl,o⟩⟩;rotate_left
     ·have g:X (∀b,nU b->¬ai (bytesOf s) p (yP b)):=O.o (λe j c=>o (bytesOf e.1.name) (by rw[aj];exact Ci j C.o B.o c) (by unfold C9 at c;rw[Ci j C.o B.o (by unfold C9;exact c)] at c;rw[i.o];exact(au.1 (au.1 c).2).1));have D:=af (P.o.trans W);go_wp2;exact⟨rfl,D.o,.inr ⟨t,rfl,g.o⟩⟩
     ·have U:=af fm;have H:=af f3;have dc:=af (P.o.trans W);have dq:=af (W.own dp.o x);have dC:=af (W.own dv.o x);have b0:=af er;have f2:k.size<=65536:=by omega
      have c9:X (∀l,bG 66 #[.string k] l λd N=>d= .returned (.string k)/\aP l N):=λl=>xW k l f2
      go_upto_region 4 with(go_at_call 66;refine(c9.o _).mono ?_;rintro d gc ⟨rfl,ad⟩)
      have bm:=af (dc.o.trans (Kp.ct ad));have dr:=af (aK dq.o ad);have dE:=af (aK dC.o ad);have d6:X (gc.heap[r]? =I (cj s (q+v))):=(ad.block _ (Uf b0.o)).trans b0.o
      go_wp2_with fail
      refine(AH r (q+v) s _ M e5 d6.o).mono ?_;rintro d c4 ⟨aa,⟨kd,rfl,cn,ft,e6,es⟩|⟨t,rfl,o⟩⟩;rotate_left
      ·have g:X (∀b,nU b->¬ai (bytesOf s) p (yP b)):=O.o (λe j c=>o _ (dI.2 (eX.1 (by have:=(Cj j C.o B.o H.o (by rw[<-i.o];exact U.o) c).2;rw[<-i.o] at this;exact this)).1));have D:=af (bm.o.trans aa);go_wp2;exact⟨rfl,D.o,.inr ⟨t,rfl,g.o⟩⟩
      ·have b2:=af ft;have bo:=af (bm.o.trans aa);have cv:=aa.own dr.o x;have av:=af cv;have bA:=af (aa.own dE.o x);have d7:=af es;have gq:=bo.o.size;have gs:=(QI cn).2;have bv:=af cn;have E:=af cs;have df:=af e6
       go_upto_region 5 with(at_builtin;refine wpList_append_lies _ Y _ _ 44 Y w.heap.size 63 f7 _ 2 24 ay.underlying44 e3 f4 f5 f6 Y (by decide) _ a.length _ Y (cv.alloc _) ⟨c4.heap.size,0,K⟩ 1 1 [.string k,.int .i64 (kd:Int)] Y Y (IL c4 _ _ _) (by intro f9 z;simp at z;rcases z with rfl|rfl<;>rfl) (by decide) (by have:=E.o;unfold Ur;omega) (by have:=E.o;omega) (by simp;omega) _ Y ?_;intro el b5 bd fe e1 eQ gj)
       have a8:=aO.jm (n:=a.length+1) (cap:=b5) e1 eQ;have br:X (Kp r w bd):=bo.o.grown a8.fP (λa5 a7=>(av.o.lt a5 a7).1);have d8:X (bd.heap[r]? =I (cj s (q+v+1))):=(a8.fP.block r (by omega) (λd=>by have:=(av.o.lt r d.symm).1;omega)).trans d7.o;have ds:=af fe;have dO:X (bd.ownsRow w.heap.size 3 1 u3 a.length (bw (a.map VV))):=bE bA.o a8 (dR bA.o av.o (by decide));generalize Vc (I ⟨el,0,K⟩) (a.length+1) b5=ef at*
       go_wp2_with fail
       refine(AH r (q+v+1) s _ M df.o d8.o).mono ?_;rintro d c5 ⟨ab,⟨n,rfl,cl,fu,e7,et⟩|⟨t,rfl,o⟩⟩;rotate_left
       ·have g:X (∀b,nU b->¬ai (bytesOf s) p (yP b)):=O.o (λe j c=>o _ (by have:=(Cj j C.o B.o H.o (by rw[<-i.o];exact U.o) c).2;rw[<-i.o] at this;exact(eX.1 this).2));have D:=af (br.o.trans ab);go_wp2;exact⟨rfl,D.o,.inr ⟨t,rfl,g.o⟩⟩
       ·have b3:=af fu;have bs:=af (br.o.trans ab);have bx:=af (ab.own ds.o x);have cx:=ab.own dO.o x;have aw:=af cx;have d9:=af et;have gr:=bs.o.size;have gg:=(QI cl).2;have bl:=af cl;have dk:=af e7
        go_upto_region 6 with(at_builtin;refine wpList_append_lies _ Y _ _ 22 Y w.heap.size 3 f8 _ 1 8 ay.underlying22 fi fz f0 f1 Y (by decide) _ a.length _ Y (cx.alloc _) ⟨c5.heap.size,0,K⟩ 1 1 [.int .i64 (n:Int)] Y Y (gT c5 _ _) (by intro f9 z;simp at z;subst z;rfl) (by decide) (by have:=E.o;unfold Ur;omega) (by have:=E.o;omega) (by simp;omega) _ Y ?_;intro cb a4 al cR e2 e0 gl)
        have a9:=aO.jm (n:=a.length+1) (cap:=a4) e2 e0;have dd:X (Kp r w al):=bs.o.grown a9.fP (λa5 a7=>(aw.o.lt a5 a7).1);have ea:X (al.heap[r]? =I (cj s (q+v+1+1))):=(a9.fP.block r (by omega) (λd=>by have:=(aw.o.lt r d.symm).1;omega)).trans d9.o;have dT:X (al.ownsRow w.heap.size 3 1 (.slice (I ⟨cb,0,K⟩) (a.length+1) a4) (a++[((⟨k,(kd:Int)⟩:bK),(n:Int))]).length (bw ((a++[((⟨k,(kd:Int)⟩:bK),(n:Int))]).map VV))):=by
         show World.ownsRow _ _ _ _ _ _ _;rw[Ub,U1];unfold bw at cR ⊢;rw[U1];exact cR
        have dt:X (al.ownsRow w.heap.size 63 2 ef (a++[((⟨k,(kd:Int)⟩:bK),(n:Int))]).length (eI ((a++[((⟨k,(kd:Int)⟩:bK),(n:Int))]).map Uy))):=by
         have:=bE bx.o a9 (dR bx.o aw.o (by decide));show World.ownsRow _ _ _ _ _ _ _;rw[Ub,U1,rE];exact this
        have c3:=J3 B.o H.o (by rw[<-i.o];exact U.o) (by rw[<-i.o];exact b2.o) (by rw[<-i.o];exact b3.o) bv.o bl.o;have dl:X (AB ru Ft (bytesOf s) y A (a++[((⟨k,(kd:Int)⟩:bK),(n:Int))])):=T.o.more (e:=λ_ e=>C9 e) qP ba ⟨by have:=H.o;have:=C.o;show k.size<_;omega,by show(0:Int)<=(kd:Int);omega,by have:=bv.o;show(kd:Int)<256;omega,by show(0:Int)<=(n:Int);omega,by have:=bl.o;show(n:Int)<256;omega⟩ (by rw[<-G.o];exact c3.1) (λe j c=>by
         rw[<-G.o] at c;exact Ru j C.o B.o H.o (by rw[<-i.o];exact U.o) (by rw[<-i.o];exact b2.o) (by rw[<-i.o];exact b3.o) c)
        have bB:X (y+(ru (a++[((⟨k,(kd:Int)⟩:bK),(n:Int))])).length=q+v+1+1):=by
         show _=_;have J:=G.o;have u:=i.o;rw[qP,Ub,c3.2];omega
        generalize Vc (I ⟨cb,0,K⟩) (a.length+1) a4=gf at*;have cs:=E.o
        go_wp2_with fail
        go_roundw
        case rel=>exact⟨_,by rw[Ub];go_num,dl.o,by rw[bB.o];exact dk.o,by rw[bB.o];exact ea.o,dt.o,dT.o,dd.o⟩
        case measure=>simp[UT];omega
   ·have an:=T.o.done ba;have a3:X (∀b,nU b->ai (bytesOf s) p (yP b)->b=a):=λb f c=>by
     obtain⟨J,u⟩:=au.1 c;have L:=cB (by have:=f.each.2;omega) (by omega) J a2.o;rw[L,<-az.o] at u;exact an.2 b L f.each.1 u
    have a0:X (p+(yP a).length=m/\ai (bytesOf s) p (yP a)):=by
     have J:=G.o;have u:=az.o;have cc:=an.1;refine⟨by unfold yP;rw[Ub,cc];omega,?_⟩;unfold yP;rw[cc];exact au.2 ⟨a2.o,by rw[<-u];exact T.o.st⟩
    have d1:=af bb;obtain⟨b6,aJ,rfl⟩:=bz Q.o;obtain⟨ca,bX,rfl⟩:=bz R.o;have bj:X (vp wr (.slice b6 a.length aJ) (a.map Uy)):=vp.bN (by rw[UH];exact Q.o);have db:X (rB wr (.slice ca a.length bX) (a.map VV)):=rB.bN (by rw[UH];exact R.o);have cu:(a.map Uy).length<=Ur:=by rw[UH];unfold Ur;omega
    have e8:(a.map VV).length<=Ur:=by rw[UH];unfold Ur;omega
    have c7:=af (mw (a.map Uy) _ wr cu bj.o);have c8:X (∀l,aP wr l->bG 57 #[.slice ca a.length bX,.slice b6 a.length aJ] l λd N=>∃b4,d= .returned (.bool b4)/\(b4=Z↔lE (a.map Uy) (a.map VV))/\aP l N):=λl ck=>nW (a.map Uy) (a.map VV) _ _ l cu e8 (bj.o.below ck) (db.o.lower ck);have fa:A=a.length:=an.1.symm;subst fa
    go_wp2_with fail
    refine c7.o.mono ?_;rintro d c6 ⟨eb,rfl,em,a6⟩;have bt:=af (ao.o.trans (Kp.ct a6));have a1:X (c6.heap[r]? =I (cj s m)):=(a6.block r (Uf S.o)).trans S.o;have am:=af a6;have be:=af em;cases eb
    ·have g:X (∀b,nU b->¬ai (bytesOf s) p (yP b)):=λb f c=>by
      have:=a3.o b f c;rw[this] at f;exact absurd (be.o.2 f.1) (by simp)
     go_wp2_with (go_at_call 97;refine(b9 r m s _ a1.o).mono ?_;rintro d N ⟨rfl,rfl⟩)
     exact⟨rfl,bt.o,.inr ⟨_,rfl,g.o⟩⟩
    ·have da:=af (be.o.1 Y)
     go_wp2_with fail
     refine(c8.o c6 am.o).mono ?_;rintro d ge ⟨ec,rfl,en,ae⟩;have bu:=af (bt.o.trans (Kp.ct ae));have b1:X (ge.heap[r]? =I (cj s m)):=(ae.block r (Uf a1.o)).trans a1.o;have du:=af (aK (aK Q.o am.o) ae);have d0:=af (aK (aK R.o am.o) ae);have bi:=af en;cases ec
     ·have g:X (∀b,nU b->¬ai (bytesOf s) p (yP b)):=λb f c=>by
       have:=a3.o b f c;rw[this] at f;exact absurd (bi.o.2 f.2) (by simp)
      go_wp2_with (go_at_call 97;refine(b9 r m s _ b1.o).mono ?_;rintro d N ⟨rfl,rfl⟩)
      exact⟨rfl,bu.o,.inr ⟨_,rfl,g.o⟩⟩
     ·have d2:X (nU a):=⟨da.o,bi.o.1 Y⟩;go_wp2
      go_ret2
      exact⟨bu.o,.inl ⟨a,_,_,rfl,d2.o,a0.o.2,by rw[a0.o.1];exact d1.o,by rw[a0.o.1];exact b1.o,du.o,d0.o,a3.o⟩⟩
def LS{W:F}{base n cap:Nat}{co:Option UK}{cs:List bK}(h:W.ownsRow base 63 2 (.slice co n cap) cs.length (eI cs))(l:0<cs.length):∃g,co=I ⟨g,0,K⟩/\base<=g/\g<W.heap.size/\xC W co g 0 cs:=by
 rcases h.2 with⟨e,m⟩|⟨g,j,k,e,i,f,q,o,p,r⟩
 ·omega
 ·cases e;have d:=h.cells (g:=g) Y;refine⟨g,rfl,i,Uf f,⟨λ_=>rfl,λ_=>Uf f,λc b=>?_,λc b=>?_⟩⟩
  ·have:=d _ _ (lR (λa:bK=>[Value.string a.name,VZ .i64 a.kind]) 2 (λ_=>rfl) cs c b 0 _ Y);simpa [VM] using this
  ·have:=d _ _ (lR (λa:bK=>[Value.string a.name,VZ .i64 a.kind]) 2 (λ_=>rfl) cs c b 1 _ Y);simpa [VM] using this
def Cs(cs:List bK)(dO:U)(r p q t base:Nat)(s z:ByteArray)(w:F)(ha:r≠q)(g7:s.size<=65536)(hc:z.size<=65536)(ge:p<=s.size)(gf:t<=z.size)(h:w.heap[r]? =I (cj s p))(k:w.heap[q]? =I (cj z t))(f2:r<base)(f3:q<base)
 (cf:w.ownsRow base 63 2 dO cs.length (eI cs)) (g5:cs.length<=8) (d9:∀i (h:i<cs.length),cs[i].kind=1\/cs[i].kind=2\/cs[i].kind=3):
 bG 96 #[(bS r),(bS q),dO] w (Sd cs w r p s q t z):=by
 obtain⟨gm,f7,gg,gi,gj⟩:=Vg ay.Il;have a5:r<w.heap.size:=Uf h;have a4:q<w.heap.size:=Uf k;have ci:s.size<=Ur:=by unfold Ur;omega
 have gl:z.size<=Ur:=by unfold Ur;omega
 have fg:=af d9;obtain⟨fz,aJ,rfl⟩:=bz cf;have e8:=af cf;have df:X ((w.alloc (.cells #[.int .i64 0,.slice K 0 0] 139)).heap[r]? =I (cj s p)):=by
  show _=_;rw[UO _ _ r a5];exact h
 have c8:X ((w.alloc (.cells #[.int .i64 0,.slice K 0 0] 139)).heap[q]? =I (cj z t)):=by
  show _=_;rw[UO _ _ q a4];exact k
 have bo:X (jR r q w (w.alloc (.cells #[.int .i64 0,.slice K 0 0] 139))):=(jR.refl r q w).alloc _;clear h k cf d9;go_enter ay.func96,Tryz.ntmps96
 go_wp2_with fail
 refine(jL r p s _ ci ge df.o).mono ?_;rintro P E ⟨ab,⟨c,rfl,el,eq,ec,d1⟩|⟨m,rfl,C⟩⟩;rotate_left
 ·have G:X (∀b,eM cs b->ai (bytesOf s) p (ep cs b)->¬ai (bytesOf z) t (cw b.chunks)):=λb x ad=>(C _ (by have:=x.hi;omega) (au.1 ad).1).elim;have fa:X (jR r q w E):=bo.o.trans (jR.jx ab);clear C ab;go_wp2;exact⟨rfl,fa.o,.inr ⟨m,rfl,G.o⟩⟩
 ·have dT:E.heap[q]? =I (cj z t):=Kp.block ab c8.o (by omega);have f:mi w (E.alloc (.cells #[.int .i64 (c:Int),.slice K 0 0] 139)) E.heap.size r q c (.slice K 0 0) []:=by
   refine⟨?_,bh E _,Vq _ _ _ _,(bo.o.trans (jR.jx ab)).alloc _⟩;have:=Kp.block ab (V5 w (.cells #[.int .i64 0,.slice K 0 0] 139)) (by omega);exact alloc_old _ (by simpa using Uf this) this
  have aw:w.heap.size<E.heap.size:=by have:=ab.size;simp at this;omega
  have cb:(E.alloc (.cells #[.int .i64 (c:Int),.slice K 0 0] 139)).heap[r]? =I (cj s (p+(aL c).length)):=by rw[UO _ _ r (by omega)];exact d1
  have d0:(E.alloc (.cells #[.int .i64 (c:Int),.slice K 0 0] 139)).heap[q]? =I (cj z t):=by rw[UO _ _ q (by omega)];exact dT
  go_upto_region 2 with fail
  generalize E.alloc (.cells #[.int .i64 (c:Int),.slice K 0 0] 139)=gv at*;generalize E.heap.size=j at*;clear ab d1 dT df c8 bo;clear E;obtain⟨M,cl⟩:∃M,M=p+(aL c).length:=⟨_,rfl⟩;have br:=af cl;rw[<-cl] at cb ec;have ba:=af eq;have a9:=af cb;have c9:=af d0;have R:=af f;obtain⟨be,a7,cu⟩:=f.cells;clear eq cl cb d0 f;by_cases d8:1<=c/\c<=100;rotate_left
  ·have G:X (∀b,eM cs b->ai (bytesOf s) p (ep cs b)->¬ai (bytesOf z) t (cw b.chunks)):=λb x ad=>by
    have:=cB (by have:=x.hi;omega) (by omega) (au.1 ad).1 ba.o;have T:=x.lo;have k:=x.hi;omega
   by_cases g4:c<1
   ·have ch:decide ((c:Int)<1)=Z:=by simp;omega
    go_wp2_with (go_at_call 97;refine(b9 r M s _ a9.o).mono ?_;rintro P gs ⟨rfl,rfl⟩)
    exact⟨rfl,R.o.kp,.inr ⟨_,rfl,G.o⟩⟩
   ·have ch:decide ((c:Int)<1)=T8:=by simp;omega
    have d6:decide (100<(c:Int))=Z:=by simp;omega
    go_wp2_with (go_at_call 97;refine(b9 r M s _ a9.o).mono ?_;rintro P gs ⟨rfl,rfl⟩)
    exact⟨rfl,R.o.kp,.inr ⟨_,rfl,G.o⟩⟩
  ·have ch:decide ((c:Int)<1)=T8:=by simp;omega
   have d6:decide (100<(c:Int))=T8:=by simp;omega
   have c3:=af d8;have c7:=af el
   go_upto_region 4 with fail
   clear ch d6 d8 el be a7 cu
   go_wp2_with fail
   go_loopw [26] (λi wr=>∃(a:List kr) (e:U),i= .int .i64 (a.length:Int)/\Q2 (wL cs) cw (Fp cs) (bytesOf s) M (bytesOf z) t cs.length a/\mi w wr j r q c e a/\M+(wL cs a).length<=s.size/\wr.heap[r]? =I (cj s (M+(wL cs a).length))/\t+(cw a).length<=z.size/\wr.heap[q]? =I (cj z (t+(cw a).length))) (λi _=>cs.length-(UT i).toNat)
   case atStart=>exact⟨[],_,rfl,Q2.zero Y Y,R.o,by simpa [wL,fp] using ec,by simpa [wL,fp] using a9.o,by simpa [cw] using gf,by simpa [cw] using c9.o⟩
   case round=>
    clear R a9 c9;obtain⟨a,e,rfl,b4,f,eo,b6,cp,b5⟩:=hrel;have an:=af b4;have R:=af f;obtain⟨D,cn⟩:∃D,D=M+(wL cs a).length:=⟨_,rfl⟩;obtain⟨N,a6⟩:∃N,N=t+(cw a).length:=⟨_,rfl⟩;have a0:=af cn;have ao:=af a6;rw[<-cn] at eo b6;rw[<-a6] at cp b5;have bv:=af b6;have bt:=af b5;have f9:a.length<=cs.length:=b4.le;have hb:w.heap.size<=wr.heap.size:=f.kp.size;have c1:X (wr.ownsRow base 63 2 (.slice fz cs.length aJ) cs.length (eI cs)):=f.kp.own e8.o f2 f3;clear b4 cn a6 b6 b5;by_cases V:a.length<cs.length
    ·have bm:X ((∀O,Fp cs a.length O->ai (bytesOf s) D (Le cs a O)->¬ai (bytesOf z) N (bytesOf O.text))->∀b,eM cs b->ai (bytesOf s) p (ep cs b)->¬ai (bytesOf z) t (cw b.chunks)):=λa6 b x ad a2=>by
      obtain⟨T,k⟩:=au.1 ad;have a3:=cB (by have:=x.hi;omega) (by have:=c7.o;omega) T ba.o;rw[a3,<-br.o] at k;refine an.o.fail (e:=Le cs) (g:=λ_ d=>bytesOf d.text) (um cs) sB V (λO L l Q=>?_) b.chunks x.len x.each k a2;rw[<-a0.o] at l;rw[<-ao.o] at Q;exact a6 O L l Q
     obtain⟨g1,f6,f4,f5,cd⟩:=LS c1.o (by omega);subst f6;have e2:=cd.c0 a.length V;have e3:=cd.c1 a.length V;simp only[UU] at e2 e3;have c4:X (cs[a.length].kind=1\/cs[a.length].kind=2\/cs[a.length].kind=3):=fg.o a.length V;have am:X (cs.getD a.length ⟨⟨#[]⟩,0⟩=cs[a.length]):=by show _=_;rw[Uj,Uo V];rfl
     clear cd f c1 f4 f5;generalize a2:cs[a.length]=d at*;clear a2
     go_upto_region 7 with fail
     have bB:X (mi w (wr.alloc (.cells #[.string d.name,.int .i64 d.kind] 63)) j r q c e a):=R.o.below ((Uq _ _).alloc (T9 _) _);have dp:X ((wr.alloc (.cells #[.string d.name,.int .i64 d.kind] 63)).heap[r]? =I (cj s D)):=by show _=_;rw[UO _ _ r (by omega)];exact bv.o
     have da:X ((wr.alloc (.cells #[.string d.name,.int .i64 d.kind] 63)).heap[q]? =I (cj z N)):=by show _=_;rw[UO _ _ q (by omega)];exact bt.o
     have dv:X ((wr.alloc (.cells #[.string d.name,.int .i64 d.kind] 63)).heap[wr.heap.size]? =I (.cells #[.string d.name,.int .i64 d.kind] 63 (0,0))):=bh wr _;have g6:j<wr.heap.size:=Uf R.o.box;generalize wr.alloc (.cells #[.string d.name,.int .i64 d.kind] 63)=gy at*;generalize wr.heap.size=u at*;clear e2 e3 R bv bt;clear wr
     go_wp2_with fail
     refine(jL r D s _ ci eo dp.o).mono ?_;rintro P bi ⟨ar,⟨v,rfl,eQ,er,ee,ca⟩|⟨m,rfl,C⟩⟩;rotate_left
     ·have G:X (∀b,eM cs b->ai (bytesOf s) p (ep cs b)->¬ai (bytesOf z) t (cw b.chunks)):=bm.o (λO L l Q=>C _ L.n (au.1 l).1);have fb:X (jR r q w bi):=bB.o.kp.trans (jR.jx ar);clear C ar;go_wp2;exact⟨rfl,fb.o,.inr ⟨m,rfl,G.o⟩⟩
     ·have b1:=af eQ;have bA:=af er;have e0:v<=2147483648:=by omega
      have b0:X (mi w bi j r q c e a):=bB.o.step a5 a4 aw (jR.jx ar);have db:X (bi.heap[q]? =I (cj z N)):=Kp.block ar da.o (by omega);have dC:X (bi.heap[u]? =I (.cells #[.string d.name,.int .i64 d.kind] 63 (0,0))):=Kp.block ar dv.o (by omega);obtain⟨ae,co⟩:∃ae,ae=D+(aL v).length:=⟨_,rfl⟩;have bs:=af co;rw[<-co] at ee ca;have dk:=af ca;clear er co ar ca bB dp da dv eQ
      go_wp2_with fail
      refine(Bv q N v z _ gl cp e0 db.o).mono ?_;rintro P n ⟨av,⟨g,rfl,e1,es,ef,d2⟩|⟨m,rfl,C⟩⟩;rotate_left
      ·have G:X (∀b,eM cs b->ai (bytesOf s) p (ep cs b)->¬ai (bytesOf z) t (cw b.chunks)):=bm.o (λO L l Q=>C (bytesOf O.text) (by rw[aj];exact cB (by have:=L.n;omega) (by have:=b1.o;omega) (au.1 l).1 bA.o) Q);have fd:X (jR r q w n):=b0.o.kp.trans (jR.Ed av);clear C av;go_wp2;exact⟨rfl,fd.o,.inr ⟨m,rfl,G.o⟩⟩
      ·have ds:=af es;have bc:=af e1;have bb:X (mi w n j r q c e a):=b0.o.step a5 a4 aw (jR.Ed av);have b2:X (n.heap[u]? =I (.cells #[.string d.name,.int .i64 d.kind] 63 (0,0))):=Kp.block av dC.o (by omega);have dq:X (n.heap[r]? =I (cj s ae)):=Kp.block av dk.o (by omega);have dc:=af d2;have fk:=af ef;have dl:X (bG 131 #[(bS r),.int .i64 d.kind] n.drew (Hx n.drew r ae s d.kind)):=yZ d.kind c4.o r ae s n.drew ci ee dq.o;clear es e1 av d2 b0 dC dk db ef e0;obtain⟨be,a7,cu⟩:=bb.o.cells;have e4:n.cell? ⟨u,1,K⟩=I (.int .i64 d.kind):=by have:=b2.o;simp[Ut,this]
       have e7:=af c4.o
       go_upto_region 8 with fail
       refine Un.open_ (λy=>y.cell? ⟨j,1,K⟩=I e/\y.cell? ⟨u,1,K⟩=I (.int .i64 d.kind)) 11 (λ_ _ _ _ _ h=>h) λg9=>?_;have a1:(λy=>y.cell? ⟨j,1,K⟩=I e/\y.cell? ⟨u,1,K⟩=I (.int .i64 d.kind)) n.drew:=⟨a7,e4⟩;refine Un.pk 0 ?_
       try simp only[UX,Ud,Um,Ul]
       refine Un.ld [11] 1 ?_
       try simp only[UX,Ud,Um,Ul]
       refine Un.pk 2 ?_
       try simp only[UX,Ud,Um,Ul]
       refine Un.pk 3 ?_
       try simp only[UX,Ud,Um,Ul]
       refine Un.pk 4 ?_
       try simp only[UX,Ud,Um,Ul]
       refine Un.ld [11] 5 ?_
       try simp only[UX,Ud,Um,Ul]
       refine Un.on 6 λW B=>?_;go_simp;go_at_call 131;refine dl.o.mono ?_;rintro P o ⟨J,⟨b,rfl,d5,et,eh,d3⟩|⟨m,rfl,C⟩⟩;rotate_left
       ·have J:=(Kp.ct (r:=r) ((Uq n.heap.size n).drew)).trans J;have G:X (∀b,eM cs b->ai (bytesOf s) p (ep cs b)->¬ai (bytesOf z) t (cw b.chunks)):=bm.o (λO L l Q=>by
         unfold Le at l;obtain⟨bd,dE⟩:=au.1 l;have f0:=cB (by have:=L.n;omega) (by have:=b1.o;omega) bd bA.o;rw[f0,am.o,<-bs.o] at dE;have x:=L.b;rw[am.o] at x;exact C _ x dE)
        have fe:X (jR r q w o):=bb.o.kp.trans (jR.jx J);clear C J;exact⟨rfl,fe.o,.inr ⟨m,rfl,G.o⟩⟩
       ·have J:=(Kp.ct (r:=r) ((Uq n.heap.size n).drew)).trans J;unfold FF;have H:X (mi w o j r q c e a):=bb.o.step a5 a4 aw (jR.jx J);have dr:=af d3;have dd:X (o.heap[q]? =I (cj z (N+v))):=Kp.block J dc.o (by omega);have ap:X (o.heap[u]? =I (.cells #[.string d.name,.int .i64 d.kind] 63 (0,0))):=Kp.block J b2.o (by omega);have e6:=af d5;have fu:=af et;have fl:=af eh;obtain⟨-,cv,-⟩:=H.o.cells;have bj:o.cell? ⟨u,1,K⟩=I (.int .i64 d.kind):=by have:=ap.o;simp[Ut,this]
        refine B.o _ _ (λ_=>⟨cv,bj⟩) ?_;clear B W a1 J d3 d5 et eh be a7 cu e4 bb b2 dq dc dl
        try simp only[UX,Ud,Um,Ul]
        have a1:(λy=>y.cell? ⟨j,1,K⟩=I e/\y.cell? ⟨u,1,K⟩=I (.int .i64 d.kind)) o:=⟨cv,bj⟩;refine Un.pk 7 ?_
        try simp only[UX,Ud,Um,Ul]
        refine Un.on 8 λW B=>?_;go_simp;have du:X (mi w (o.alloc (.cells (dJ ⟨g,b⟩).toArray 143)) j r q c e a):=H.o.below ((Uq _ _).alloc (T9 _) _);have e5:(o.alloc (.cells (dJ ⟨g,b⟩).toArray 143)).cell? ⟨u,1,K⟩=I (.int .i64 d.kind):=(((Uq o.heap.size o).alloc (T9 _) _).cell (p:=⟨u,1,K⟩) (Uf ap.o)).trans bj;refine B.o _ _ (λ_=>⟨du.o.cells.2.1,e5⟩) ?_;clear B W a1
        try simp only[UX,Ud,Um,Ul]
        refine Un.one (i:=9) (by kernel_rfl) Y (λW B=>?_);have en:=H.o.own;have hd:w.heap.size<=o.heap.size:=H.o.kp.size;refine WL _ (by rfl) _ _ 137 (by rfl) w.heap.size 143 gm _ 8 88 ay.underlying137 f7 gg gi gj Y (by decide) e a.length _ (by rfl) (en.alloc _) ⟨o.heap.size,0,K⟩ 1 1 (dJ ⟨g,b⟩) (by rfl) Y (yd o ⟨g,b⟩ _) (uu _) (by decide) (by unfold Ur;omega) (by omega) (by simp;omega) _ Y ?_;intro A S al ck d7 d4 gc;have az:=aO.jm (n:=a.length+1) (cap:=S) d7 d4;have em:al.ownsRow w.heap.size 143 8 (.slice (I ⟨A,0,K⟩) (a.length+1) S) (a++[(⟨g,b⟩:kr)]).length (ek (a++[(⟨g,b⟩:kr)])):=by
         unfold ek at ck ⊢;rw[Vj,Ve,Ub];exact ck
        have e9:X (mi w (al.setCell ⟨j,1,K⟩ (.slice (I ⟨A,0,K⟩) (a.length+1) S)) j r q c (.slice (I ⟨A,0,K⟩) (a.length+1) S) (a++[(⟨g,b⟩:kr)])):=H.o.jQ aw az em;have bx:X ((al.setCell ⟨j,1,K⟩ (.slice (I ⟨A,0,K⟩) (a.length+1) S)).heap[r]? =I (cj s (ae+(cr d.kind b).length))):=H.o.reader aw az a5 dr.o;have bu:X ((al.setCell ⟨j,1,K⟩ (.slice (I ⟨A,0,K⟩) (a.length+1) S)).heap[q]? =I (cj z (N+v))):=H.o.reader aw az a4 dd.o;obtain⟨cx,gt⟩:=H.o.kept az;have cR:al.cell? ⟨u,1,K⟩=I (.int .i64 d.kind):=by
         have:=(az.fP.block _ (Uf ap.o) (bq H.o.own ap.o (by decide))).trans ap.o;simp[Ut,this]
        refine B.o _ _ (λ_=>⟨cx,cR⟩) ?_;clear B W en ck d7 d4 gc em az
        try simp only[UX,Ud,Um,Ul]
        have a1:(λy=>y.cell? ⟨j,1,K⟩=I e/\y.cell? ⟨u,1,K⟩=I (.int .i64 d.kind)) al:=⟨cx,cR⟩;refine Un.pk 10 ?_
        try simp only[UX,Ud,Um,Ul]
        refine Un.on 11 λW B=>?_;go_simp;refine B.o _ _ (λh=>absurd h (by decide)) ?_;clear B W a1 cx gt cR cv bj e5;refine Un.done (by kernel_rfl) ?_ _
        try simp only[UX,Ud,Um,Ul]
        clear H du dr dd ap;generalize al.setCell ⟨j,1,K⟩ (.slice (I ⟨A,0,K⟩) (a.length+1) S)=gx at*;generalize Vc (I ⟨A,0,K⟩) (a.length+1) S=he at*;have c0:X (Fp cs a.length ⟨g,b⟩):=⟨by have:=bc.o;have:=b1.o;show g.size<_;omega,by rw[am.o];exact e6.o⟩;have dt:X (ai (bytesOf s) D (Le cs a ⟨g,b⟩)):=by
         show ai _ _ (aL g.size++cr (cs.getD a.length ⟨⟨#[]⟩,0⟩).kind b);rw[bc.o,am.o];exact au.2 ⟨bA.o,by rw[<-bs.o];exact fu.o⟩
        have c5:X (M+(wL cs (a++[(⟨g,b⟩:kr)])).length=ae+(cr d.kind b).length):=by
         show _=_;rw[um,Ub];have T:(Le cs a ⟨g,b⟩).length=(aL v).length+(cr d.kind b).length:=by
          show(aL g.size++cr (cs.getD a.length ⟨⟨#[]⟩,0⟩).kind b).length=_;rw[bc.o,am.o,Ub]
         have k:=a0.o;have l:=bs.o;omega
        have c6:X (t+(cw (a++[(⟨g,b⟩:kr)])).length=N+v):=by
         show _=_;rw[sB,Ub,aj];have T:=ao.o;have k:=bc.o;simp only;omega
        have fm:X (Q2 (wL cs) cw (Fp cs) (bytesOf s) M (bytesOf z) t cs.length (a++[(⟨g,b⟩:kr)])):=by
         refine an.o.more (e:=Le cs) (g:=λ_ d=>bytesOf d.text) (um cs) sB V c0.o (by rw[<-a0.o];exact dt.o) (by rw[<-ao.o];exact ds.o) (λO L l Q=>?_);rw[<-a0.o] at l;rw[<-ao.o] at Q;exact Q4 (by rw[am.o];exact e7.o) c0.o L dt.o l ds.o Q
        go_wp2_with fail
        go_roundw
        case rel=>exact⟨a++[(⟨g,b⟩:kr)],_,by rw[Ub];go_num,fm.o,e9.o,by rw[c5.o];exact fl.o,by rw[c5.o];exact bx.o,by rw[c6.o];exact fk.o,by rw[c6.o];exact bu.o⟩
        case measure=>simp[UT];omega
    ·have a8:=an.o.done V;obtain⟨gn,fG,ea⟩:=bz f.own;rw[a8.1] at ea;subst ea;generalize f8:Vc gn cs.length fG=e at f;obtain⟨be,a7,-⟩:=f.cells;have T:=Us wr w.heap.size 0 _ _ (.int .i64 (c:Int)) f.res;have k:=Us _ w.heap.size 1 _ _ e T;have ft:X (((wr.setCell ⟨w.heap.size,0,K⟩ (.int .i64 (c:Int))).setCell ⟨w.heap.size,1,K⟩ e).ownsRow w.heap.size 143 8 e a.length (ek a)):=by
      have bd:=f.own.kept (aN wr w.heap.size 0 (.int .i64 (c:Int))) (.inr (bq f.own f.res (by decide)).symm);exact bd.kept (aN _ w.heap.size 1 e) (.inr (bq bd T (by decide)).symm)
     have fi:X (jR r q w ((wr.setCell ⟨w.heap.size,0,K⟩ (.int .i64 (c:Int))).setCell ⟨w.heap.size,1,K⟩ e)):=(f.kp.grown (aN wr w.heap.size 0 _) (λf1 P=>by cases P;exact T9 _)).grown (aN _ w.heap.size 1 _) (λf1 P=>by cases P;exact T9 _);have bx:X (((wr.setCell ⟨w.heap.size,0,K⟩ (.int .i64 (c:Int))).setCell ⟨w.heap.size,1,K⟩ e).heap[r]? =I (cj s D)):=by
      show _=_;rw[Uv _ _ _ _ (by simp;omega),Uv _ _ _ _ (by simp;omega)];exact bv.o
     have bu:X (((wr.setCell ⟨w.heap.size,0,K⟩ (.int .i64 (c:Int))).setCell ⟨w.heap.size,1,K⟩ e).heap[q]? =I (cj z N)):=by
      show _=_;rw[Uv _ _ _ _ (by simp;omega),Uv _ _ _ _ (by simp;omega)];exact bt.o
     have hf:wr.cell? ⟨w.heap.size,0,K⟩=I (.int .i64 0):=by have:=f.res;simp[Ut,this]
     have hg:wr.cell? ⟨w.heap.size,1,K⟩=I (.slice K 0 0):=by have:=f.res;simp[Ut,this]
     have g2:wr.frozen? ⟨w.heap.size,0,K⟩=T8:=by have:=f.res;simp[UR,this]
     have g3:wr.frozen? ⟨w.heap.size,1,K⟩=T8:=by have:=f.res;simp[UR,this]
     have gq:((wr.setCell ⟨w.heap.size,0,K⟩ (.int .i64 (c:Int))).setCell ⟨w.heap.size,1,K⟩ e).cell? ⟨w.heap.size,0,K⟩=I (.int .i64 (c:Int)):=by simp[Ut,k]
     have gr:((wr.setCell ⟨w.heap.size,0,K⟩ (.int .i64 (c:Int))).setCell ⟨w.heap.size,1,K⟩ e).cell? ⟨w.heap.size,1,K⟩=I e:=by simp[Ut,k]
     have bl:X ((ep cs ⟨c,a⟩).length+p=D/\ai (bytesOf s) p (ep cs ⟨c,a⟩)):=by
      have b3:=br.o;have A:=a0.o;refine⟨by show(aL c++wL cs a).length+p=D;rw[Ub];omega,?_⟩;exact au.2 ⟨ba.o,by rw[<-b3];exact an.o.st⟩
     have fx:X (∀aa,eM cs aa->ai (bytesOf s) p (ep cs aa)->ai (bytesOf z) t (cw aa.chunks)->aa=⟨c,a⟩):=λaa cc ad a2=>by
      obtain⟨b3,A⟩:=au.1 ad;have a3:=cB (by have:=cc.hi;omega) (by have:=c7.o;omega) b3 ba.o;rw[a3,<-br.o] at A;have eb:=a8.2 aa.chunks cc.len cc.each A a2;obtain⟨g0,b⟩:=aa;simp only at a3 eb;rw[a3,eb]
     have c2:X (eM cs ⟨c,a⟩):=⟨c3.o.1,c3.o.2,a8.1,an.o.Ro⟩;have fv:=af an.o.sc;clear T k f a8 f9 V;subst f8;have g8:a.length=cs.length:=c2.o.len;go_wp2;simp[VS,UY,Tryz.results96,go_sem,gq,gr]
     trace_state
     exact⟨fi.o,.inl ⟨⟨c,a⟩,_,rfl,c2.o,bl.o.2,by have:=bl.o.1;omega,by have:=bl.o.1;rw[show p+(ep cs ⟨c,a⟩).length=D by omega];exact bx.o,fv.o,by rw[<-ao.o];exact cp,by rw[<-ao.o];exact bu.o,ft.o,fx.o⟩⟩
structure lF(w W:F)(g r q:Nat)(l:List (bK×Int))(co eo:Option UK)(cc ec:Nat)(bv:U)(L:List (Bd×U)):Prop where
 res:W.heap[w.heap.size]? =I (.cells #[.slice K 0 0,.slice K 0 0,.slice K 0 0] 105 (0,0))
 box:W.heap[g]? =I (.cells #[.slice co l.length cc,.slice eo l.length ec,bv] 105 (0,0))
 ah:W.ownsRow w.heap.size 63 2 (.slice co l.length cc) l.length (eI (l.map Uy))
 eJ:W.ownsRow w.heap.size 3 1 (.slice eo l.length ec) l.length (bw (l.map VV))
 cg:ja W w.heap.size bv L
 kp:jR r q w W
def lF.step{w W c:F}{g r q:Nat}{l:List (bK×Int)}{co i:Option UK}{e f:Nat}{d:U}{L:List (Bd×U)}(h:lF w W g r q l co i e f d L)(b:r<w.heap.size)(a:q<w.heap.size)(n:w.heap.size<g)(k:jR r q W c):lF w c g r q l co i e f d L:=
 ⟨k.keep h.res (by omega) (by omega),k.keep h.box (by omega) (by omega),k.own h.ah b a,k.own h.eJ b a,⟨k.own h.cg.own b a,λm j=>k.own (h.cg.each m j) b a⟩,h.kp.trans k⟩
def lF.below{w W b:F}{g r q:Nat}{l:List (bK×Int)}{co f:Option UK}{d e:Nat}{c:U}{L:List (Bd×U)}(h:lF w W g r q l co f d e c L)(a:aP W b):lF w b g r q l co f d e c L:=
 ⟨(a.block _ (Uf h.res)).trans h.res,(a.block _ (Uf h.box)).trans h.box,aK h.ah a,aK h.eJ a,h.cg.below a,h.kp.trans (jR.ct a)⟩
def lF.cells{w W:F}{g r q:Nat}{l:List (bK×Int)}{co e:Option UK}{c d:Nat}{b:U}{L:List (Bd×U)}(h:lF w W g r q l co e c d b L):
 W.cell? ⟨g,0,K⟩=I (.slice co l.length c)/\W.cell? ⟨g,1,K⟩=I (.slice e l.length d)/\W.cell? ⟨g,2,K⟩=I b/\W.frozen? ⟨g,2,K⟩=T8:=by
 have a:=h.box;exact⟨by simp[Ut,a],by simp[Ut,a],by simp[Ut,a],by simp[UR,a]⟩
def lF.kept{w W a:F}{g r q:Nat}{l:List (bK×Int)}{co i:Option UK}{e f:Nat}{b d:U}{L:List (Bd×U)}(h:lF w W g r q l co i e f b L)(j:aO W a b d):
 a.cell? ⟨g,2,K⟩=I b/\a.frozen? ⟨g,2,K⟩=T8:=by
 have c:=(j.fP.block _ (Uf h.box) (bq h.cg.own h.box (by decide))).trans h.box;exact⟨by simp[Ut,c],by simp[UR,c]⟩
def lF.jQ{w W c:F}{g r q:Nat}{l:List (bK×Int)}{co o:Option UK}{m n:Nat}{i a:U}{L:List (Bd×U)}(h:lF w W g r q l co o m n i L)(z:w.heap.size<g)(d:aO W c i a){b:Bd}{f:U}(x:W.ownsRow w.heap.size 143 8 f b.chunks.length (ek b.chunks))
 (y:c.ownsRow w.heap.size 139 2 a (L++[(b,f)]).length (nI (L++[(b,f)]))):lF w (c.setCell ⟨g,2,K⟩ a) g r q l co o m n a (L++[(b,f)]):=by
 have t:=(d.fP.block _ (Uf h.res) (bq h.cg.own h.res (by decide))).trans h.res;have e:=(d.fP.block _ (Uf h.box) (bq h.cg.own h.box (by decide))).trans h.box;have u:=Us c g 2 _ _ a e;have j:=bE h.ah d (dR h.ah h.cg.own (by decide));have k:=bE h.eJ d (dR h.eJ h.cg.own (by decide));refine⟨?_,u,j.kept (aN c _ 2 a) (.inr (bq j e (by decide)).symm),k.kept (aN c _ 2 a) (.inr (bq k e (by decide)).symm),(h.cg.snoc d x y).put e (by decide) (by decide) _ _,?_⟩
 ·rw[Uv _ _ _ _ (by simp;omega)];exact t
 ·exact(h.kp.grown d.fP (λp v=>(h.cg.own.lt p v).1)).grown (aN c g 2 a) (λp s=>by cases s;omega)
def lF.reader{w W a:F}{g r q:Nat}{l:List (bK×Int)}{co k:Option UK}{e j:Nat}{b c:U}{L:List (Bd×U)}(h:lF w W g r q l co k e j b L)(n:w.heap.size<g)(m:aO W a b c){i:Nat}{o:Obj}(p:i<w.heap.size)(d:W.heap[i]? =I o):(a.setCell ⟨g,2,K⟩ c).heap[i]? =I o:=by
 rw[Uv _ _ _ _ (by simp;omega),m.fP.block i (Uf d) (λf=>by have:=(h.cg.own.lt i f.symm).1;omega)];exact d
def zI{B a:List Nat}(h:ai B 0 a)(c:B.length<=a.length):B=a:=by
 have b:a <+:B:=by simpa [ai] using h
 exact(b.eq_of_length_le c).symm
def ua(cs:List bK)(bs:List Bd)(b:Bd):cS cs (bs++[b])=cS cs bs++ep cs b:=by
 unfold cS;rw[Vj,Ve]
def I5(cs:List bK)(b:Bd):1<=(ep cs b).length:=by unfold ep;rw[Ub];have:=E9 b.rows;omega
def I6(cs:List bK)(bs:List Bd):bs.length<=(cS cs bs).length:=by
 induction bs with
 |nil=>simp
 |cons a c b=>
  have:=I5 cs a;unfold cS at b ⊢;rw[WT,Ub,VJ];omega
def QC{cs:List bK}{bs:List Bd}(h:∀b∈bs,eM cs b):sF (λ_=>eM cs) bs:=λc a=>h _ (Uk a)
def Rc{cs:List bK}{bs:List Bd}(h:sF (λ_=>eM cs) bs):∀b∈bs,eM cs b:=λb a=>by
 obtain⟨d,c,rfl⟩:=Vw a;exact h d c
def MA{l:List (bK×Int)}(h:nU l):∀i (h:i<(l.map Uy).length),(l.map Uy)[i].kind=1\/(l.map Uy)[i].kind=2\/(l.map Uy)[i].kind=3:=by
 intro i a;have:=(h.1.2.2 i a).1;simp only[n6,fY,Ux,decide_eq_true_eq] at this;omega
def Sf (w:F)(r:Nat)(s:ByteArray)(q:Nat)(z:ByteArray)(e:WU)(w':F):Prop:=
 jR r q w w'/\((∃(a:List (bK×Int)) (b:List Bd) (f:List (Bd×U)) (i k:Option UK) (h j:Nat) (g:U),e= .returned (.agg #[.slice i a.length h,.slice k a.length j,g])/\xf a b/\f.map Uy=b/\ai (bytesOf s) 0 (qF a b)/\(qF a b).length<=s.size/\w'.heap[r]? =I (cj s (qF a b).length)/\bytesOf z=bQ b/\
  w'.ownsRow w.heap.size 63 2 (.slice i a.length h) a.length (eI (a.map Uy))/\w'.ownsRow w.heap.size 3 1 (.slice k a.length j) a.length (bw (a.map VV))/\ja w' w.heap.size g f/\(∀d c,xf d c->ai (bytesOf s) 0 (qF d c)->bytesOf z=bQ c->d=a/\c=b))\/
  (∃m,e= .panicked (eE m)/\∀a b,xf a b->ai (bytesOf s) 0 (qF a b)->bytesOf z≠bQ b))
def y9(r q:Nat)(s z:ByteArray)(w:F)(f8:r≠q)(c8:s.size<=65536)(gn:z.size<=65536)(h:w.heap[r]? =I (cj s 0))(o:w.heap[q]? =I (cj z 0)):
 bG 64 #[(bS r),(bS q)] w (Sf w r s q z):=by
 obtain⟨gq,fz,gj,gl,gm⟩:=Vg ay.Ik;have a2:r<w.heap.size:=Uf h;have a1:q<w.heap.size:=Uf o;have f3:s.size<=Ur:=by unfold Ur;omega
 have dl:z.size<=Ur:=by unfold Ur;omega
 have et:X ((w.alloc (.cells #[aR,aR,aR] 105)).heap[r]? =I (cj s 0)):=by
  show _=_;rw[UO _ _ r a2];exact h
 have en:X ((w.alloc (.cells #[aR,aR,aR] 105)).heap[q]? =I (cj z 0)):=by
  show _=_;rw[UO _ _ q a1];exact o
 have b4:X (jR r q w (w.alloc (.cells #[aR,aR,aR] 105))):=(jR.refl r q w).alloc _;go_enter ay.func64,Tryz.ntmps64
 go_wp2_with fail
 refine(wQ r 0 s _ c8 (UF _) et.o).mono ?_;rintro p H ⟨aw,⟨a,gy,g0,rfl,ao,f9,c6,cx,c1,c4,gg⟩|⟨m,rfl,a0⟩⟩;rotate_left
 ·have L:X (∀a b,xf a b->ai (bytesOf s) 0 (qF a b)->bytesOf z≠bQ b):=λa b k E=>(a0 a k.pl (au.1 E).1).elim;have d5:X (jR r q w H):=b4.o.trans (jR.jx aw);go_wp2;exact⟨rfl,d5.o,.inr ⟨m,rfl,L.o⟩⟩
 ·obtain⟨d,e,rfl⟩:=bz c1;obtain⟨f,g,rfl⟩:=bz c4;have fe:H.heap[q]? =I (cj z 0):=Kp.block aw en.o (by omega);have R:lF w (H.alloc (.cells #[.slice d a.length e,.slice f a.length g,aR] 105)) H.heap.size r q a d f e g aR []:=by
   refine⟨?_,bh H _,(bL c1 (by simp)).alloc _,(bL c4 (by simp)).alloc _,⟨Vq _ _ _ _,λhe f7=>by simp at f7⟩,(b4.o.trans (jR.jx aw)).alloc _⟩;have:=Kp.block aw (V5 w (.cells #[aR,aR,aR] 105)) (by omega);exact alloc_old _ (by simpa using Uf this) this
  have az:w.heap.size<H.heap.size:=by have:=aw.size;simp at this;omega
  obtain⟨N,db⟩:∃N,N=(yP a).length:=⟨_,rfl⟩;rw[UU,<-db] at c6 cx;have bc:X (N=(yP a).length):=db;have e5:X (ai (bytesOf s) 0 (yP a)):=f9;have cb:X (nU a):=ao;have ci:X (∀j,nU j->ai (bytesOf s) 0 (yP j)->j=a):=gg;have fl:(H.alloc (.cells #[.slice d a.length e,.slice f a.length g,aR] 105)).heap[r]? =I (cj s N):=by rw[UO _ _ r (by omega)];exact cx
  have fi:(H.alloc (.cells #[.slice d a.length e,.slice f a.length g,aR] 105)).heap[q]? =I (cj z 0):=by rw[UO _ _ q (by omega)];exact fe
  have f1:a.length<=8:=by have:=ao.1.2.1;simpa using this
  have dT:X ((a.map Uy).length<=8):=by show _<=_;simpa using f1
  go_upto_region 3 with fail
  generalize H.alloc (.cells #[.slice d a.length e,.slice f a.length g,aR] 105)=bo at*;generalize H.heap.size=x at*;have e3:X (bo.heap[r]? =I (cj s N)):=fl;have eq:X (bo.heap[q]? =I (cj z 0)):=fi;have T:X (lF w bo x r q a d f e g aR []):=R
  go_wp2_with fail
  refine(jL r N s _ f3 c6 e3.o).mono ?_;rintro p a7 ⟨bu,⟨t,rfl,f4,gc,c7,cR⟩|⟨m,rfl,a0⟩⟩;rotate_left
  ·have L:X (∀a b,xf a b->ai (bytesOf s) 0 (qF a b)->bytesOf z≠bQ b):=λj b k E _=>by
    obtain⟨A,o⟩:=au.1 E;obtain rfl:=ci.o j k.pl A;rw[UU,<-bc.o] at o;refine a0 _ ?_ (au.1 o).1;have B:=tC b (λc aa=>(k.cg c aa).lo);have:=k.rows;omega
   have d6:X (jR r q w a7):=T.o.kp.trans (jR.jx bu);go_wp2;exact⟨rfl,d6.o,.inr ⟨m,rfl,L.o⟩⟩
  ·have e8:X (lF w a7 x r q a d f e g aR []):=T.o.step a2 a1 az (jR.jx bu);have er:X (a7.heap[q]? =I (cj z 0)):=Kp.block bu eq.o (by omega);obtain⟨C,dc⟩:∃C,C=N+(aL t).length:=⟨_,rfl⟩;have ca:X (C=N+(aL t).length):=dc;rw[<-dc] at c7 cR;have e4:X (a7.heap[r]? =I (cj s C)):=cR;have ch:X (ai (bytesOf s) N (aL t)):=gc;have ef:X (t<2147483648):=f4;have g9:(t:Int)<2147483648:=by omega
   have b3:X (∀j n,xf j n->ai (bytesOf s) 0 (qF j n)->j=a/\n.length=t/\ai (bytesOf s) C (cS (a.map Uy) n)):=λj n k E=>by
    obtain⟨A,o⟩:=au.1 E;obtain rfl:=ci.o j k.pl A;rw[UU,<-bc.o] at o;obtain⟨B,Q⟩:=au.1 o;have bt:=tC n (λc aa=>(k.cg c aa).lo);have g5:=k.rows;have c2:=cB (by omega) (by have:=ef.o;omega) B ch.o;rw[c2,<-ca.o] at Q;exact⟨rfl,c2,Q⟩
   go_wp2_with fail
   go_loopw [18] (λb1 wr=>∃(b:List Bd) (l:List (Bd×U)) (i:U),b1= .int .i64 (b.length:Int)/\l.map Uy=b/\Q2 (cS (a.map Uy)) bQ (λ_=>eM (a.map Uy)) (bytesOf s) C (bytesOf z) 0 t b/\lF w wr x r q a d f e g i l/\C+(cS (a.map Uy) b).length<=s.size/\wr.heap[r]? =I (cj s (C+(cS (a.map Uy) b).length))/\(bQ b).length<=z.size/\wr.heap[q]? =I (cj z (bQ b).length)) (λb1 _=>t-(UT b1).toNat)
   case atStart=>exact⟨[],[],_,rfl,rfl,Q2.zero Y Y,e8.o,by simpa [cS] using c7,by simpa [cS] using e4.o,by simp[bQ],by simpa [bQ] using er.o⟩
   case round=>
    obtain⟨b,l,i,rfl,cp,cs,R,ao,cv,dk,cu⟩:=hrel;have al:X (Q2 (cS (a.map Uy)) bQ (λ_=>eM (a.map Uy)) (bytesOf s) C (bytesOf z) 0 t b):=cs;have T:X (lF w wr x r q a d f e g i l):=R;have a3:X (l.map Uy=b):=cp;have bb:X (l.length=b.length):=by show _=_;rw[<-cp,UH]
    have c0:b.length<=65536:=by have:=I6 (a.map Uy) b;omega
    obtain⟨u,dd⟩:∃u,u=C+(cS (a.map Uy) b).length:=⟨_,rfl⟩;obtain⟨v,ab⟩:∃v,v=(bQ b).length:=⟨_,rfl⟩;have ar:X (u=C+(cS (a.map Uy) b).length):=dd;have am:X (v=(bQ b).length):=ab;rw[<-dd] at ao cv;rw[<-ab] at dk cu;have be:X (wr.heap[r]? =I (cj s u)):=cv;have bd:X (wr.heap[q]? =I (cj z v)):=cu;have g7:b.length<=t:=cs.le;have gf:w.heap.size<=wr.heap.size:=R.kp.size;by_cases bA:b.length<t
    ·have d2:X ((∀y,eM (a.map Uy) y->ai (bytesOf s) u (ep (a.map Uy) y)->¬ai (bytesOf z) v (cw y.chunks))->∀a b,xf a b->ai (bytesOf s) 0 (qF a b)->bytesOf z≠bQ b):=λab j n k E S=>by
      obtain⟨A,o,B⟩:=b3.o j n k E;rw[A] at k;refine al.o.fail (e:=λ_ y=>ep (a.map Uy) y) (g:=λ_ y=>cw y.chunks) (ua _) r9 bA (λy b0 Q bt=>?_) n o (QC k.cg) B (eP S.symm);rw[<-ar.o] at Q;rw[UU,<-am.o] at bt;exact ab y b0 Q bt
     have e1:X (bG 96 #[(bS r),(bS q),.slice d a.length e] wr.drew (Sd (a.map Uy) wr.drew r u s q v z)):=Cs (a.map Uy) _ r u q v w.heap.size s z wr.drew f8 c8 gn ao dk be.o bd.o a2 a1 (by rw[UH];exact(aK T.o.ah ((Uq wr.heap.size wr).drew))) dT.o (MA cb.o);obtain⟨dr,ds,b2,dt⟩:=R.cells
     go_upto_region 5 with fail
     refine Un.open_ (λV=>bU V x 2 i) 9 (λ_ _ _ _ _ h=>h) λha=>?_;have co:(λV=>bU V x 2 i) wr.drew:=b2;refine Un.pk 0 ?_
     try simp only[UX,Ud,Um,Ul]
     refine Un.ld [9] 1 ?_
     try simp only[UX,Ud,Um,Ul]
     refine Un.pk 2 ?_
     try simp only[UX,Ud,Um,Ul]
     refine Un.pk 3 ?_
     try simp only[UX,Ud,Um,Ul]
     refine Un.pk 4 ?_
     try simp only[UX,Ud,Um,Ul]
     refine Un.on 5 λbm W=>?_;go_simp;go_at_call 96;refine e1.o.mono ?_;rintro p J ⟨an,⟨c,hd,rfl,ft,ge,f0,fk,fu,f2,fg,c5,gi⟩|⟨m,rfl,a0⟩⟩;rotate_left
     ·have an:=(jR.ct (r:=r) (q:=q) ((Uq wr.heap.size wr).drew)).trans an;have L:X (∀a b,xf a b->ai (bytesOf s) 0 (qF a b)->bytesOf z≠bQ b):=d2.o a0;have d7:X (jR r q w J):=T.o.kp.trans an;exact⟨rfl,d7.o,.inr ⟨m,rfl,L.o⟩⟩
     ·have an:=(jR.ct (r:=r) (q:=q) ((Uq wr.heap.size wr).drew)).trans an;obtain⟨ad,fG,rfl⟩:=bz c5;have O:X (lF w J x r q a d f e g i l):=T.o.step a2 a1 az an;have d9:X (J.ownsRow w.heap.size 143 8 (.slice ad c.chunks.length fG) c.chunks.length (ek c.chunks)):=bL c5 (by simpa using gf);have dE:X (eM (a.map Uy) c):=ft;have e6:X (ai (bytesOf s) u (ep (a.map Uy) c)):=ge;have ea:X (u+(ep (a.map Uy) c).length<=s.size):=f0;have eQ:X (J.heap[r]? =I (cj s (u+(ep (a.map Uy) c).length))):=fk;have dO:X (ai (bytesOf z) v (cw c.chunks)):=fu;have eb:X (v+(cw c.chunks).length<=z.size):=f2;have eo:X (J.heap[q]? =I (cj z (v+(cw c.chunks).length))):=fg;have fa:X (∀a4,eM (a.map Uy) a4->ai (bytesOf s) u (ep (a.map Uy) a4)->ai (bytesOf z) v (cw a4.chunks)->a4=c):=gi;have dv:=O.o.cells.2.2.1;refine W.o _ _ (λ_=>dv) ?_
      try simp only[UX,Ud,Um,Ul]
      have co:(λV=>bU V x 2 i) J:=dv;refine Un.on 6 λbm W=>?_;go_simp;have e9:X (lF w (J.alloc (.cells (n7 (c,.slice ad c.chunks.length fG)).toArray 139)) x r q a d f e g i l):=O.o.below ((Uq _ _).alloc (T9 _) _);refine W.o _ _ (λ_=>e9.o.cells.2.2.1) ?_
      try simp only[UX,Ud,Um,Ul]
      refine Un.one (i:=7) (by kernel_rfl) Y (λbm W=>?_);have c9:=O.o.cg.own;rw[bb.o] at c9;have hc:w.heap.size<=J.heap.size:=O.o.kp.size;refine WL _ (by rfl) _ _ 103 (by rfl) w.heap.size 139 gq _ 2 32 ay.underlying103 fz gj gl gm Y (by decide) i b.length _ (by rfl) (c9.alloc _) ⟨J.heap.size,0,K⟩ 1 1 (n7 (c,.slice ad c.chunks.length fG)) (by rfl) Y (IK J _ _ _) (by intro v ab;simp[n7] at ab;rcases ab with rfl|rfl<;>rfl) (by decide) (by unfold Ur;omega) (by omega) (by simp;omega) _ Y ?_;intro M P ap da fx fm g8;have a5:=aO.jm (n:=b.length+1) (cap:=P) fx fm;have f6:ap.ownsRow w.heap.size 139 2 (.slice (I ⟨M,0,K⟩) (b.length+1) P) (l++[(c,Vc ad c.chunks.length fG)]).length (nI (l++[(c,Vc ad c.chunks.length fG)])):=by
       unfold nI at da ⊢;rw[Vj,Ve,Ub,bb.o];exact da
      have d3:X (lF w (ap.setCell ⟨x,2,K⟩ (.slice (I ⟨M,0,K⟩) (b.length+1) P)) x r q a d f e g (.slice (I ⟨M,0,K⟩) (b.length+1) P) (l++[(c,Vc ad c.chunks.length fG)])):=O.o.jQ az a5 d9.o f6;have bi:X ((ap.setCell ⟨x,2,K⟩ (.slice (I ⟨M,0,K⟩) (b.length+1) P)).heap[r]? =I (cj s (u+(ep (a.map Uy) c).length))):=O.o.reader az a5 a2 eQ.o;have es:X ((ap.setCell ⟨x,2,K⟩ (.slice (I ⟨M,0,K⟩) (b.length+1) P)).heap[q]? =I (cj z (v+(cw c.chunks).length))):=O.o.reader az a5 a1 eo.o;obtain⟨dC,hi⟩:=O.o.kept a5;refine W.o _ _ (λ_=>dC) ?_
      try simp only[UX,Ud,Um,Ul]
      have co:(λV=>bU V x 2 i) ap:=dC;refine Un.pk 8 ?_
      try simp only[UX,Ud,Um,Ul]
      refine Un.on 9 λbm W=>?_;go_simp;refine W.o _ _ (λh=>absurd h (by decide)) ?_;refine Un.done (by kernel_rfl) ?_ _
      try simp only[UX,Ud,Um,Ul]
      generalize ap.setCell ⟨x,2,K⟩ (.slice (I ⟨M,0,K⟩) (b.length+1) P)=gv at*;generalize Vc (I ⟨M,0,K⟩) (b.length+1) P=gx at*;have b5:X (C+(cS (a.map Uy) (b++[c])).length=u+(ep (a.map Uy) c).length):=by
       show _=_;rw[ua,Ub];have B:=ar.o;omega
      have b6:X ((bQ (b++[c])).length=v+(cw c.chunks).length):=by
       show _=_;rw[r9,Ub,am.o]
      have ee:X (Q2 (cS (a.map Uy)) bQ (λ_=>eM (a.map Uy)) (bytesOf s) C (bytesOf z) 0 t (b++[c])):=by
       refine al.o.more (e:=λ_ y=>ep (a.map Uy) y) (g:=λ_ y=>cw y.chunks) (ua _) r9 bA dE.o (by rw[<-ar.o];exact e6.o) (by rw[UU,<-am.o];exact dO.o) (λy b0 B Q=>?_);rw[<-ar.o] at B;rw[UU,<-am.o] at Q;exact fa.o y b0 B Q
      have ec:X ((l++[(c,Vc ad c.chunks.length fG)]).map Uy=b++[c]):=by show _=_;rw[U1,a3.o];rfl
      go_wp2_with fail
      go_roundw
      case rel=>exact⟨b++[c],_,_,by rw[Ub];go_num,ec.o,ee.o,d3.o,by rw[b5.o];exact ea.o,by rw[b5.o];exact bi.o,by rw[b6.o];exact eb.o,by rw[b6.o];exact es.o⟩
      case measure=>simp[UT];omega
    ·have a8:=al.o.done bA;have d0:X (b.length=t):=a8.1;have d1:X (∀av:List Bd,av.length=t->sF (λ_=>eM (a.map Uy)) av->ai (bytesOf s) C (cS (a.map Uy) av)->ai (bytesOf z) 0 (bQ av)->av=b):=a8.2;have f5:t=b.length:=a8.1.symm;have ba:X (∀c∈b,eM (a.map Uy) c):=Rc al.o.Ro;have bl:X (∀j n,xf j n->ai (bytesOf s) 0 (qF j n)->bytesOf z=bQ n->j=a/\n=b):=λj n k E S=>by
      obtain⟨A,o,B⟩:=b3.o j n k E;rw[A] at k;exact⟨A,d1.o n o (QC k.cg) B (eP S.symm)⟩
     have cf:X (bG 45 #[.agg #[.slice d a.length e,.slice f a.length g,i]] wr λp a6=>p= .returned (.int .i64 (eW (l.map Uy):Int))/\aP wr a6):=AS d f _ _ _ _ w.heap.size i l wr R.cg (by rw[bb.o];exact c0) (by rw[a3.o];exact λc aa=>(ba.o c aa).hi);rw[a3.o] at cf;have hb:eW b<=6553600:=by have:=Ey b (λc aa=>(ba.o c aa).hi);have:=Nat.mul_le_mul_right 100 c0;omega
     have a9:X ((qF a b).length=u/\ai (bytesOf s) 0 (qF a b)):=by
      have fd:=bc.o;have M:=ca.o;have g4:=ar.o;unfold qF;rw[d0.o];refine⟨by rw[Ub,Ub];omega,?_⟩;exact au.2 ⟨e5.o,by rw[UU,<-fd];exact au.2 ⟨ch.o,by rw[<-M];exact al.o.st⟩⟩
     have e7:X (ai (bytesOf z) 0 (bQ b)):=al.o.sc;obtain⟨bs,br,bx⟩:=bz R.cg.own;subst bx;obtain⟨dr,ds,b2,dt⟩:=R.cells;subst f5
     go_wp2_with fail
     refine cf.o.mono ?_;rintro p ae ⟨rfl,bv⟩;have bj:X (lF w ae x r q a d f e g (.slice bs l.length br) l):=T.o.below bv;have cd:X (ae.heap[r]? =I (cj s u)):=(bv.block r (Uf be.o)).trans be.o;have cc:X (ae.heap[q]? =I (cj z v)):=(bv.block q (Uf bd.o)).trans bd.o;by_cases g6:2000<eW b
     ·have fv:decide ((2000:Int)<(eW b:Int))=Z:=by simp;omega
      have L:X (∀a b,xf a b->ai (bytesOf s) 0 (qF a b)->bytesOf z≠bQ b):=λj n k E S=>by
       obtain⟨A,o⟩:=bl.o j n k E S;have:=k.rows;rw[o] at this;omega
      go_wp2_with (go_at_call 97;refine(b9 r u s _ cd.o).mono ?_;rintro p a6 ⟨rfl,rfl⟩)
      exact⟨rfl,bj.o.kp,.inr ⟨_,rfl,L.o⟩⟩
     ·have fv:decide ((2000:Int)<(eW b:Int))=T8:=by simp;omega
      have e2:X (eW b<=2000):=by show _<=_;omega
      by_cases c3:v<z.size
      ·have L:X (∀a b,xf a b->ai (bytesOf s) 0 (qF a b)->bytesOf z≠bQ b):=λj n k E S=>by
        obtain⟨A,o⟩:=bl.o j n k E S;have B:=congrArg XF S;rw[aj,o,<-am.o] at B;omega
       go_wp2_with (go_at_call 93;refine(BY q v z _ dl c3 cc.o).mono ?_;rintro p a6 ⟨rfl,m,rfl⟩)
       exact⟨rfl,bj.o.kp.trans (jR.jx ((Kp.refl r ae).drewN _)),.inr ⟨_,rfl,L.o⟩⟩
      ·have fb:X (bytesOf z=bQ b):=by
        show _=_;refine(zI e7.o ?_);rw[aj,<-am.o];omega
       have d4:X (xf a b):=⟨cb.o,ba.o,e2.o⟩
       go_upto_region 10 with(go_at_call 93;refine(FZ q v z _ dl c3 cc.o).mono ?_;rintro p a6 ⟨rfl,m,rfl⟩)
       have D:lF w (ae.drewN m) x r q a d f e g (.slice bs l.length br) l:=bj.o.below (below_drewN (Uq _ _) _);have e0:X ((ae.drewN m).heap[r]? =I (cj s u)):=cd.o;generalize ae.drewN m=G at*;generalize bx:Vc bs l.length br=i at D;obtain⟨dr,ds,b2,dt⟩:=D.cells;obtain⟨hf,hg,hh⟩:=cC D.res;have g1:G.frozen? ⟨w.heap.size,0,K⟩=T8:=by have:=D.res;simp[UR,this]
       have g2:G.frozen? ⟨w.heap.size,1,K⟩=T8:=by have:=D.res;simp[UR,this]
       have g3:G.frozen? ⟨w.heap.size,2,K⟩=T8:=by have:=D.res;simp[UR,this]
       have A:=Us G w.heap.size 0 _ _ (.slice d a.length e) D.res;have o:=Us _ w.heap.size 1 _ _ (.slice f a.length g) A;have B:=Us _ w.heap.size 2 _ _ i o;obtain⟨gr,gs,gt⟩:=cC (show _=I (Obj.cells #[.slice d a.length e,.slice f a.length g,i] 105 (0,0)) from B);have eh:X (ja (((G.setCell ⟨w.heap.size,0,K⟩ (.slice d a.length e)).setCell ⟨w.heap.size,1,K⟩ (.slice f a.length g)).setCell ⟨w.heap.size,2,K⟩ i) w.heap.size i l):=
        ((D.cg.put D.res (by decide) (by decide) _ _).put A (by decide) (by decide) _ _).put o (by decide) (by decide) _ _
       have dq:∀{q:U} {t p dp:Nat} {du:List U},p≠105->G.ownsRow w.heap.size p dp q t du->(((G.setCell ⟨w.heap.size,0,K⟩ (.slice d a.length e)).setCell ⟨w.heap.size,1,K⟩ (.slice f a.length g)).setCell ⟨w.heap.size,2,K⟩ i).ownsRow w.heap.size p dp q t du:=λbB df=>by
        have ck:=df.kept (aN G w.heap.size 0 (.slice d a.length e)) (.inr (bq df D.res bB.symm).symm);have cl:=ck.kept (aN _ w.heap.size 1 (.slice f a.length g)) (.inr (bq ck A bB.symm).symm);exact cl.kept (aN _ w.heap.size 2 i) (.inr (bq cl o bB.symm).symm)
       have el:X ((((G.setCell ⟨w.heap.size,0,K⟩ (.slice d a.length e)).setCell ⟨w.heap.size,1,K⟩ (.slice f a.length g)).setCell ⟨w.heap.size,2,K⟩ i).ownsRow w.heap.size 63 2 (.slice d a.length e) a.length (eI (a.map Uy))):=dq (by decide) D.ah;have em:X ((((G.setCell ⟨w.heap.size,0,K⟩ (.slice d a.length e)).setCell ⟨w.heap.size,1,K⟩ (.slice f a.length g)).setCell ⟨w.heap.size,2,K⟩ i).ownsRow w.heap.size 3 1 (.slice f a.length g) a.length (bw (a.map VV))):=dq (by decide) D.eJ;have d8:X (jR r q w (((G.setCell ⟨w.heap.size,0,K⟩ (.slice d a.length e)).setCell ⟨w.heap.size,1,K⟩ (.slice f a.length g)).setCell ⟨w.heap.size,2,K⟩ i)):=((D.kp.grown (aN G w.heap.size 0 _) (λcn p=>by cases p;exact T9 _)).grown (aN _ w.heap.size 1 _) (λcn p=>by cases p;exact T9 _)).grown (aN _ w.heap.size 2 _) (λcn p=>by cases p;exact T9 _);have bi:X ((((G.setCell ⟨w.heap.size,0,K⟩ (.slice d a.length e)).setCell ⟨w.heap.size,1,K⟩ (.slice f a.length g)).setCell ⟨w.heap.size,2,K⟩ i).heap[r]? =I (cj s u)):=by
        show _=_;rw[Uv _ _ _ _ (by simp;omega),Uv _ _ _ _ (by simp;omega),Uv _ _ _ _ (by simp;omega)];exact e0.o
       subst bx;go_wp2;simp[VS,UY,Tryz.results64,go_sem,gr,gs,gt];exact⟨d8.o,.inl ⟨a,b,l,d,f,e,g,_,rfl,d4.o,a3.o,a9.o.2,by rw[a9.o.1];exact ao,by rw[a9.o.1];exact bi.o,fb.o,el.o,em.o,eh.o,bl.o⟩⟩
def oB:Array U:= #[aR,aR,aR]
def fL{w:F}{g:Nat}{a b c:U}{t:Ui}(h:w.heap[g]? =I (.cells #[a,b,c] t (0,0))):(w.cell? ⟨g,0,K⟩=I a/\w.cell? ⟨g,1,K⟩=I b/\w.cell? ⟨g,2,K⟩=I c)/\(w.frozen? ⟨g,0,K⟩=T8/\w.frozen? ⟨g,1,K⟩=T8/\w.frozen? ⟨g,2,K⟩=T8):=by
 refine⟨⟨?_,?_,?_⟩,?_,?_,?_⟩<;>simp[Ut,UR,h]
def gU (w:F)(g:Nat)(a b c:U):F:=((w.setCell ⟨g,0,K⟩ a).setCell ⟨g,1,K⟩ b).setCell ⟨g,2,K⟩ c
def qR{w:F}{g:Nat}{a b c:U}{t:Ui}(x y z:U)(h:w.heap[g]? =I (.cells #[a,b,c] t (0,0))):(gU w g x y z).heap[g]? =I (.cells #[x,y,z] t (0,0)):=by
 have d:=Us w g 0 _ _ x h;have e:=Us _ g 1 _ _ y d;exact Us _ g 2 _ _ z e
def kI{w:F}{g i:Nat}(x y z:U)(h:i≠g):(gU w g x y z).heap[i]? =w.heap[i]? :=by
 unfold gU;rw[Uv _ _ _ _ (by simp;omega),Uv _ _ _ _ (by simp;omega),Uv _ _ _ _ (by simp;omega)]
def mO{w w0:F}{g n:Nat}(x y z:U)(h:Below n w0 w)(b:n<=w0.heap.size)(a:n<=g):Below n w0 (gU w g x y z):=
 bT (bT (bT h b a _ _) b a _ _) b a _ _
def ug(b a:Nat)(x y z v:U)(u:Ui)(h:U)(g:List PanicEntry)(w:F)(r:b≠a)(hL:w.heap[b]? =I (.cells #[x,y,z] 105 (0,0)))(f:w.heap[a]? =I (.cells #[v] 4 (0,0))):
 CallsD (aB T5) 92 #[(bS b),(bS a)] (.panicking ({v:=.iface u h,recovered:=T8}::g)) w λe G w'=>
  e= .returned (.tuple #[])/\G= .panicking ({v:=.iface u h,recovered:=Z}::g)/\w'=(gU (w.alloc (.cells oB 105)) b aR aR aR).setCell ⟨a,0,K⟩ (.bool T8):=by
 have q:=Uf hL;have p:=Uf f;have n:(w.alloc (.cells oB 105)).heap[b]? =I (.cells #[x,y,z] 105 (0,0)):=by rw[UO _ _ b q];exact hL
 have l:(w.alloc (.cells oB 105)).heap[a]? =I (.cells #[v] 4 (0,0)):=by rw[UO _ _ a p];exact f
 have o:(w.alloc (.cells oB 105)).heap[w.heap.size]? =I (.cells #[aR,aR,aR] 105 (0,0)):=bh w _;refine callsD_of_wpS ay.func92 Y λJ H s=>?_;apply wpS_seq;apply wpS_region;simp[wpOpsS,go_sem,recoverD,s,Tryz.ntmps92,Exit.thenS];refine wpS_cond (t:=Z) (by simp[Act.eval,U4]) ?_;simp only[if_true];apply wpS_seq;apply wpS_region;simp[wpOpsS,go_sem,Exit.thenS];apply wpS_region;obtain⟨⟨C,D,E⟩,-⟩:=fL o;obtain⟨⟨t,A,B⟩,i,j,k⟩:=fL n;have m:(gU (w.alloc (.cells oB 105)) b aR aR aR).heap[a]? =I (.cells #[v] 4 (0,0)):=by rw[kI _ _ _ r.symm];exact l
 obtain⟨c,d⟩:=dG m;unfold gU at c d ⊢;unfold oB at*;simp[wpOpsS,go_sem,C,D,E,t,A,B,i,j,k,c,d,bodyPostS,UY,Tryz.results92]
def Dv(d c:UK)(w:F):
 CallsD (aB T5) 92 #[.pointer (I d),.pointer (I c)] .returning w λe f w'=>e= .returned (.tuple #[])/\f= .returning/\w'=w:=by
 refine callsD_of_wpS ay.func92 Y λa g b=>?_;apply wpS_seq;apply wpS_region;simp[wpOpsS,go_sem,recoverD,b,Tryz.ntmps92,Exit.thenS];refine wpS_cond (t:=T8) (by simp[Act.eval,U4]) ?_;simp only[UC,if_false];refine wpS_of_wp (wp_skip ?_);cases a;simp_all [bodyPostS,UY,Tryz.results92]
def MF{r q:Nat}{w d e:F}(h:Kp r w d)(k:jR r q d e)(g:w.heap.size<=q):Kp r w e:=
 ⟨k.os.trans h.os,k.tape.trans h.tape,k.output.trans h.output,Uz (Kp.size h) k.size,λc a b=>(k.block c (Ue a (Kp.size h)) (λf=>b (by rw[f])) (by omega)).trans (Ww h c a b)⟩
structure cP(W:F)(base:Nat)(l:List (bK×Int))(L:List (Bd×U))(a b c:U):Prop where
 ah:W.ownsRow base 63 2 a l.length (eI (l.map Uy))
 eJ:W.ownsRow base 3 1 b l.length (bw (l.map VV))
 cg:ja W base c L
def cP.below{W e:F}{base:Nat}{l:List (bK×Int)}{L:List (Bd×U)}{a b c:U}(h:cP W base l L a b c)(d:aP W e):cP e base l L a b c:=⟨aK h.ah d,aK h.eJ d,h.cg.below d⟩
def cP.base{W:F}{base e:Nat}{l:List (bK×Int)}{L:List (Bd×U)}{a b c:U}(h:cP W base l L a b c)(d:e<=base):cP W e l L a b c:=⟨bL h.ah d,bL h.eJ d,⟨bL h.cg.own d,λg f=>bL (h.cg.each g f) d⟩⟩
def cP.put{W:F}{base:Nat}{l:List (bK×Int)}{L:List (Bd×U)}{a b c:U}(h:cP W base l L a b c){g:Nat}{cs:Array U}{t:Ui}(e:W.heap[g]? =I (.cells cs t (0,0)))(d:t=105\/t=4\/t=9)(o:Nat)(u:U):cP (W.setCell ⟨g,o,K⟩ u) base l L a b c:=by
 have f:t≠63:=by rcases d with rfl|rfl|rfl<;>decide
 have i:t≠3:=by rcases d with rfl|rfl|rfl<;>decide
 have j:t≠139:=by rcases d with rfl|rfl|rfl<;>decide
 have k:t≠143:=by rcases d with rfl|rfl|rfl<;>decide
 exact⟨h.ah.kept (aN W g o u) (.inr (bq h.ah e f).symm),h.eJ.kept (aN W g o u) (.inr (bq h.eJ e i).symm),h.cg.put e j k o u⟩
def cP.gU{W:F}{base:Nat}{l:List (bK×Int)}{L:List (Bd×U)}{a b c:U}(h:cP W base l L a b c){g:Nat}{x y z:U}(f i k:U)(e:W.heap[g]? =I (.cells #[x,y,z] 105 (0,0))):cP (Ec.gU W g f i k) base l L a b c:=by
 have d:=Us W g 0 _ _ f e;have j:=Us _ g 1 _ _ i d;exact((h.put e (.inl Y) _ _).put d (.inl Y) _ _).put j (.inl Y) _ _
def cP.Ic{W:F}{base:Nat}{l:List (bK×Int)}{L:List (Bd×U)}{a b c:U}(h:cP W base l L a b c):∃d ac bo e co f,a= .slice d l.length ac/\b= .slice bo l.length e/\c= .slice co L.length f:=by
 obtain⟨d,ac,g⟩:=bz h.ah;obtain⟨bo,e,i⟩:=bz h.eJ;obtain⟨co,f,j⟩:=bz h.cg.own;exact⟨d,ac,bo,e,co,f,g,i,j⟩
def TS (w:F)(r:Nat)(s z:ByteArray)(e:WU)(w':F):Prop:=
 Kp r w w'/\((∃(b:List (bK×Int)) (a:List Bd) (f:List (Bd×U)) (g h i:U),e= .returned (.agg #[g,h,i])/\xf b a/\f.map Uy=a/\ai (bytesOf s) 0 (qF b a)/\(qF b a).length<=s.size/\w'.heap[r]? =I (cj s (qF b a).length)/\bytesOf z=bQ a/\cP w' w.heap.size b f g h i/\(∀d c,xf d c->ai (bytesOf s) 0 (qF d c)->bytesOf z=bQ c->d=b/\c=a))\/
  (∃m,e= .panicked (eE m)/\∀b a,xf b a->ai (bytesOf s) 0 (qF b a)->bytesOf z≠bQ a))
def J2(r cb:Nat)(s z:ByteArray)(w:F)(az:s.size<=65536)(C:z.size<=65536)(h:w.heap[r]? =I (cj s 0))(B:w.heap[cb]? =I (.cells #[.string z] 9 (0,0))):
 bG 63 #[(bS r),(bS cb)] w (TS w r s z):=by
 have a4:r<w.heap.size:=Uf h;have ar:cb<w.heap.size:=Uf B;have bb:(w.alloc (.cells #[aR,aR,aR] 105)).cell? ⟨cb,0,K⟩=I (.string z):=(dG (t:=9) (by rw[UO _ _ cb ar];exact B)).1;have H:X (∀n,bG 66 #[.string z] n λc ba=>c= .returned (.string z)/\aP n ba):=λn=>xW z n C;have u:X ((w.alloc (.cells #[aR,aR,aR] 105)).heap[r]? =I (cj s 0)):=by
  show _=_;rw[UO _ _ r a4];exact h
 have v:X ((w.alloc (.cells #[aR,aR,aR] 105)).heap[w.heap.size]? =I (.cells #[aR,aR,aR] 105 (0,0))):=bh w _;have M:X (Kp r w (w.alloc (.cells #[aR,aR,aR] 105))):=(Kp.refl r w).alloc _;go_enter ay.func63,Tryz.ntmps63
 go_wp2_with fail
 refine(H.o _).mono ?_;rintro c b ⟨rfl,q⟩;have U:X (b.heap[r]? =I (cj s 0)):=(q.block r (Uf u.o)).trans u.o;have x:X (b.heap[w.heap.size]? =I (.cells #[aR,aR,aR] 105 (0,0))):=(q.block _ (Uf v.o)).trans v.o;have N:X (Kp r w b):=M.o.trans (Kp.ct q)
 go_wp2_with fail
 refine(nN z _).mono ?_;rintro c bi ⟨rfl,rfl⟩;have a7:w.heap.size<b.heap.size:=Uf x.o;have V:X ((b.alloc (cj z 0)).heap[r]? =I (cj s 0)):=by show _=_;rw[UO _ _ r (by omega)];exact U.o
 have T:X ((b.alloc (cj z 0)).heap[b.heap.size]? =I (cj z 0)):=bh b _;have aa:X ((b.alloc (cj z 0)).heap[w.heap.size]? =I (.cells #[aR,aR,aR] 105 (0,0))):=by show _=_;rw[UO _ _ _ a7];exact x.o
 have t:X (Kp r w (b.alloc (cj z 0))):=N.o.alloc _;have a6:w.heap.size<=(b.alloc (cj z 0)).heap.size:=by simp;omega
 generalize b.alloc (cj z 0)=ae at*;generalize b.heap.size=a9 at*
 go_wp2_with fail
 refine(y9 r a9 s z ae (by omega) az C V.o T.o).mono ?_;rintro c e ⟨o,⟨a,y,d,g,j,f,i,al,rfl,av,an,a5,aw,ao,ap,a2,a3,a1,a8⟩|⟨m,rfl,a0⟩⟩;rotate_left
 ·have S:=af a0;have O:X (Kp r w e):=MF t.o o (by omega);go_wp2;exact⟨rfl,O.o,.inr ⟨m,rfl,S.o⟩⟩
 ·have am:Kp r w e:=MF t.o o (by omega);have p:e.heap[w.heap.size]? =I (.cells #[aR,aR,aR] 105 (0,0)):=o.keep aa.o (by omega) (by omega);have hF:cP e w.heap.size a d (.slice g a.length f) (.slice j a.length i) al:=(cP.mk a2 a3 a1).base a6;obtain⟨-,-,-,-,l,k,-,-,rfl⟩:=hF.Ic;have J:X (cP (gU e w.heap.size (.slice g a.length f) (.slice j a.length i) (.slice l d.length k)) w.heap.size a d (.slice g a.length f) (.slice j a.length i) (.slice l d.length k)):=hF.gU _ _ _ p;have W:X ((gU e w.heap.size (.slice g a.length f) (.slice j a.length i) (.slice l d.length k)).heap[r]? =I (cj s (qF a y).length)):=by show _=_;rw[kI _ _ _ (by omega)];exact ao
  have P:X (Kp r w (gU e w.heap.size (.slice g a.length f) (.slice j a.length i) (.slice l d.length k))):=((am.grown (aN _ w.heap.size 0 _) (λA c=>by cases c;exact T9 _)).grown (aN _ w.heap.size 1 _) (λA c=>by cases c;exact T9 _)).grown (aN _ w.heap.size 2 _) (λA c=>by cases c;exact T9 _);have ab:X ((gU e w.heap.size (.slice g a.length f) (.slice j a.length i) (.slice l d.length k)).heap[w.heap.size]? =I (.cells #[.slice g a.length f,.slice j a.length i,.slice l d.length k] 105 (0,0))):=qR _ _ _ p;obtain⟨⟨bj,bl,bm⟩,bc,bd,be⟩:=fL p;have L:=af av;have Q:=af an;have Y:=af a5;have R:=af aw;have ad:=af ap;have Z:=af a8;obtain⟨⟨D,E,G⟩,-⟩:=fL ab.o;unfold gU at D E G;go_wp2;simp[VS,UY,Tryz.results63,go_sem,D,E,G];exact⟨P.o,.inl ⟨a,y,d,_,_,_,rfl,L.o,Q.o,Y.o,R.o,W.o,ad.o,J.o,Z.o⟩⟩
def wi(t:ByteArray):(t.toList==[83,84,82,65])=Z↔bytesOf t=[83,84,82,65]:=by
 rw[beq_iff_eq,XL];unfold bytesOf;constructor
 ·intro d;rw[d];rfl
 ·intro d;have e:t.data.toList.map UInt8.toNat=[(83:UInt8),84,82,65].map UInt8.toNat:=by rw[d];rfl
  have g:∀(c a:List UInt8),c.map UInt8.toNat=a.map UInt8.toNat->c=a:=by
   intro c
   induction c with
   |nil=>intro a b;cases a with|nil=>rfl|cons _ _=>simp at b
   |cons j i f=>
    intro a b;cases a with
    |nil=>simp at b
    |cons k h=>
     simp only[Xy,Xl] at b;rw[UInt8.toNat_inj.1 b.1,f h b.2]
  exact g _ _ e
def PF{s:ByteArray}(c:4<=s.size):bytesOf (s.extract 0 4)=[83,84,82,65]↔∃b,bytesOf s=[83,84,82,65]++b:=by
 rw[dA,List.drop_zero];constructor
 ·intro a;exact⟨(bytesOf s).drop 4,by rw[<-a];exact(Wx 4 _).symm⟩
 ·rintro⟨b,a⟩;rw[a];simp
def P5{s:ByteArray}(d:4<=s.size):bytesOf (s.extract (s.size-4) s.size)=[83,84,82,65]↔∃b,bytesOf s=b++[83,84,82,65]:=by
 rw[dA];constructor
 ·intro a;refine⟨(bytesOf s).take (s.size-4),?_⟩;rw[<-a,UP (l:=(bytesOf s).drop (s.size-4)) (by rw[Xc,aj];omega)];exact(Wx _ _).symm
 ·rintro⟨b,a⟩;have c:=congrArg XF a;rw[aj] at c;simp at c;rw[a,show s.size-4=b.length by omega,List.drop_left];exact UP (by simp;omega)
def Ah(s:ByteArray)(w:F)(f:s.size<=Ur):
 bG 150 #[.string s,.string ⟨#[83,84,82,65]⟩] w λe w'=>∃bb,e= .returned (.bool bb)/\(bb=Z↔4<=s.size/\∃c,bytesOf s=[83,84,82,65]++c)/\w'=w:=by
 unfold Ur at f;by_cases b:4<=s.size
 ·have d:decide ((4:Int)<=(s.size:Int))=Z:=by simp;omega
  have g:(4:Int)<=(s.size:Int):=by omega
  go_enter ay.func150,Tryz.ntmps150;go_wp2;go_ret;exact⟨_,rfl,by rw[wi,PF b];exact⟨λa=>⟨b,a⟩,λa=>a.2⟩,rfl⟩
 ·have d:decide ((4:Int)<=(s.size:Int))=T8:=by simp;omega
  go_enter ay.func150,Tryz.ntmps150;go_wp2;go_ret;exact⟨T8,rfl,⟨λa=>(by simp at a),λa=>absurd a.1 b⟩,rfl⟩
def Ak(s:ByteArray)(w:F)(f:s.size<=Ur):
 bG 151 #[.string s,.string ⟨#[83,84,82,65]⟩] w λe w'=>∃bb,e= .returned (.bool bb)/\(bb=Z↔4<=s.size/\∃c,bytesOf s=c++[83,84,82,65])/\w'=w:=by
 unfold Ur at f;by_cases b:4<=s.size
 ·have d:decide ((4:Int)<=(s.size:Int))=Z:=by simp;omega
  have g:(4:Int)<=(s.size:Int):=by omega
  have h:Vd ((s.size:Int)-4)=((s.size-4:Nat):Int):=by unfold Vd;omega
  have i:((s.size-4:Nat):Int)<=(s.size:Int):=by omega
  have j:((s.size:Int)-4).toNat=s.size-4:=by omega
  go_enter ay.func151,Tryz.ntmps151;go_wp2;go_ret;exact⟨_,rfl,by rw[wi,P5 b];exact⟨λa=>⟨b,a⟩,λa=>a.2⟩,rfl⟩
 ·have d:decide ((4:Int)<=(s.size:Int))=T8:=by simp;omega
  go_enter ay.func151,Tryz.ntmps151;go_wp2;go_ret;exact⟨T8,rfl,⟨λa=>(by simp at a),λa=>absurd a.1 b⟩,rfl⟩
def Qs (s:ByteArray)(e:WU):Prop:=∃(b:ByteArray) (a:Bool),e= .returned (.tuple #[.string b,.bool a])/\((a=Z/\bytesOf s=[83,84,82,65]++bytesOf b)\/(a=T8/\b=s/\∀c,bytesOf s≠[83,84,82,65]++c))
def Qu (s:ByteArray)(e:WU):Prop:=∃(b:ByteArray) (a:Bool),e= .returned (.tuple #[.string b,.bool a])/\((a=Z/\bytesOf s=bytesOf b++[83,84,82,65])\/(a=T8/\b=s/\∀c,bytesOf s≠c++[83,84,82,65]))
def wV(s:ByteArray)(w:F)(g:s.size<=Ur):
 bG 126 #[.string s,.string ⟨#[83,84,82,65]⟩] w λe w'=>Qs s e/\w'=w:=by
 have k:=g;unfold Ur at k;go_enter ay.func126,Tryz.ntmps126
 go_wp2_with fail
 refine(Ah s _ g).mono ?_;rintro e m ⟨j,rfl,a,rfl⟩;cases j
 ·have h:X (∀b,bytesOf s≠[83,84,82,65]++b):=λb c=>by
   have d:4<=s.size:=by
    have:=congrArg XF c;rw[aj] at this;simp at this;omega
   exact absurd (a.2 ⟨d,b,c⟩) (by simp)
  clear a;go_wp2
  go_ret2
  exact⟨⟨s,T8,rfl,.inr ⟨rfl,rfl,h.o⟩⟩,rfl⟩
 ·have d:=(a.1 Y).1;have i:=af ((a.1 Y).2);have l:(4:Int)<=(s.size:Int):=by omega
  clear a;go_wp2
  go_ret2
  refine⟨⟨s.extract 4 s.size,Z,rfl,.inl ⟨rfl,?_⟩⟩,rfl⟩;obtain⟨b,f⟩:=i.o;rw[dA,f,UP (by rw[Xc,<-f,aj];omega)];simp
def wW(s:ByteArray)(w:F)(h:s.size<=Ur):
 bG 127 #[.string s,.string ⟨#[83,84,82,65]⟩] w λe w'=>Qu s e/\w'=w:=by
 have l:=h;unfold Ur at l;go_enter ay.func127,Tryz.ntmps127
 go_wp2_with fail
 refine(Ak s _ h).mono ?_;rintro e q ⟨k,rfl,b,rfl⟩;cases k
 ·have i:X (∀a,bytesOf s≠a++[83,84,82,65]):=λa c=>by
   have d:4<=s.size:=by
    have:=congrArg XF c;rw[aj] at this;simp at this;omega
   exact absurd (b.2 ⟨d,a,c⟩) (by simp)
  clear b;go_wp2
  go_ret2
  exact⟨⟨s,T8,rfl,.inr ⟨rfl,rfl,i.o⟩⟩,rfl⟩
 ·have d:=(b.1 Y).1;have j:=af ((b.1 Y).2);have m:(4:Int)<=(s.size:Int):=by omega
  have n:Vd ((s.size:Int)-4)=((s.size-4:Nat):Int):=by unfold Vd;omega
  have o:((s.size-4:Nat):Int)<=(s.size:Int):=by omega
  have p:((s.size:Int)-4).toNat=s.size-4:=by omega
  clear b;go_wp2
  go_ret2
  refine⟨⟨s.extract 0 (s.size-4),Z,rfl,.inl ⟨rfl,?_⟩⟩,rfl⟩;obtain⟨a,f⟩:=j.o;have g:=congrArg XF f;rw[aj] at g;simp at g;rw[dA,f,List.drop_zero,show s.size-4-0=a.length by omega,List.take_left]
def Ac(s:ByteArray)(w:F)(d:s.size<=Ur):
 bG 89 #[.string s,.string ⟨#[83,84,82,65]⟩] w λe w'=>Qs s e/\w'=w:=by
 go_enter ay.func89,Tryz.ntmps89
 go_wp2_with fail
 refine(wV s _ d).mono ?_;rintro e g ⟨⟨f,b,rfl,c⟩,rfl⟩;have a:=af c;go_wp2
 go_ret2
 exact⟨⟨f,b,rfl,a.o⟩,rfl⟩
def rF(s:ByteArray)(w:F)(d:s.size<=Ur):
 bG 90 #[.string s,.string ⟨#[83,84,82,65]⟩] w λe w'=>Qu s e/\w'=w:=by
 go_enter ay.func90,Tryz.ntmps90
 go_wp2_with fail
 refine(wW s _ d).mono ?_;rintro e g ⟨⟨f,b,rfl,c⟩,rfl⟩;have a:=af c;go_wp2
 go_ret2
 exact⟨⟨f,b,rfl,a.o⟩,rfl⟩
def sj (s:ByteArray):Nat->Nat
 |0=>0
 |k+1=>sj s k+256^k*(bytesOf s).getD k 0
def sU(s:ByteArray)(k:Nat):(bytesOf s).getD k 0<256:=by
 by_cases a:k<s.size
 ·rw[Uj,sM s k a];exact s[k].toNat_lt
 ·rw[Uj,List.getElem?_eq_none (by rw[aj];omega)];simp
theorem xw(s:ByteArray):∀k,sj s k<256^k
 |0=>by simp[sj]
 |k+1=>by
  have a:=xw s k;have b:=sU s k;have c:256^k*(bytesOf s).getD k 0<=256^k*255:=Nat.mul_le_mul_left _ (by omega);rw[sj,Nat.pow_succ];omega
def Rx(j:Nat):(256:Nat)^j=2^(8*j):=by rw[Nat.pow_mul]
def PA(a c j:Nat)(e:j<=3)(b:a<256^j)(hc:c<256):bits .or .u64 (a:Int) (Wm.wrap ((c:Int)*2^(8*j)))=((a+256^j*c:Nat):Int):=by
 have i:(256:Nat)^3=16777216:=by decide
 have g:256^j<=256^3:=Nat.pow_le_pow_right (by omega) e;have k:2^(8*j)*c<18446744073709551616:=by
  rw[<-Rx];have:=Wt g (show c<=255 by omega);omega
 have d:(c:Int)*2^(8*j)=((2^(8*j)*c:Nat):Int):=by push_cast;rw[Int.mul_comm]
 have h:Wm.wrap ((c:Int)*2^(8*j))=((2^(8*j)*c:Nat):Int):=by rw[d,wrap_u64];omega
 have f:=(bits_nat .u64 64 (by decide) vn a (2^(8*j)*c) (by omega) (by omega)).2;rw[h,f,Nat.or_comm,<-Nat.two_pow_add_eq_or_of_lt (by rw[<-Rx];exact b) c,Nat.add_comm,Rx]
def za(s:ByteArray)(w:F)(h:s.size=4):
 bG 91 #[.string s] w λe w'=>e= .returned (.int .u64 (sj s 4:Int))/\w'=w:=by
 go_enter ay.func91,Tryz.ntmps91
 go_wp2_with fail
 go_loopw [3,5] (λg b wr=>∃a:Nat,a<=4/\b= .int .i64 (a:Int)/\g= .int .u64 (sj s a:Int)/\wr=w) (λ_ b _=>4-(UT b).toNat)
 case atStart=>exact⟨0,by omega,rfl,rfl,rfl⟩
 case round=>
  obtain⟨a,i,rfl,rfl,rfl⟩:=hrel;by_cases k:a<4
  ·have f:a<s.size:=by omega
   have j:(a:Int)<(s.size:Int):=by omega
   have c:X (s[a].toNat=(bytesOf s).getD a 0):=by show _=_;rw[Uj,sM s a f];rfl
   have d:s[a].toNat<256:=s[a].toNat_lt;have l:=PA (sj s a) s[a].toNat a (by omega) (xw s a) d;have m:Wm.wrap (s[a].toNat:Int)=(s[a].toNat:Int):=by rw[wrap_u64];omega
   go_wp2_with fail
   refine⟨⟨a+1,by omega,by go_num,?_,trivial⟩,by simp[UT];omega⟩;rw[sj,<-c.o]
   push_cast
   rfl
  ·obtain rfl:a=4:=by omega
   go_wp2;go_ret;exact⟨rfl,rfl⟩
def AY(E:ByteArray)(h:E.size=4):iA (sj E 4)=bytesOf E:=by
 have f:(bytesOf E).length=4:=by rw[aj,h]
 have b:=sU E 0;have c:=sU E 1;have d:=sU E 2;have e:=sU E 3;simp only[sj];generalize bytesOf E=a at*
 match a,f with
 | [g,i,j,k],_=>
  simp at b c d e;simp[iA];omega
def JK(E:ByteArray)(n:Nat)(e:n<=65536)(h:bytesOf E=iA n):sj E 4=n:=by
 have c:E.size=4:=by rw[<-aj,h];rfl
 have b:=AY E c;have a:iA (sj E 4)=iA n:=by rw[b,h]
 have d:=xw E 4;unfold iA at a;simp at a;have:(256:Nat)^4=4294967296:=by decide
 omega
def S1 (s:ByteArray)(e:WU):Prop:=
 (∃a b:ByteArray,e= .returned (.tuple #[.string a,.string b,.bool Z])/\Cut s (bytesOf a) (bytesOf b))\/(e= .returned (.tuple #[.string ⟨#[]⟩,.string ⟨#[]⟩,.bool T8])/\∀a b,¬Cut s a b)
def OK(s:ByteArray)(w:F)(v:s.size<=Ur):
 bG 61 #[.string s] w λe w'=>S1 s e/\aP w w':=by
 have K:=v;unfold Ur at K;by_cases T:65536<s.size
 ·have H:decide ((65536:Int)<(s.size:Int))=Z:=by simp;omega
  have i:X (∀c a,¬Cut s c a):=λc a f=>by have:=f.1;omega
  go_enter ay.func61,Tryz.ntmps61;go_wp2;simp[VS,UY,Tryz.results61,go_sem];exact⟨.inr ⟨rfl,i.o⟩,Uq _ _⟩
 ·have H:decide ((65536:Int)<(s.size:Int))=T8:=by simp;omega
  go_enter ay.func61,Tryz.ntmps61
  go_wp2_with fail
  refine(Ac s _ v).mono ?_;rintro e av ⟨⟨o,D,rfl,n⟩,rfl⟩;rcases n with⟨rfl,n⟩|⟨rfl,rfl,n⟩;rotate_left
  ·have i:X (∀c a,¬Cut o c a):=λc a f=>n _ f.2;clear n
   go_wp2_with fail
   refine(rF o _ v).mono ?_;rintro e A ⟨⟨d,D,rfl,h⟩,rfl⟩;clear h;go_wp2;simp[VS,UY,Tryz.results61,go_sem];exact⟨.inr ⟨rfl,i.o⟩,Uq _ _⟩
  ·have Y:o.size+4=s.size:=by
    have:=congrArg XF n;rw[aj,Ub,aj] at this;simp at this;omega
   have M:o.size<=Ur:=by unfold Ur;omega
   have r:=af n;clear n
   go_wp2_with fail
   refine(rF o _ M).mono ?_;rintro e A ⟨⟨d,D,rfl,h⟩,rfl⟩;rcases h with⟨rfl,h⟩|⟨rfl,rfl,h⟩;rotate_left
   ·have i:X (∀c a,¬Cut s c a):=λc a f=>by
     have j:=f.2;rw[r.o] at j;have l:=List.append_cancel_left (show[83,84,82,65]++bytesOf _=[83,84,82,65]++_ from j);exact h (c++(a++iA a.length)) (by rw[l];simp[dP])
    clear h;go_wp2;simp[VS,UY,Tryz.results61,go_sem];exact⟨.inr ⟨rfl,i.o⟩,Uq _ _⟩
   ·have aa:d.size+4=o.size:=by
     have:=congrArg XF h;rw[aj,Ub,aj] at this;simp at this;omega
    have p:X (∀c a,Cut s c a->bytesOf d=c++(a++iA a.length)):=λc a f=>by
     have j:=f.2;rw[r.o] at j;have l:=List.append_cancel_left (show[83,84,82,65]++bytesOf _=[83,84,82,65]++_ from j);rw[h] at l;have z:bytesOf d++[83,84,82,65]=(c++(a++iA a.length))++[83,84,82,65]:=by rw[l];simp[dP]
     exact List.append_cancel_right z
    have t:X (∀c a,bytesOf d=c++(a++iA a.length)->Cut s c a):=λc a f=>by
     refine⟨by omega,?_⟩;rw[r.o,h,f];simp[dP]
    clear h r;by_cases z:d.size<4
    ·have I:decide ((d.size:Int)-4<0)=Z:=by simp;omega
     have N:Vd ((d.size:Int)-4)=(d.size:Int)-4:=by unfold Vd;omega
     have i:X (∀c a,¬Cut s c a):=λc a f=>by
      have:=congrArg XF (p.o c a f);rw[aj] at this;simp[iA] at this;omega
     clear p t;go_wp2;simp[VS,UY,Tryz.results61,go_sem];exact⟨.inr ⟨rfl,i.o⟩,Uq _ _⟩
    ·obtain⟨b,L⟩:∃b,d.size=b+4:=⟨d.size-4,by omega⟩;have I:decide ((b:Int)<0)=T8:=by simp
     have N:Vd ((d.size:Int)-4)=(b:Int):=by unfold Vd;omega
     have Q:(b:Int)<=(d.size:Int):=by omega
     have R:(d.size:Int)-4=(b:Int):=by omega
     obtain⟨g,u⟩:∃g,g=d.extract b (b+4):=⟨_,rfl⟩;have q:g.size=4:=by rw[u,ByteArray.size_extract];omega
     have y:X (bytesOf d=(bytesOf d).take b++bytesOf g):=by
      show _=_;rw[u,dA,UP (l:=(bytesOf d).drop b) (by rw[Xc,aj];omega),Wx]
     have C:X (bG 91 #[.string (d.extract b (b+4))] A λe w'=>e= .returned (.int .u64 (sj g 4:Int))/\w'=A):=by rw[<-u];exact za g _ q
     have B:=af (AY g q);have P:=af (xw g 4);have x:X (∀c a,Cut s c a->sj g 4=a.length/\a.length<=b):=λc a f=>by
      have E:=p.o c a f;have j:=y.o;have J:=congrArg XF E;rw[aj] at J;simp[iA] at J;have l:(bytesOf d).take b++bytesOf g=(c++a)++iA a.length:=by rw[<-j,E,UD]
      have G:=(List.append_inj' l (by rw[aj,q];rfl)).2;exact⟨JK g _ (by omega) G,by omega⟩
     clear u;generalize sj g 4=k at*
     go_wp2_with fail
     refine C.o.mono ?_;rintro e aw ⟨rfl,rfl⟩;have ap:Wm.wrap (b:Int)=(b:Int):=by rw[wrap_u64];omega
     have ad:=af L;have ab:=af q;have an:b<=65536:=by omega
     have ae:X (s.size<=65536):=by show _<=_;omega
     have ao:(b:Int)<=(d.size:Int):=by omega
     clear C N R Q I Y aa M L q H K v T z;by_cases S:b<k
     ·have U:(b:Int)<(k:Int):=by omega
      have i:X (∀c a,¬Cut s c a):=λc a f=>by have:=x.o c a f;omega
      clear p t x;go_wp2;simp[VS,UY,Tryz.results61,go_sem];exact⟨.inr ⟨rfl,i.o⟩,Uq _ _⟩
     ·have U:decide ((b:Int)<(k:Int))=T8:=by simp;omega
      obtain⟨m,W⟩:∃m,b=m+k:=⟨b-k,by omega⟩;have ar:(b:Int)-(k:Int)=(m:Int):=by omega
      have G:(m:Int)<=(b:Int):=by omega
      have al:(m:Int)<=(d.size:Int):=by omega
      have O:X (Cut s (bytesOf (d.extract 0 m)) (bytesOf (d.extract m b))):=by
       refine t.o _ _ ?_;have V:(bytesOf (d.extract m b)).length=k:=by rw[aj,ByteArray.size_extract];omega
       rw[V,B.o];have j:=y.o;rw[dA,dA,List.drop_zero,<-UD];have l:((bytesOf d).take (m-0))++((bytesOf d).drop m).take (b-m)=(bytesOf d).take b:=by
        rw[show b=m+(b-m) by omega,List.take_add,show m+(b-m)-m=b-m by omega];rfl
       rw[l];exact j
      have am:k<=65536:=by omega
      clear p t x y B P W S
      go_upto_region 12 with fail
      go_quiet (fail)
      go_wp2;simp[VS,UY,Tryz.results61,go_sem];exact⟨.inl ⟨_,_,rfl,O.o⟩,below_drewN (Uq _ _) _⟩
def TT (w:F)(s z:ByteArray)(e:WU)(w':F):Prop:=
 aP w w'/\((∃(b:List (bK×Int)) (a:List Bd) (f:List (Bd×U)) (g h i:U),e= .returned (.tuple #[.agg #[g,h,i],.bool Z])/\xf b a/\f.map Uy=a/\bytesOf s=qF b a/\bytesOf z=bQ a/\cP w' w.heap.size b f g h i/\(∀d c,xf d c->bytesOf s=qF d c->bytesOf z=bQ c->d=b/\c=a))\/
  (e= .returned (.tuple #[.agg #[aR,aR,aR],.bool T8])/\∀b a,xf b a->bytesOf s=qF b a->bytesOf z≠bQ a))
def AL{w w4:F}{x y z v:U}(q:Nat)(hL:w4.heap[w.heap.size]? =I (.cells #[x,y,z] 105 (0,0)))(a:w4.heap[w.heap.size+1]? =I (.cells #[v] 4 (0,0))):
 CallsD (aB T5) 92 #[(bS w.heap.size),(bS (w.heap.size+1))] (.panicking (eE q)) w4 λe b w'=>
  e= .returned (.tuple #[])/\b= .panicking [{v:=.iface 205 (.agg #[.int .i64 (q:Int)]),recovered:=Z}]/\w'=(gU (w4.alloc (.cells oB 105)) w.heap.size aR aR aR).setCell ⟨w.heap.size+1,0,K⟩ (.bool T8):=
 ug _ _ _ _ _ _ _ _ [] w4 (by omega) hL a
def sD{w w4:F}{x y z v:U}(a b c u:U)(hL:w4.heap[w.heap.size]? =I (.cells #[x,y,z] 105 (0,0)))(g:w4.heap[w.heap.size+1]? =I (.cells #[v] 4 (0,0)))(f:aP w w4):
 let W:=(gU w4 w.heap.size a b c).setCell ⟨w.heap.size+1,0,K⟩ u
 (bU W w.heap.size 0 a/\bU W w.heap.size 1 b/\bU W w.heap.size 2 c)/\bU W (w.heap.size+1) 0 u/\aP w W:=by
 have d:=qR a b c hL;have e:(gU w4 w.heap.size a b c).heap[w.heap.size+1]? =I (.cells #[v] 4 (0,0)):=by rw[kI _ _ _ (by omega)];exact g
 refine⟨(fL (t:=105) (by rw[Uv _ _ _ _ (by simp)];exact d)).1,(dG (sZ u e)).1,?_⟩;exact(mO _ _ _ f (T9 _) (T9 _)).setCell (Nat.le_succ _) _
def Hl(cb:Nat)(s z:ByteArray)(w:F)(bB:s.size<=65536)(b2:z.size<=65536)(ae:w.heap[cb]? =I (.cells #[.string z] 9 (0,0))):
 bG 62 #[.string s,.func (.func 63) #[] #[(bS cb)]] w (TT w s z):=by
 have bx:cb<w.heap.size:=Uf ae;have am:s.size<=Ur:=by unfold Ur;omega
 have av:=af ae;have cf:∀(V:Fn) (first S:Array U) (w:F),(Instr.makeFunc V first S).run (aB T5) w= .ok (.func V first S) w:=λ_ _ _ _=>rfl
 go_enter_defers ay.func62,Tryz.ntmps62
 go_wp2_with (go_at_call 65;refine(nN s _).mono ?_;rintro p ao ⟨rfl,rfl⟩)
 have ad:(((w.alloc (.cells #[aR,aR,aR] 105)).alloc (.cells #[.bool T8] 4)).alloc (cj s 0)).heap[w.heap.size]? =I (.cells #[aR,aR,aR] 105 (0,0)):=CU _ _ _ _;have W:(((w.alloc (.cells #[aR,aR,aR] 105)).alloc (.cells #[.bool T8] 4)).alloc (cj s 0)).heap[w.heap.size+1]? =I (.cells #[.bool T8] 4 (0,0)):=CV _ _ _ _;have bs:(((w.alloc (.cells #[aR,aR,aR] 105)).alloc (.cells #[.bool T8] 4)).alloc (cj s 0)).heap[w.heap.size+1+1]? =I (cj s 0):=CW _ _ _ _;have cc:(((w.alloc (.cells #[aR,aR,aR] 105)).alloc (.cells #[.bool T8] 4)).alloc (cj s 0)).heap.size=w.heap.size+3:=by simp
 have N:aP w (((w.alloc (.cells #[aR,aR,aR] 105)).alloc (.cells #[.bool T8] 4)).alloc (cj s 0)):=(((Uq _ _).alloc (T9 _) _).alloc (by simp) _).alloc (by simp;omega) _;generalize (((w.alloc (.cells #[aR,aR,aR] 105)).alloc (.cells #[.bool T8] 4)).alloc (cj s 0))=a4 at*;refine(J2 (w.heap.size+1+1) cb s z a4 bB b2 bs ((N.block cb bx).trans av.o)).mono ?_;rintro p h ⟨t,⟨a,i,b,a5,a6,a7,rfl,bA,bo,b0,cd,bt,bv,hF,b1⟩|⟨ch,rfl,br⟩⟩
 ·have n:h.heap[w.heap.size]? =I (.cells #[aR,aR,aR] 105 (0,0)):=Kp.block t ad (by omega);have y:h.heap[w.heap.size+1]? =I (.cells #[.bool T8] 4 (0,0)):=Kp.block t W (by omega);have O:aP w h:=N.trans ((t.below (by omega)).mono (by omega));have ab:cP h w.heap.size a b a5 a6 a7:=hF.base (by omega);obtain⟨c,ac,e,d,g,f,rfl,rfl,rfl⟩:=ab.Ic;have Q:X (cP (gU h w.heap.size (.slice c a.length ac) (.slice e a.length d) (.slice g b.length f)) w.heap.size a b (.slice c a.length ac) (.slice e a.length d) (.slice g b.length f)):=ab.gU _ _ _ n;have bm:(gU h w.heap.size (.slice c a.length ac) (.slice e a.length d) (.slice g b.length f)).heap[w.heap.size]? =I (.cells #[.slice c a.length ac,.slice e a.length d,.slice g b.length f] 105 (0,0)):=qR _ _ _ n;have bj:(gU h w.heap.size (.slice c a.length ac) (.slice e a.length d) (.slice g b.length f)).heap[w.heap.size+1]? =I (.cells #[.bool T8] 4 (0,0)):=by rw[kI _ _ _ (by omega)];exact y
  have bu:(gU h w.heap.size (.slice c a.length ac) (.slice e a.length d) (.slice g b.length f)).heap[w.heap.size+1+1]? =I (cj s (qF a i).length):=by rw[kI _ _ _ (by omega)];exact bt
  have bi:aP w (gU h w.heap.size (.slice c a.length ac) (.slice e a.length d) (.slice g b.length f)):=mO _ _ _ O (T9 _) (T9 _);obtain⟨⟨b3,b4,b5⟩,a9,u,v⟩:=fL n;have a0:=af bA;have a1:=af bo;have a2:=af b0;have a3:=af bv;have R:X (∀l j,xf l j->bytesOf s=qF l j->bytesOf z=bQ j->l=a/\j=i):=λl j x q M=>b1 l j x (eP q.symm) M;have D:=af bm;have C:=af bj;have B:=af bi;have G:=af bu
  go_upto_region 4 with fail
  unfold gU at Q D C B G;generalize ((h.setCell ⟨w.heap.size,0,K⟩ (.slice c a.length ac)).setCell ⟨w.heap.size,1,K⟩ (.slice e a.length d)).setCell ⟨w.heap.size,2,K⟩ (.slice g b.length f)=k at*;by_cases al:(qF a i).length<s.size
  ·have E:X (∀a i,xf a i->bytesOf s=qF a i->bytesOf z≠bQ i):=λl j x q M=>by
    obtain⟨T,a8⟩:=R.o l j x q M;have:=congrArg XF q;rw[aj,T,a8] at this;omega
   go_wp2_with (go_at_call 93;refine(BY (w.heap.size+1+1) _ s _ am al G.o).mono ?_;rintro p ao ⟨rfl,m,rfl⟩)
   have o:(k.drewN m).heap[w.heap.size]? =I (.cells #[.slice c a.length ac,.slice e a.length d,.slice g b.length f] 105 (0,0)):=D.o;have r:(k.drewN m).heap[w.heap.size+1]? =I (.cells #[.bool T8] 4 (0,0)):=C.o;have P:aP w (k.drewN m):=below_drewN B.o m;generalize k.drewN m=A at*;obtain⟨⟨u,v,H⟩,J,L⟩:=sD aR aR aR (.bool T8) (w4:=A.alloc (.cells oB 105)) (by rw[UO _ _ _ (Uf o)];exact o) (by rw[UO _ _ _ (Uf r)];exact r) (P.alloc (by have:=Uf o;omega) _);refine leaves_cons (f:=92) (args:= #[(bS w.heap.size),(bS (w.heap.size+1))]) (by simp) (by simp[go_sem]) ?_;refine(AL _ o r).mono ?_;rintro p an ap ⟨rfl,rfl,rfl⟩;simp[Leaves,settle,UY,Tryz.results62,go_sem,u,v,H,J];exact⟨L,.inr ⟨rfl,E.o⟩⟩
  ·have aw:X (bytesOf s=qF a i):=zI a2.o (by rw[aj];omega)
   go_upto_region 5 with(go_at_call 93;refine(FZ (w.heap.size+1+1) _ s _ am al G.o).mono ?_;rintro p ao ⟨rfl,m,rfl⟩)
   have o:(k.drewN m).heap[w.heap.size]? =I (.cells #[.slice c a.length ac,.slice e a.length d,.slice g b.length f] 105 (0,0)):=D.o;have r:(k.drewN m).heap[w.heap.size+1]? =I (.cells #[.bool T8] 4 (0,0)):=C.o;have P:aP w (k.drewN m):=below_drewN B.o m;have bl:cP (k.drewN m) w.heap.size a b (.slice c a.length ac) (.slice e a.length d) (.slice g b.length f):=Q.o.below (below_drewN (Uq _ _) _);generalize k.drewN m=A at*;obtain⟨⟨ba,bb,bc⟩,bd,be⟩:=sD (.slice c a.length ac) (.slice e a.length d) (.slice g b.length f) (.bool Z) o r P;have ar:=af be;have aa:(gU A w.heap.size (.slice c a.length ac) (.slice e a.length d) (.slice g b.length f)).heap[w.heap.size+1]? =I (.cells #[.bool T8] 4 (0,0)):=by rw[kI _ _ _ (by omega)];exact r
   have az:X (cP ((gU A w.heap.size (.slice c a.length ac) (.slice e a.length d) (.slice g b.length f)).setCell ⟨w.heap.size+1,0,K⟩ (.bool Z)) w.heap.size a b (.slice c a.length ac) (.slice e a.length d) (.slice g b.length f)):=(bl.gU _ _ _ o).put aa (.inr (.inl Y)) _ _;obtain⟨⟨b3,b4,b5⟩,a9,u,v⟩:=fL o;obtain⟨ca,T⟩:=dG aa;unfold gU at*;go_wp2;generalize (((A.setCell ⟨w.heap.size,0,K⟩ (.slice c a.length ac)).setCell ⟨w.heap.size,1,K⟩ (.slice e a.length d)).setCell ⟨w.heap.size,2,K⟩ (.slice g b.length f)).setCell ⟨w.heap.size+1,0,K⟩ (.bool Z)=b6 at*;refine leaves_cons (f:=92) (args:= #[(bS w.heap.size),(bS (w.heap.size+1))]) (by simp) (by simp[go_sem]) ?_;refine(Dv ⟨w.heap.size,0,K⟩ ⟨w.heap.size+1,0,K⟩ _).mono ?_;rintro p an ap ⟨rfl,rfl,rfl⟩;simp[Leaves,settle,UY,Tryz.results62,go_sem,ba,bb,bc,bd];exact⟨ar.o,.inl ⟨a,i,b,_,_,_,rfl,a0.o,a1.o,aw.o,a3.o,az.o,R.o⟩⟩
 ·have n:h.heap[w.heap.size]? =I (.cells #[aR,aR,aR] 105 (0,0)):=Kp.block t ad (by omega);have y:h.heap[w.heap.size+1]? =I (.cells #[.bool T8] 4 (0,0)):=Kp.block t W (by omega);have O:aP w h:=N.trans ((t.below (by omega)).mono (by omega));have E:X (∀a i,xf a i->bytesOf s=qF a i->bytesOf z≠bQ i):=λl j x q=>br l j x (eP q.symm);obtain⟨⟨u,v,H⟩,J,L⟩:=sD aR aR aR (.bool T8) (w4:=h.alloc (.cells oB 105)) (by rw[UO _ _ _ (Uf n)];exact n) (by rw[UO _ _ _ (Uf y)];exact y) (O.alloc (by have:=Uf n;omega) _);refine leaves_cons (f:=92) (args:= #[(bS w.heap.size),(bS (w.heap.size+1))]) (by simp) (by simp[go_sem]) ?_;refine(AL _ n y).mono ?_;rintro p an ap ⟨rfl,rfl,rfl⟩;simp[Leaves,settle,UY,Tryz.results62,go_sem,u,v,H,J];exact⟨L,.inr ⟨rfl,E.o⟩⟩
def ig (v low:aE):Bool:= !low.null&&decide (fq v low<0)
def ic (v high:aE):Bool:= !high.null&&decide (0<fq v high)
def vG(v low:aE)(w:F):bG 114 #[v.agg,low.agg] w λe w'=>e= .returned (.bool (ig v low))/\aP w w':=by
 have g:=λi=>jJ v low i;obtain⟨f,a,b⟩:=low;unfold aE.agg;have d:X (aP w ((w.alloc (.cells (iG v) 59)).alloc (.cells #[.bool f,.int .i64 a,.string b] 59))):=((Uq _ _).alloc (T9 _) _).alloc (by simp) _;cases f
 ·have c:ig v ⟨T8,a,b⟩=decide (fq v ⟨T8,a,b⟩<0):=by simp[ig]
  rw[c];go_enter ay.func114,Tryz.ntmps114
  go_wp2_with (go_at_call 125;refine(g _).mono ?_;rintro e w' ⟨rfl,j⟩;have h:X (aP w w'):=d.o.trans (j.mono (by simp;omega)))
  go_ret;exact⟨rfl,h.o⟩
 ·have c:ig v ⟨Z,a,b⟩=T8:=by simp[ig]
  rw[c];go_enter ay.func114,Tryz.ntmps114;go_wp2;go_ret;exact⟨rfl,d.o⟩
def vF(v low:aE)(w:F):bG 115 #[v.agg,low.agg] w λe w'=>e= .returned (.bool (ic v low))/\aP w w':=by
 have g:=λi=>jJ v low i;obtain⟨f,a,b⟩:=low;unfold aE.agg;have d:X (aP w ((w.alloc (.cells (iG v) 59)).alloc (.cells #[.bool f,.int .i64 a,.string b] 59))):=((Uq _ _).alloc (T9 _) _).alloc (by simp) _;cases f
 ·have c:ic v ⟨T8,a,b⟩=decide (0<fq v ⟨T8,a,b⟩):=by simp[ic]
  rw[c];go_enter ay.func115,Tryz.ntmps115
  go_wp2_with (go_at_call 125;refine(g _).mono ?_;rintro e w' ⟨rfl,j⟩;have h:X (aP w w'):=d.o.trans (j.mono (by simp;omega)))
  go_ret;exact⟨rfl,h.o⟩
 ·have c:ic v ⟨Z,a,b⟩=T8:=by simp[ic]
  rw[c];go_enter ay.func115,Tryz.ntmps115;go_wp2;go_ret;exact⟨rfl,d.o⟩
def qv (a b c d e:U)(sk:Bool):U:=.agg #[a,b,c,d,e,.bool sk]
def Ag(h:Option UK)(n cap:Nat)(b c d e:U)(sk:Bool)(k:Int)(w:F):bG 106 #[qv (.slice h n cap) b c d e sk,.int .i64 k] w λf w'=>f= .returned (.bool (decide (0<=k)&&decide (k<(n:Int))))/\aP w w':=by
 unfold qv;have g:X (aP w (w.alloc (.cells #[.slice h n cap,b,c,d,e,.bool sk] 115))):=(Uq _ _).alloc (T9 _) _;by_cases i:0<=k
 ·have a:decide (0<=k)=Z:=by simpa using i
  rw[a];go_enter ay.func106,Tryz.ntmps106;go_wp2;go_ret;exact⟨rfl,g.o⟩
 ·have a:decide (0<=k)=T8:=by simpa using i
  rw[a];go_enter ay.func106,Tryz.ntmps106;go_wp2;go_ret;exact⟨rfl,g.o⟩
structure cG where
 col:Int
 low:aE
 high:aE
def sn (x:cG):List U:=[.int .i64 x.col,.bool x.low.null,.int .i64 x.low.n,.string x.low.s,.bool x.high.null,.int .i64 x.high.n,.string x.high.s]
def dM (l:List cG):List U:=l.flatMap sn
structure dD(w:F)(ao:Option UK)(b off:Nat)(l:List cG):Prop where
 addr:0<l.length->ao=I ⟨b,off,K⟩
 lt:0<l.length->b<w.heap.size
 c0:∀j (h:j<l.length),w.cell? ⟨b,off+j*7,K⟩=I (.int .i64 l[j].col)
 c1:∀j (h:j<l.length),w.cell? ⟨b,off+j*7+1,K⟩=I (.bool l[j].low.null)
 c2:∀j (h:j<l.length),w.cell? ⟨b,off+j*7+2,K⟩=I (.int .i64 l[j].low.n)
 c3:∀j (h:j<l.length),w.cell? ⟨b,off+j*7+3,K⟩=I (.string l[j].low.s)
 c4:∀j (h:j<l.length),w.cell? ⟨b,off+j*7+4,K⟩=I (.bool l[j].high.null)
 c5:∀j (h:j<l.length),w.cell? ⟨b,off+j*7+5,K⟩=I (.int .i64 l[j].high.n)
 c6:∀j (h:j<l.length),w.cell? ⟨b,off+j*7+6,K⟩=I (.string l[j].high.s)
def dD.kept{w w':F}{f:Option UK}{b off:Nat}{l:List cG}(h:dD w f b off l)(j:w.heap.size<=w'.heap.size)(i:0<l.length->w'.heap[b]? =w.heap[b]?):dD w' f b off l:=by
 have d:∀a,a<l.length->∀e,w'.cell? ⟨b,e,K⟩=w.cell? ⟨b,e,K⟩:=λa c e=>by unfold Ut;rw[i (by omega)]
 exact⟨h.addr,λg=>Ue (h.lt g) j,λa c=>(d a c _).trans (h.c0 a c),λa c=>(d a c _).trans (h.c1 a c),λa c=>(d a c _).trans (h.c2 a c),λa c=>(d a c _).trans (h.c3 a c),λa c=>(d a c _).trans (h.c4 a c),λa c=>(d a c _).trans (h.c5 a c),λa c=>(d a c _).trans (h.c6 a c)⟩
def dD.below{w w':F}{a:Option UK}{b off:Nat}{l:List cG}(h:dD w a b off l)(c:aP w w'):dD w' a b off l:=h.kept c.size λd=>c.block b (h.lt d)
theorem od:∀(l:List cG) (j:Nat) (h:j<l.length) (i:Nat) (v:U),(sn l[j])[i]? =I v->(dM l)[j*7+i]? =I v
 | [],j,h,i,v,a=>by simp at h
 |x::l,0,h,i,v,a=>by
  simp only[List.getElem_cons_zero] at a;simp only[dM,WT,Nat.zero_mul,UU];exact Vx (UB.1 a).1▸a
 |x::l,j+1,h,i,v,a=>by
  simp only[List.getElem_cons_succ] at a;have:=od l j (by simpa using h) i v a;have b:(j+1)*7+i=j*7+i+7:=by omega
  rw[b];simpa [dM,sn] using this
def rJ(l:List cG):(dM l).length=l.length*7:=by
 induction l with
 |nil=>rfl
 |cons b l a=>simp only[dM,WT,Ub,VJ,sn,XJ] at a ⊢;omega
def dD.Eb{w:F}{b off:Nat}{l:List cG}(e:b<w.heap.size)(hc:∀i v,(dM l)[i]? =I v->w.cell? ⟨b,off+i,K⟩=I v):dD w (I ⟨b,off,K⟩) b off l:=by
 have d:∀a (c:a<l.length) i v,(sn l[a])[i]? =I v->bU w b (off+a*7+i) v:=λa c i v f=>by
  have:=hc _ _ (od l a c i v f);rw[Nat.add_assoc];exact this
 exact⟨λ_=>rfl,λ_=>e,λa c=>d a c 0 _ Y,λa c=>d a c 1 _ Y,λa c=>d a c 2 _ Y,λa c=>d a c 3 _ Y,λa c=>d a c 4 _ Y,λa c=>d a c 5 _ Y,λa c=>d a c 6 _ Y⟩
structure sI(w:F)(lb m:Nat)(c:Int)(p:Nat)(v:aE):Prop where
 ex:∃j g n cap:Nat,c=(j:Int)/\j<m/\lb<w.heap.size/\w.cell? ⟨lb,j,K⟩=I (.slice (I ⟨g,0,K⟩) n cap)/\p<n/\g<w.heap.size/\w.cell? ⟨g,p*3,K⟩=I (.bool v.null)/\w.cell? ⟨g,p*3+1,K⟩=I (.int .i64 v.n)/\w.cell? ⟨g,p*3+2,K⟩=I (.string v.s)
def sI.below{w w':F}{lb m:Nat}{c:Int}{p:Nat}{v:aE}(h:sI w lb m c p v)(a:aP w w'):sI w' lb m c p v:=by
 obtain⟨e,b,r,f,g,i,j,k,l,d,n,o,q⟩:=h.ex;have s:=a.size;exact⟨e,b,r,f,g,i,by omega,(a.cell (p:=⟨lb,e,K⟩) j).trans k,l,by omega,(a.cell (p:=⟨b,p*3,K⟩) d).trans n,(a.cell (p:=⟨b,p*3+1,K⟩) d).trans o,(a.cell (p:=⟨b,p*3+2,K⟩) d).trans q⟩
def si (v:aE)(r:cG):Bool:= !(v.null||ig v r.low||ic v r.high)
def iW(w:F)(o:Obj):(w.alloc o).heap[w.heap.size]? =I o:=by
 show(w.heap.push o)[w.heap.size]? =I o;simp
def jN{W:F}{g:Nat}{a b c d e f h:U}{t:Ui}(i:W.heap[g]? =I (.cells #[a,b,c,d,e,f,h] t (0,0))):W.cell? ⟨g,0,K⟩=I a/\W.cell? ⟨g,1,K⟩=I b/\W.cell? ⟨g,2,K⟩=I c/\W.cell? ⟨g,3,K⟩=I d/\W.cell? ⟨g,4,K⟩=I e/\W.cell? ⟨g,5,K⟩=I f/\W.cell? ⟨g,6,K⟩=I h:=by
 unfold Ut;simp[i]
def yF(rs:List cG)(val:Int->aE)(p lb m bm:Nat)(a b c d:U)(ro:Option UK)(rb bg aM:Nat)(sk:Bool)(w:F)(bj:rs.length<=Ur)(q:dD w ro rb bg rs)(be:∀r∈rs,sI w lb m r.col p (val r.col)):
 bG 118 #[qv a b c d (.slice ro rs.length aM) sk,.slice (I ⟨lb,0,K⟩) m bm,.int .i64 (p:Int)] w λe w'=>∃bb,e= .returned (.bool bb)/\(bb=Z↔∀i (h:i<rs.length),si (val rs[i].col) rs[i]=Z)/\aP w w':=by
 unfold qv;unfold Ur at bj;have a3:=af q;have a1:=af be;go_enter ay.func118,Tryz.ntmps118
 go_wp2_with fail
 go_loopw [13] (λi wr=>∃g:Nat,g<=rs.length/\i= .int .i64 g/\(∀i (h:i<rs.length),i<g->si (val rs[i].col) rs[i]=Z)/\aP w wr) (λi _=>rs.length-(UT i).toNat)
 case atStart=>exact⟨0,UF _,rfl,λcv _ h=>by omega,(Uq _ _).alloc (T9 _) _⟩
 case round=>
  obtain⟨g,cl,rfl,bc,J⟩:=hrel;have aa:=af bc;have ab:=af J;have bl:=J.size;by_cases u:g<rs.length
  ·have q:=a3.o.below J;obtain rfl:=q.addr (by omega);have bo:=q.c0 g u;have br:=q.c1 g u;have bs:=q.c2 g u;have bt:=q.c3 g u;have bu:=q.c4 g u;have bv:=q.c5 g u;have bx:=q.c6 g u;obtain⟨C,P,cn,b6,ae,ca,a6,a7,cb,O,a8,a9,ba⟩:=((a1.o rs[g] (Uk u)).below J).ex;have M:X (si (val rs[g].col) rs[g]=T8->¬∀i (h:i<rs.length),si (val rs[i].col) rs[i]=Z):=λh bd=>by
    have:=bd g u;rw[h] at this;cases this
   have a4:X (si (val rs[g].col) rs[g]=Z->∀i (h:i<rs.length),i<g+1->si (val rs[i].col) rs[i]=Z):=λh i bi ci=>by
    by_cases e:i=g
    ·subst e;exact h
    ·exact aa.o i bi (by omega)
   generalize rs[g]=a0 at*;generalize val a0.col=v at*;obtain⟨cx,l,k⟩:=a0;dsimp only at ae bo br bs bt bu bv bx;subst ae
   go_upto_region 4 with fail
   have bA:=jN (iW wr (.cells #[.int .i64 (C:Int),.bool l.null,.int .i64 l.n,.string l.s,.bool k.null,.int .i64 k.n,.string k.s] 61));obtain⟨co,bB,b0,b1,b2,b3,b4⟩:=bA;have n:aP wr (wr.alloc (.cells #[.int .i64 (C:Int),.bool l.null,.int .i64 l.n,.string l.s,.bool k.null,.int .i64 k.n,.string k.s] 61)):=(Uq _ _).alloc (T9 _) _;have cc:=(n.cell (p:=⟨lb,C,K⟩) a6).trans a7;have cd:=(n.cell (p:=⟨P,p*3,K⟩) O).trans a8;have cf:=(n.cell (p:=⟨P,p*3+1,K⟩) O).trans a9;have ch:=(n.cell (p:=⟨P,p*3+2,K⟩) O).trans ba;have ad:=af (ab.o.trans (n.mono bl));have E:wr.heap.size<(wr.alloc (.cells #[.int .i64 (C:Int),.bool l.null,.int .i64 l.n,.string l.s,.bool k.null,.int .i64 k.n,.string k.s] 61)).heap.size:=by simp
   generalize wr.alloc (.cells #[.int .i64 (C:Int),.bool l.null,.int .i64 l.n,.string l.s,.bool k.null,.int .i64 k.n,.string k.s] 61)=s at*;generalize wr.heap.size=j at*;have ck:(C:Int)<(m:Int):=by omega
   go_upto_region 5 with fail
   obtain⟨H,R,S⟩:=qA s (.bool v.null) (.int .i64 v.n) (.string v.s) 59;have n:aP s (s.alloc (.cells (iG v) 59)):=(Uq _ _).alloc (T9 _) _;have cp:=(n.cell (p:=⟨j,1,K⟩) E).trans bB;have cs:=(n.cell (p:=⟨j,2,K⟩) E).trans b0;have cu:=(n.cell (p:=⟨j,3,K⟩) E).trans b1;have T:=(n.cell (p:=⟨j,4,K⟩) E).trans b2;have V:=(n.cell (p:=⟨j,5,K⟩) E).trans b3;have W:=(n.cell (p:=⟨j,6,K⟩) E).trans b4;have A:X (aP w (s.alloc (.cells (iG v) 59))):=ad.o.trans (n.mono (by have:=ad.o.size;omega));have x:j<(s.alloc (.cells (iG v) 59)).heap.size:=by simp;omega
   have y:s.heap.size<(s.alloc (.cells (iG v) 59)).heap.size:=by simp
   generalize s.alloc (.cells (iG v) 59)=b5 at*;generalize s.heap.size=t at*;have z:=λN=>vG v l N;have D:=λN=>vF v k N;unfold aE.agg at z D;have o:si v ⟨(C:Int),l,k⟩= !(v.null||ig v l||ic v k):=rfl;cases an:v.null
   ·rw[an] at H z D o;cases am:ig v l
    ·rw[am] at z o;cases al:ic v k
     ·rw[al] at D o;have a5:=af (a4.o o)
      go_wp2_with (first|(go_at_call 114;refine(z _).mono ?_;rintro e w' ⟨rfl,f⟩;have B:X (aP w w'):=A.o.trans (f.mono (by have:=A.o.size;omega));have ao:=(f.cell (p:=⟨t,0,K⟩) y).trans H;have ap:=(f.cell (p:=⟨t,1,K⟩) y).trans R;have ar:=(f.cell (p:=⟨t,2,K⟩) y).trans S;have av:=(f.cell (p:=⟨j,4,K⟩) x).trans T;have aw:=(f.cell (p:=⟨j,5,K⟩) x).trans V;have az:=(f.cell (p:=⟨j,6,K⟩) x).trans W)|(go_at_call 115;refine(D _).mono ?_;rintro e Y ⟨rfl,Q⟩;have L:X (aP w Y):=B.o.trans (Q.mono (by have:=B.o.size;omega))))
      go_roundw
      case rel=>exact⟨g+1,by omega,by go_num,a5.o,L.o⟩
      case measure=>simp[UT];omega
     ·rw[al] at D o;have G:=af (M.o o)
      go_wp2_with (first|(go_at_call 114;refine(z _).mono ?_;rintro e w' ⟨rfl,f⟩;have B:X (aP w w'):=A.o.trans (f.mono (by have:=A.o.size;omega));have ao:=(f.cell (p:=⟨t,0,K⟩) y).trans H;have ap:=(f.cell (p:=⟨t,1,K⟩) y).trans R;have ar:=(f.cell (p:=⟨t,2,K⟩) y).trans S;have av:=(f.cell (p:=⟨j,4,K⟩) x).trans T;have aw:=(f.cell (p:=⟨j,5,K⟩) x).trans V;have az:=(f.cell (p:=⟨j,6,K⟩) x).trans W)|(go_at_call 115;refine(D _).mono ?_;rintro e Y ⟨rfl,Q⟩;have L:X (aP w Y):=B.o.trans (Q.mono (by have:=B.o.size;omega))))
      go_ret;exact⟨T8,rfl,by simp only[UC,false_iff];exact G.o,L.o⟩
    ·rw[am] at z o;have G:=af (M.o o)
     go_wp2_with (go_at_call 114;refine(z _).mono ?_;rintro e w' ⟨rfl,f⟩;have B:X (aP w w'):=A.o.trans (f.mono (by have:=A.o.size;omega));have ao:=(f.cell (p:=⟨t,0,K⟩) y).trans H;have ap:=(f.cell (p:=⟨t,1,K⟩) y).trans R;have ar:=(f.cell (p:=⟨t,2,K⟩) y).trans S;have av:=(f.cell (p:=⟨j,4,K⟩) x).trans T;have aw:=(f.cell (p:=⟨j,5,K⟩) x).trans V;have az:=(f.cell (p:=⟨j,6,K⟩) x).trans W)
     go_ret;exact⟨T8,rfl,by simp only[UC,false_iff];exact G.o,B.o⟩
   ·rw[an] at H o;have G:=af (M.o o);go_wp2;go_ret;exact⟨T8,rfl,by simp only[UC,false_iff];exact G.o,A.o⟩
  ·have a2:X (∀i (h:i<rs.length),si (val rs[i].col) rs[i]=Z):=λi h=>aa.o i h (by omega);go_wp2;go_ret;exact⟨Z,rfl,by simp only[true_iff];exact a2.o,ab.o⟩
def Bf(ah:List Int)(val:Int->aE)(p lb m ae:Nat)(a b c f:U)(co:Option UK)(cb bD aJ:Nat)(sk:Bool)(w:F)(a4:ah.length<=1000)(M:0<ah.length->co=I ⟨cb,bD,K⟩)(O:0<ah.length->cb<w.heap.size)(q:∀j,j<ah.length->bU w cb (bD+j) (.int .i64 (ah.getD j 0)))(P:∀k∈ah,sI w lb m k p (val k)):
 bG 119 #[qv a b c (.slice co ah.length aJ) f sk,.slice (I ⟨lb,0,K⟩) m ae,.int .i64 (p:Int)] w λe w'=>aP w w'/\∃v,e= .returned v/\w'.ownsRow w.heap.size 59 3 v ah.length (aH (ah.map val)):=by
 unfold qv;obtain⟨u,r,Z,t,aa⟩:=Vg ay.mK;have D:=af M;have G:=af O;have E:=af q;have C:=af P;have B:X (aP w (w.alloc (.cells #[a,b,c,.slice co ah.length aJ,f,.bool sk] 115))):=(Uq _ _).alloc (T9 _) _;have a7:(w.alloc (.cells #[a,b,c,.slice co ah.length aJ,f,.bool sk] 115)).heap.size=w.heap.size+1:=by simp
 go_enter ay.func119,Tryz.ntmps119
 go_wp2_with (at_make;refine wpList_make_own _ Y _ _ 43 Y (w.heap.size+1) 59 u _ 3 ay.underlying43 r Z t .i64 .i64 _ ah.length Y Y Y (by rw[aa];omega) (by unfold Ur;omega) (by simp) ?_;intro y V S;have o:=(Uq (w.heap.size+1) (w.alloc (.cells #[a,b,c,.slice co ah.length aJ,f,.bool sk] 115))).grown S (by simp) (by simp);have a6:bU y w.heap.size 3 (.slice co ah.length aJ):=(o.cell (p:=⟨w.heap.size,3,K⟩) (by simp)).trans (by unfold Ut;rw[iW];rfl))
 have z:X (aP w y):=B.o.trans (o.mono (by omega))
 go_loopw [7,17] (λad l wr=>∃k:Nat,k<=ah.length/\l= .int .i64 (k:Int)/\ad= .slice (I ⟨w.heap.size+1,0,K⟩) k ah.length/\wr.ownsRow (w.heap.size+1) 59 3 (.slice (I ⟨w.heap.size+1,0,K⟩) k ah.length) k (aH ((ah.take k).map val))/\aP w wr) (λ_ l _=>ah.length-(UT l).toNat)
 case atStart=>exact⟨0,UF _,rfl,rfl,by simpa [aH] using V,z.o⟩
 case round=>
  obtain⟨k,a3,rfl,rfl,h,d⟩:=hrel;have n:=af d;have W:=d.size;have a2:=(h.lt (w.heap.size+1) Y).2;by_cases g:k<ah.length
  ·obtain rfl:=D.o (by omega);have N:=G.o (by omega);have x:bU wr cb (bD+k) (.int .i64 (ah.getD k 0)):=(d.cell (p:=⟨cb,bD+k,K⟩) N).trans (E.o k g);have R:ah.getD k 0=ah[k]:=by rw[Uj,Uo g];rfl
   rw[R] at x;obtain⟨ab,L,al,an,J,ao,ap,ar,av,aw,az,a0,a1⟩:=((C.o ah[k] (Uk g)).below d).ex;have H:X (aH ((ah.take k).map val)++[.bool (val ah[k]).null,.int .i64 (val ah[k]).n,.string (val ah[k]).s]=aH ((ah.take (k+1)).map val)):=by
    show _=_;rw[Up g,U1,Wq,eY]
   have q:(ab:Int)<(m:Int):=by omega
   have a5:(p:Int)<(al:Int):=by omega
   generalize a8:val ah[k]=i at*;rw[J] at x
   go_wp2_with (at_builtin;refine wpList_append_fits _ Y _ _ 43 Y (w.heap.size+1) 59 u 3 ay.underlying43 r t (w.heap.size+1) k ah.length _ Y (h.alloc _) ⟨wr.heap.size,0,K⟩ 1 1 [.bool i.null,.int .i64 i.n,.string i.s] Y Y (by exact ju _ _ _ _ _) (fD i) (by omega) ?_;intro am s T)
   have A:X (aP w am):=(n.o.alloc W _).grown T (by simp;omega) (by intro L Q;simp at Q;omega);rw[H.o] at s;go_wp2
   go_roundw
   case rel=>exact⟨k+1,by omega,by go_num,rfl,s,A.o⟩
   case measure=>simp[UT];omega
  ·obtain rfl:k=ah.length:=by omega
   rw[Vh] at h;go_wp2;go_ret;exact⟨n.o,_,rfl,bL h (by omega)⟩
def ay.Sr:((aB T5).info? 4).map (λi=>(i.zero,i.size,i.bytes))=I (I (.bool T8),1,1):=by kernel_rfl
def aX (n:Nat)(l:List Int):List Bool:=(UL n).map fun(a:Nat)=>l.any λb=>b==(a:Int)
def xR (l:List Bool):List U:=l.map WQ
def jn(n:Nat)(l:List Int):(aX n l).length=n:=by simp[aX]
def vI(n:Nat)(l:List Int)(j:Nat):(xR (aX n l)).set j (.bool Z)=xR (aX n (l++[(j:Int)])):=by
 apply List.ext_getElem?;intro c;simp only[xR,aX,List.getElem?_set,UH,List.length_range,List.getElem?_map,List.any_append];by_cases b:j=c
 ·subst b;by_cases a:j<n
  ·simp[a]
  ·simp[a]
 ·rcases Vz c n with a|a
  ·have d:((j:Int)==(c:Int))=T8:=by simpa using λa=>b (by omega)
   simp[b,a,d]
  ·simp[b,a]
def Ex{W:F}{g:Nat}{a:List U}{t:Ui}(h:W.heap[g]? =I (.cells a.toArray t (0,0))){j:Nat}{v:U}(b:a[j]? =I v):W.cell? ⟨g,j,K⟩=I v/\W.frozen? ⟨g,j,K⟩=T8:=by
 constructor
 ·unfold Ut;simp only[h];simpa using b
 ·unfold UR;simp only[h];simp
def Iz{W:F}{g:Nat}{a:List U}{t:Ui}(h:W.heap[g]? =I (.cells a.toArray t (0,0)))(j:Nat)(v:U):(W.setCell ⟨g,j,K⟩ v).heap[g]? =I (.cells (a.set j v).toArray t (0,0)):=by
 have:=Us W g j _ _ v h;rw[this];simp
def oW(n:Nat)(ah:List Int)(rs:List cG)(s:Option UK)(q:Nat)(b c:U)(co:Option UK)(cb bD aJ:Nat)(ro:Option UK)(rb bg aM:Nat)(sk:Bool)(w:F)(bt:n<=1000)(a8:ah.length<=Ur)(a9:rs.length<=Ur)
 (W:0<ah.length->co=I ⟨cb,bD,K⟩) (ab:0<ah.length->cb<w.heap.size) (aa:∀j,j<ah.length->w.cell? ⟨cb,bD+j,K⟩=I (.int .i64 (ah.getD j 0))) (m:dD w ro rb bg rs) (al:∀k∈ah,0<=k/\k<(n:Int)) (am:∀r∈rs,0<=r.col/\r.col<(n:Int)):
 bG 76 #[qv (.slice s n q) b c (.slice co ah.length aJ) (.slice ro rs.length aM) sk] w λe w'=>aP w w'/\∃g,e= .returned (.slice (I ⟨g,0,K⟩) n n)/\w.heap.size<=g/\w'.heap[g]? =I (.cells (xR (aX n (ah++rs.map cG.col))).toArray 4 (0,0)):=by
 unfold qv;obtain⟨bj,a6,bd,be,bi⟩:=Vg ay.Sr;unfold Ur at a8 a9;have E:=af W;have H:=af ab;have G:=af aa;have A:=af m;have J:=af al;have z:=af am;have V:X (aP w (w.alloc (.cells #[.slice s n q,b,c,.slice co ah.length aJ,.slice ro rs.length aM,.bool sk] 115))):=(Uq _ _).alloc (T9 _) _;clear W ab aa m al am;go_enter ay.func76,Tryz.ntmps76
 go_wp2_with (at_make;refine wpList_make_full _ Y _ _ 160 Y (w.heap.size+1) 4 bj (.bool T8) 1 ay.underlying160 a6 bd be .i64 .i64 _ _ n Y Y Y Y (by rw[bi];omega) (by unfold Ur;omega) (by simp) ?_;intro C B ae;have o:=(Uq (w.heap.size+1) (w.alloc (.cells #[.slice s n q,b,c,.slice co ah.length aJ,.slice ro rs.length aM,.bool sk] 115))).grown ae (by simp) (by simp);have ba:C.cell? ⟨w.heap.size,3,K⟩=I (.slice co ah.length aJ):=(o.cell (p:=⟨w.heap.size,3,K⟩) (by simp)).trans (by unfold Ut;rw[iW];rfl))
 have S:X (aP w C):=V.o.trans (o.mono (by omega));have t:C.heap[w.heap.size]? =I (.cells #[.slice s n q,b,c,.slice co ah.length aJ,.slice ro rs.length aM,.bool sk] 115 (0,0)):=(o.block w.heap.size (by omega)).trans (iW _ _);have p:X (C.heap[w.heap.size+1]? =I (.cells (xR (aX n [])).toArray 4 (0,0))):=by
  have e:(madeCells (WQ T8).cells (n*1)).toList=xR (aX n []):=by
   show(madeCells #[.bool T8] (n*1)).toList=_;rw[toList_madeCells_one];refine List.ext_getElem (by simp[xR,jn]) λj br bs=>?_;simp[xR,aX]
  rw[e] at B;have bc:(w.alloc (.cells #[.slice s n q,b,c,.slice co ah.length aJ,.slice ro rs.length aM,.bool sk] 115)).heap.size=w.heap.size+1:=by simp
  rw[bc] at B;exact z4 B
 have T:=af t;clear ae o V ba B t
 go_loopw [16] (λu wr=>∃k:Nat,k<=ah.length/\u= .int .i64 (k:Int)/\wr.heap[w.heap.size+1]? =I (.cells (xR (aX n (ah.take k))).toArray 4 (0,0))/\wr.heap[w.heap.size]? =I (.cells #[.slice s n q,b,c,.slice co ah.length aJ,.slice ro rs.length aM,.bool sk] 115 (0,0))/\aP w wr) (λu _=>ah.length-(UT u).toNat)
 case atStart=>exact⟨0,UF _,rfl,p.o,T.o,S.o⟩
 case round=>
  clear p S T;obtain⟨k,a7,rfl,l,t,i⟩:=hrel;have y:=af i;have P:=i.size;by_cases h:k<ah.length
  ·obtain rfl:=E.o (by omega);have a4:=H.o (by omega);have R:wr.cell? ⟨cb,bD+k,K⟩=I (.int .i64 (ah.getD k 0)):=(i.cell (p:=⟨cb,bD+k,K⟩) a4).trans (G.o k h);have ad:ah.getD k 0=ah[k]:=by rw[Uj,Uo h];rfl
   rw[ad] at R;obtain⟨v,Q⟩:=J.o ah[k] (Uk h);obtain⟨a,x⟩:=WC v;rw[x] at R Q;have N:a<n:=by omega
   obtain⟨a2,a3⟩:=Ex l (j:=a) (v:=.bool ((ah.take k).any λk=>k==(a:Int))) (by simp[xR,aX,N]);have L:X ((wr.setCell ⟨w.heap.size+1,a,K⟩ (.bool Z)).heap[w.heap.size+1]? =I (.cells (xR (aX n (ah.take (k+1)))).toArray 4 (0,0))):=by
    show _=_;rw[Iz l,vI,Up h,x]
   have a1:X ((wr.setCell ⟨w.heap.size+1,a,K⟩ (.bool Z)).heap[w.heap.size]? =I (.cells #[.slice s n q,b,c,.slice (I ⟨cb,bD,K⟩) ah.length aJ,.slice ro rs.length aM,.bool sk] 115 (0,0))):=by
    show _=_;rw[Uv _ _ _ _ (by simp)];exact t
   have D:X (aP w (wr.setCell ⟨w.heap.size+1,a,K⟩ (.bool Z))):=i.setCell (by show w.heap.size<=w.heap.size+1;omega) _;clear i ad v E H G J z A l t x;go_wp2
   go_roundw
   case rel=>exact⟨k+1,by omega,by go_num,L.o,a1.o,D.o⟩
   case measure=>simp[UT];omega
  ·obtain rfl:k=ah.length:=by omega
   rw[Vh] at l;have bb:wr.cell? ⟨w.heap.size,4,K⟩=I (.slice ro rs.length aM):=by unfold Ut;rw[t];rfl
   have p:=af l;clear i l t E H G J
   go_wp2_with fail
   clear bb
   go_loopw [27] (λu a0=>∃k:Nat,k<=rs.length/\u= .int .i64 (k:Int)/\a0.heap[w.heap.size+1]? =I (.cells (xR (aX n (ah++(rs.take k).map cG.col))).toArray 4 (0,0))/\aP w a0) (λu _=>rs.length-(UT u).toNat)
   case atStart=>exact⟨0,UF _,rfl,by simpa using p.o,y.o⟩
   case round=>
    clear p y P;obtain⟨k,a7,rfl,l,i⟩:=hrel;have y:=af i;have P:=i.size;by_cases h:k<rs.length
    ·have m:=A.o.below i;obtain rfl:=m.addr (by omega);have an:=m.c0 k h;have ao:=m.c1 k h;have ap:=m.c2 k h;have ar:=m.c3 k h;have av:=m.c4 k h;have aw:=m.c5 k h;have az:=m.c6 k h;obtain⟨v,Q⟩:=z.o rs[k] (Uk h);have M:X ((rs.take (k+1)).map cG.col=(rs.take k).map cG.col++[rs[k].col]):=by
      show _=_;rw[Up h,U1,Wq]
     generalize rs[k]=bl at*;obtain⟨bu,f,d⟩:=bl;dsimp only at an ao ap ar av aw az v Q M;obtain⟨a,x⟩:=WC v;subst x;have N:a<n:=by omega
     have a5:w.heap.size+1<wr.heap.size:=Uf l;have o:aP wr (wr.alloc (.cells #[.int .i64 (a:Int),.bool f.null,.int .i64 f.n,.string f.s,.bool d.null,.int .i64 d.n,.string d.s] 61)):=(Uq _ _).alloc (T9 _) _;have O:=(o.block (w.heap.size+1) a5).trans l;obtain⟨a2,a3⟩:=Ex O (j:=a) (v:=.bool ((ah++(rs.take k).map cG.col).any λk=>k==(a:Int))) (by simp[xR,aX,N]);have L:X (((wr.alloc (.cells #[.int .i64 (a:Int),.bool f.null,.int .i64 f.n,.string f.s,.bool d.null,.int .i64 d.n,.string d.s] 61)).setCell ⟨w.heap.size+1,a,K⟩ (.bool Z)).heap[w.heap.size+1]? =I (.cells (xR (aX n (ah++(rs.take (k+1)).map cG.col))).toArray 4 (0,0))):=by
      show _=_;rw[Iz O,vI,M.o,UD]
     have D:X (aP w ((wr.alloc (.cells #[.int .i64 (a:Int),.bool f.null,.int .i64 f.n,.string f.s,.bool d.null,.int .i64 d.n,.string d.s] 61)).setCell ⟨w.heap.size+1,a,K⟩ (.bool Z))):=(i.trans (o.mono P)).setCell (by show w.heap.size<=w.heap.size+1;omega) _;have R:(wr.alloc (.cells #[.int .i64 (a:Int),.bool f.null,.int .i64 f.n,.string f.s,.bool d.null,.int .i64 d.n,.string d.s] 61)).cell? ⟨wr.heap.size,0,K⟩=I (.int .i64 (a:Int)):=(jN (iW wr _)).1;clear i m A z l O M v o
     go_upto_region 10 with fail
     clear an ao ap ar av aw az;generalize wr.alloc (.cells #[.int .i64 (a:Int),.bool f.null,.int .i64 f.n,.string f.s,.bool d.null,.int .i64 d.n,.string d.s] 61)=bm at*;generalize wr.heap.size=bo at*;go_wp2
     go_roundw
     case rel=>exact⟨k+1,by omega,by go_num,L.o,D.o⟩
     case measure=>simp[UT];omega
    ·obtain rfl:k=rs.length:=by omega
     rw[Vh] at l;have p:=af l;clear i l A z;go_wp2;go_ret;exact⟨y.o,w.heap.size+1,rfl,by omega,p.o⟩
structure zV(w:F)(cb n:Nat)(c:Int)(b:lC):Prop where
 ex:∃j:Nat,c=(j:Int)/\j<n/\cb<w.heap.size/\w.cell? ⟨cb,j*8+1,K⟩=I (.bool b.there)/\w.cell? ⟨cb,j*8+1+1,K⟩=I (.bool b.least.null)/\w.cell? ⟨cb,j*8+1+2,K⟩=I (.int .i64 b.least.n)/\w.cell? ⟨cb,j*8+1+3,K⟩=I (.string b.least.s)/\w.cell? ⟨cb,j*8+1+4,K⟩=I (.bool b.most.null)/\w.cell? ⟨cb,j*8+1+5,K⟩=I (.int .i64 b.most.n)/\w.cell? ⟨cb,j*8+1+6,K⟩=I (.string b.most.s)
def zV.below{w w':F}{cb n:Nat}{c:Int}{b:lC}(h:zV w cb n c b)(e:aP w w'):zV w' cb n c b:=by
 obtain⟨r,f,i,j,k,l,m,o,p,q,g⟩:=h.ex;have s:=e.size;have a:∀d,w'.cell? ⟨cb,d,K⟩=w.cell? ⟨cb,d,K⟩:=λd=>e.cell (p:=⟨cb,d,K⟩) j;exact⟨r,f,i,by omega,(a _).trans k,(a _).trans l,(a _).trans m,(a _).trans o,(a _).trans p,(a _).trans q,(a _).trans g⟩
def wN (b:lC)(r:cG):Bool:=b.there&&(ig b.most r.low||ic b.least r.high)
def nK(rs:List cG)(eZ:Int->lC)(q:Int)(cb n aJ:Nat)(a b c d:U)(ro:Option UK)(rb bg aM:Nat)(sk:Bool)(w:F)(c2:rs.length<=Ur)(p:dD w ro rb bg rs)(bj:∀r∈rs,zV w cb n r.col (eZ r.col)):
 bG 77 #[qv a b c d (.slice ro rs.length aM) sk,.agg #[.int .i64 q,.slice (I ⟨cb,0,K⟩) n aJ]] w λe w'=>∃bb,e= .returned (.bool bb)/\(bb=T8↔∀i (h:i<rs.length),wN (eZ rs[i].col) rs[i]=T8)/\aP w w':=by
 unfold qv;unfold Ur at c2;have am:=af p;have al:=af bj;have a4:X (aP w ((w.alloc (.cells #[a,b,c,d,.slice ro rs.length aM,.bool sk] 115)).alloc (.cells #[.int .i64 q,.slice (I ⟨cb,0,K⟩) n aJ] 139))):=((Uq _ _).alloc (T9 _) _).alloc (by simp) _;have M:X (((w.alloc (.cells #[a,b,c,d,.slice ro rs.length aM,.bool sk] 115)).alloc (.cells #[.int .i64 q,.slice (I ⟨cb,0,K⟩) n aJ] 139)).heap[w.heap.size+1]? =I (.cells #[.int .i64 q,.slice (I ⟨cb,0,K⟩) n aJ] 139 (0,0))):=by
  have:=iW (w.alloc (.cells #[a,b,c,d,.slice ro rs.length aM,.bool sk] 115)) (.cells #[.int .i64 q,.slice (I ⟨cb,0,K⟩) n aJ] 139 (0,0));have c3:(w.alloc (.cells #[a,b,c,d,.slice ro rs.length aM,.bool sk] 115)).heap.size=w.heap.size+1:=by simp
  rw[c3] at this;exact this
 clear p bj;go_enter ay.func77,Tryz.ntmps77
 go_wp2_with fail
 go_loopw [11] (λi wr=>∃g:Nat,g<=rs.length/\i= .int .i64 g/\(∀i (h:i<rs.length),i<g->wN (eZ rs[i].col) rs[i]=T8)/\wr.heap[w.heap.size+1]? =I (.cells #[.int .i64 q,.slice (I ⟨cb,0,K⟩) n aJ] 139 (0,0))/\aP w wr) (λi _=>rs.length-(UT i).toNat)
 case atStart=>exact⟨0,UF _,rfl,λdf _ h=>by omega,M.o,a4.o⟩
 case round=>
  clear M a4;obtain⟨g,c7,rfl,bi,W,P⟩:=hrel;have T:=af bi;have aa:=af P;have M:=af W;have bl:=P.size;have cx:=Uf W;clear bi;by_cases u:g<rs.length
  ·have p:=am.o.below P;obtain rfl:=p.addr (by omega);have bm:=p.c0 g u;have bo:=p.c1 g u;have br:=p.c2 g u;have bs:=p.c3 g u;have bt:=p.c4 g u;have bu:=p.c5 g u;have bv:=p.c6 g u;obtain⟨A,a5,ck,a7,a8,a9,ba,bc,bd,be,a6⟩:=((al.o rs[g] (Uk u)).below P).ex;have N:X (wN (eZ rs[g].col) rs[g]=Z->¬∀i (h:i<rs.length),wN (eZ rs[i].col) rs[i]=T8):=λh cR=>by
    have:=cR g u;rw[h] at this;cases this
   have O:X (wN (eZ rs[g].col) rs[g]=T8->∀i (h:i<rs.length),i<g+1->wN (eZ rs[i].col) rs[i]=T8):=λh i c1 c6=>by
    by_cases e:i=g
    ·subst e;exact h
    ·exact T.o i c1 (by omega)
   clear p P T am al W;generalize rs[g]=cf at*;generalize eZ cf.col=v at*;obtain⟨dk,k,j⟩:=cf;dsimp only at a5 bm bo br bs bt bu bv;subst a5
   go_upto_region 4 with fail
   obtain⟨c4,bx,bA,bB,b0,b1,b2⟩:=jN (iW wr (.cells #[.int .i64 (A:Int),.bool k.null,.int .i64 k.n,.string k.s,.bool j.null,.int .i64 j.n,.string j.s] 61));have m:aP wr (wr.alloc (.cells #[.int .i64 (A:Int),.bool k.null,.int .i64 k.n,.string k.s,.bool j.null,.int .i64 j.n,.string j.s] 61)):=(Uq _ _).alloc (T9 _) _;have z:∀Y v,bU wr cb Y v->(wr.alloc (.cells #[.int .i64 (A:Int),.bool k.null,.int .i64 k.n,.string k.s,.bool j.null,.int .i64 j.n,.string j.s] 61)).cell? ⟨cb,Y,K⟩=I v:=λY v h=>(m.cell (p:=⟨cb,Y,K⟩) a7).trans h;have cn:=z _ _ a8;have co:=z _ _ a9;have cp:=z _ _ ba;have cs:=z _ _ bc;have cu:=z _ _ bd;have cv:=z _ _ be;have cl:=z _ _ a6;have ar:=(m.block _ cx).trans M.o;have ci:(wr.alloc (.cells #[.int .i64 (A:Int),.bool k.null,.int .i64 k.n,.string k.s,.bool j.null,.int .i64 j.n,.string j.s] 61)).cell? ⟨w.heap.size+1,1,K⟩=I (.slice (I ⟨cb,0,K⟩) n aJ):=by unfold Ut;rw[ar];rfl
   have ab:=af ar;have ae:=af (aa.o.trans (m.mono bl));have H:wr.heap.size<(wr.alloc (.cells #[.int .i64 (A:Int),.bool k.null,.int .i64 k.n,.string k.s,.bool j.null,.int .i64 j.n,.string j.s] 61)).heap.size:=by simp
   clear m bm bo br bs bt bu bv a8 a9 ba bc bd be a6 a7 z ar M aa bl;generalize wr.alloc (.cells #[.int .i64 (A:Int),.bool k.null,.int .i64 k.n,.string k.s,.bool j.null,.int .i64 j.n,.string j.s] 61)=s at*;generalize wr.heap.size=l at*;have c0:(A:Int)<(n:Int):=by omega
   go_upto_region 5 with fail
   obtain⟨b3,av,aw,az,c8,c9,da⟩:=jN (iW s (.cells #[.bool v.there,.bool v.least.null,.int .i64 v.least.n,.string v.least.s,.bool v.most.null,.int .i64 v.most.n,.string v.most.s] 141));have m:aP s (s.alloc (.cells #[.bool v.there,.bool v.least.null,.int .i64 v.least.n,.string v.least.s,.bool v.most.null,.int .i64 v.most.n,.string v.most.s] 141)):=(Uq _ _).alloc (T9 _) _;have db:=(m.cell (p:=⟨l,1,K⟩) H).trans bx;have dc:=(m.cell (p:=⟨l,2,K⟩) H).trans bA;have dd:=(m.cell (p:=⟨l,3,K⟩) H).trans bB;have a0:=(m.cell (p:=⟨l,4,K⟩) H).trans b0;have a1:=(m.cell (p:=⟨l,5,K⟩) H).trans b1;have a2:=(m.cell (p:=⟨l,6,K⟩) H).trans b2;have D:X (aP w (s.alloc (.cells #[.bool v.there,.bool v.least.null,.int .i64 v.least.n,.string v.least.s,.bool v.most.null,.int .i64 v.most.n,.string v.most.s] 141))):=ae.o.trans (m.mono (by have:=ae.o.size;omega));have C:X ((s.alloc (.cells #[.bool v.there,.bool v.least.null,.int .i64 v.least.n,.string v.least.s,.bool v.most.null,.int .i64 v.most.n,.string v.most.s] 141)).heap[w.heap.size+1]? =I (.cells #[.int .i64 q,.slice (I ⟨cb,0,K⟩) n aJ] 139 (0,0))):=(m.block _ (Uf ab.o)).trans ab.o;have x:l<(s.alloc (.cells #[.bool v.there,.bool v.least.null,.int .i64 v.least.n,.string v.least.s,.bool v.most.null,.int .i64 v.most.n,.string v.most.s] 141)).heap.size:=by simp;omega
   have y:s.heap.size<(s.alloc (.cells #[.bool v.there,.bool v.least.null,.int .i64 v.least.n,.string v.least.s,.bool v.most.null,.int .i64 v.most.n,.string v.most.s] 141)).heap.size:=by simp
   clear m c4 bx bA bB b0 b1 b2 cn co cp cs cu cv cl ae ab H c0 ck ci;generalize s.alloc (.cells #[.bool v.there,.bool v.least.null,.int .i64 v.least.n,.string v.least.s,.bool v.most.null,.int .i64 v.most.n,.string v.most.s] 141)=c5 at*;generalize s.heap.size=t at*;have B:=λap=>vG v.most k ap;have J:=λap=>vF v.least j ap;unfold aE.agg at B J;have o:wN v ⟨(A:Int),k,j⟩=(v.there&&(ig v.most k||ic v.least j)):=rfl;cases Q:v.there
   ·rw[Q] at b3 o;have ao:=af (O.o o);clear N O o Q B J;go_wp2
    go_roundw
    case rel=>exact⟨g+1,by omega,by go_num,ao.o,C.o,D.o⟩
    case measure=>simp[UT];omega
   ·rw[Q] at b3 o;cases R:ig v.most k
    ·rw[R] at B o;cases V:ic v.least j
     ·rw[V] at J o;have ao:=af (O.o o);clear N O o R V Q
      go_wp2_with (first|(go_at_call 114;refine(B _).mono ?_;rintro e w' ⟨rfl,f⟩;have E:X (aP w w'):=D.o.trans (f.mono (by have:=D.o.size;omega));have b4:=(f.cell (p:=⟨t,1,K⟩) y).trans av;have b5:=(f.cell (p:=⟨t,2,K⟩) y).trans aw;have b6:=(f.cell (p:=⟨t,3,K⟩) y).trans az;have ca:=(f.cell (p:=⟨l,4,K⟩) x).trans a0;have cc:=(f.cell (p:=⟨l,5,K⟩) x).trans a1;have cd:=(f.cell (p:=⟨l,6,K⟩) x).trans a2;have L:X (w'.heap[w.heap.size+1]? =I (.cells #[.int .i64 q,.slice (I ⟨cb,0,K⟩) n aJ] 139 (0,0))):=(f.block _ (Uf C.o)).trans C.o;clear f)|(go_at_call 115;refine(J _).mono ?_;rintro e S ⟨rfl,G⟩;have ad:X (aP w S):=E.o.trans (G.mono (by have:=E.o.size;omega));have a3:X (S.heap[w.heap.size+1]? =I (.cells #[.int .i64 q,.slice (I ⟨cb,0,K⟩) n aJ] 139 (0,0))):=(G.block _ (Uf L.o)).trans L.o;clear G))
      go_roundw
      case rel=>exact⟨g+1,by omega,by go_num,ao.o,a3.o,ad.o⟩
      case measure=>simp[UT];omega
     ·rw[V] at J o;have an:=af (N.o o);clear N O o R V Q
      go_wp2_with (first|(go_at_call 114;refine(B _).mono ?_;rintro e w' ⟨rfl,f⟩;have E:X (aP w w'):=D.o.trans (f.mono (by have:=D.o.size;omega));have b4:=(f.cell (p:=⟨t,1,K⟩) y).trans av;have b5:=(f.cell (p:=⟨t,2,K⟩) y).trans aw;have b6:=(f.cell (p:=⟨t,3,K⟩) y).trans az;have ca:=(f.cell (p:=⟨l,4,K⟩) x).trans a0;have cc:=(f.cell (p:=⟨l,5,K⟩) x).trans a1;have cd:=(f.cell (p:=⟨l,6,K⟩) x).trans a2;have L:X (w'.heap[w.heap.size+1]? =I (.cells #[.int .i64 q,.slice (I ⟨cb,0,K⟩) n aJ] 139 (0,0))):=(f.block _ (Uf C.o)).trans C.o;clear f)|(go_at_call 115;refine(J _).mono ?_;rintro e S ⟨rfl,G⟩;have ad:X (aP w S):=E.o.trans (G.mono (by have:=E.o.size;omega));have a3:X (S.heap[w.heap.size+1]? =I (.cells #[.int .i64 q,.slice (I ⟨cb,0,K⟩) n aJ] 139 (0,0))):=(G.block _ (Uf L.o)).trans L.o;clear G))
      go_ret;exact⟨Z,rfl,by simp only[Bool.true_eq_false,false_iff];exact an.o,ad.o⟩
    ·rw[R] at B o;have an:=af (N.o o);clear N O o R Q
     go_wp2_with (go_at_call 114;refine(B _).mono ?_;rintro e w' ⟨rfl,f⟩;have E:X (aP w w'):=D.o.trans (f.mono (by have:=D.o.size;omega));have b4:=(f.cell (p:=⟨t,1,K⟩) y).trans av;have b5:=(f.cell (p:=⟨t,2,K⟩) y).trans aw;have b6:=(f.cell (p:=⟨t,3,K⟩) y).trans az;have ca:=(f.cell (p:=⟨l,4,K⟩) x).trans a0;have cc:=(f.cell (p:=⟨l,5,K⟩) x).trans a1;have cd:=(f.cell (p:=⟨l,6,K⟩) x).trans a2;have L:X (w'.heap[w.heap.size+1]? =I (.cells #[.int .i64 q,.slice (I ⟨cb,0,K⟩) n aJ] 139 (0,0))):=(f.block _ (Uf C.o)).trans C.o;clear f)
     go_ret;exact⟨Z,rfl,by simp only[Bool.true_eq_false,false_iff];exact an.o,E.o⟩
  ·have ch:X (∀i (h:i<rs.length),wN (eZ rs[i].col) rs[i]=T8):=λi h=>T.o i h (by omega);clear T P am al W M;go_wp2;go_ret;exact⟨T8,rfl,by simp only[true_iff];exact ch.o,aa.o⟩
end Ec
namespace Cc
open Go Go.Conc
open Go.RowKit (Below)
open Ec (aE aH cG dD sI si qv)
def m8 (W w:F)(b:Nat):Prop:=∀a,w.heap[b]? =I a->bk (aB T5) a->W.heap[b]? =I a
abbrev dz:=Nat×List aE
structure Cons(P0 P:Ug)(Post:U->F->Prop)(l:Nat)(J:List dz->(Nat->Prop)->F->Prop)(Go:List dz->Bool):Prop where
 j9:∀pre M W W',J pre M W->(∀b,M b->W'.heap[b]? =W.heap[b]?)->W.heap.size<=W'.heap.size->J pre M W'
 bound:∀pre M W,J pre M W->∀b,M b->b<W.heap.size
 round:∀pre M W (nm:Nat) (row:List aE) v,J pre M W->pre.length<2000->nm<=1000000->row.length<=1000->W.ownsRow 0 59 3 v row.length (aH row)->(∀g,v.ownBlock=I g->¬M g)->Fu P0 P Post l #[.int .i64 (nm:Int),v] W λu W'=>u= .bool (Go (pre++[(nm,row)]))/\∃M',J (pre++[(nm,row)]) M' W'/\(∀b,b<W.heap.size->¬M b->I b≠v.ownBlock->W'.heap[b]? =W.heap[b]?)/\∀b,M' b->M b\/I b=v.ownBlock\/W.heap.size<=b
def feed (Go:List dz->Bool):List dz->List dz->List dz×Bool
 |pre,[]=>(pre,Z)
 |pre,a::b=>if Go (pre++[a]) then feed Go (pre++[a]) b else(pre++[a],T8)
def eC (jm:Nat->Bool)(a:Nat->List aE)(first:Nat):Nat->Nat->List dz
 |p,0=>[]
 |p,b+1=>if jm p then(first+p,a p)::eC jm a first (p+1) b else eC jm a first (p+1) b
structure SQ(W:F)(ah:List Int)(rs:List cG)(co:Option UK)(cb bD:Nat)(ro:Option UK)(rb bg:Nat)(lb m N:Nat)(val:Int->Nat->aE):Prop where
 ca:0<ah.length->co=I ⟨cb,bD,K⟩
 cl:0<ah.length->cb<W.heap.size
 cc:∀j,j<ah.length->W.cell? ⟨cb,bD+j,K⟩=I (.int .i64 (ah.getD j 0))
 nr:dD W ro rb bg rs
 lc:∀p,p<N->∀k,(k∈ah\/∃r∈rs,r.col=k)->sI W lb m k p (val k p)
structure Kept(w0 w:F)(M0 M own:Nat->Prop):Prop where
 keep:∀b,b<w0.heap.size->¬M0 b->own b/\w.heap[b]? =w0.heap[b]?
 ext:∀b,M b->M0 b\/w0.heap.size<=b
 rq:∀b,M b->own b
 size:w0.heap.size<=w.heap.size
 tape:w.tape=w0.tape
 os:w.os=w0.os
 output:w.output=w0.output
def Kept.rel{w0 w w':F}{M0 e own own':Nat->Prop}(h:Kept w0 w M0 e own)(c:RelB own w w')(f:∀b,own b->own' b):Kept w0 w' M0 e own':=
 ⟨λb a d=>⟨f b (h.keep b a d).1,(c.at_ b (h.keep b a d).1).trans (h.keep b a d).2⟩,h.ext,λb a=>f b (h.rq b a),Uz h.size c.size,c.tape.trans h.tape,c.os.trans h.os,c.output.trans h.output⟩
def iy (fn:WD):WX:=match fn.body with
 |some (.seq _ (.seq (.seq _ (.block _ (.loop a))) _))=>a
 |_=>.skip
def qG (fn:WD):WX:=match fn.body with
 |some (.seq _ (.seq _ a))=>a
 |_=>.skip
structure Fs(J:List dz->(Nat->Prop)->F->Prop)(w0 w:F)(M0 M own:Nat->Prop)(q:Array U)(lists:U)(l first N p qb:Nat)(pre:List dz)(a:V7):Prop where
 kn:Knows a 33 [(13,.int .i64 (p:Int)),(12,.int .i64 (N:Int)),(5,(bS qb)),(4,.func (.yield l) #[] #[]),(2,.int .i64 (first:Int)),(1,lists)]
 df:a.defers=[]
 j:J pre M w
 kept:Kept w0 w M0 M own
 bd:∀b,own b->b<w.heap.size
 oq:own qb
 nq:¬M qb
 lq:w0.heap.size<=qb
 hq:w.heap[qb]? =I (.cells q 115 (0,0))
def RZ:(Tryz.f118.name == "runtime.NumGoroutine")=T8:=by kernel_rfl
def SN:(Tryz.f119.name == "runtime.NumGoroutine")=T8:=by kernel_rfl
def uJ:(T5.info? 115).map (·.size)=I 6:=by kernel_rfl
def xp (fn:WD):Array Vv:=match iy fn with
 | .seq _ (.seq _ (.seq (.block _ (.seq _ (.seq (.region _ a _) _))) _))=>a
 |_=> #[]
def mJ (fn:WD):List WO:=match iy fn with
 | .seq _ (.seq _ (.seq (.block _ (.seq _ (.seq _ a))) b))=>[.code a,.inBlock 1,.code b,.inLoop (iy fn),.inBlock 0,.code (qG fn)]
 |_=>[]
def OV:(mJ Wz).all (yB (aB T5))=Z:=by kernel_rfl
def Mm:yB (aB T5) (.inRegion (xp Wz) [])=Z:=by kernel_rfl
def B4{a:V7}{l:List Nat}(b:a.defers=[]):eO (aB T5) ((base 79).at a (.inRegion (xp Wz) l::mJ Wz)) []:=
 dK Y b (by rw[List.all_cons,OV,Bool.and_true];exact Mm)
end Cc
namespace Cc
open Go Go.Conc
open Go.RowKit (Below)
open Ec (aE aH cG dD sI si qv yF Bf)
section
variable {Post:U->F->Prop}{J:List dz->(Nat->Prop)->F->Prop}{Go:List dz->Bool}{w0 w:F}{M0 M own:Nat->Prop}{l first N p qb:Nat}{pre:List dz}{a:V7}{cs:List Uu}{ah:List Int}{rs:List cG}{co:Option UK}{cb bD aJ:Nat}{ro:Option UK}{rb bg aM lb m mc:Nat}{val:Int->Nat->aE}{a0 b0 c0:U}{sk:Bool}{c:Uu}
def Kept.same{W:F}(h:Kept w0 w M0 M own)(g:∀b o,own b->w.heap[b]? =I o->bk (aB T5) o->W.heap[b]? =I o)(j:w.heap.size<=W.heap.size):(∀b,b<w0.heap.size->¬M0 b->m8 W w0 b)/\w0.heap.size<=W.heap.size:=
 ⟨λb d e o i f=>g b o (h.keep b d e).1 ((h.keep b d e).2.trans i) f,Uz h.size j⟩
def Ch{W' w':F}{base:Nat}{e:Ui}{d:Nat}{v:U}{n:Nat}{f:List U}(r:Un W' w')(h:W'.ownsRow base e d v n f):w'.ownsRow base e d v n f:=by
 obtain⟨b,h|⟨j,g,i,rfl,k,o,q⟩⟩:=h
 ·exact⟨b,.inl h⟩
 ·exact⟨b,.inr ⟨j,g,i,rfl,k,r.row.1 o,q⟩⟩
def jX{W W':F}{base:Nat}{e:Ui}{j:Nat}{v:U}{n:Nat}{k:List U}(h:W.ownsRow base e j v n k){b:Nat}(t:b<=base)(s:∀g,v.ownBlock=I g->base<=g->g<W.heap.size->W'.heap[g]? =W.heap[g]?):W'.ownsRow b e j v n k:=by
 obtain⟨i,h|⟨g,o,q,rfl,d,f,r⟩⟩:=h
 ·exact⟨i,.inl h⟩
 ·exact⟨i,.inr ⟨g,o,q,rfl,Uz t d,(s g Y d (Uc.1 f).1).trans f,r⟩⟩
def tf{W:F}{base:Nat}{e:Ui}{i:Nat}{v:U}{n:Nat}{j:List U}(h:W.ownsRow base e i v n j){g:Nat}(b:v.ownBlock=I g):base<=g/\g<W.heap.size:=by
 obtain⟨s,⟨rfl,_⟩|⟨q,k,o,rfl,d,f,r⟩⟩:=h
 ·cases b
 ·cases b;exact⟨d,(Uc.1 f).1⟩
def xK{a:V7}{x y:U7}{u v:U}(h1:a.eval x=u)(b:a.eval y=v): #[x,y].map a.eval=#[u,v]:=by simp[h1,b]
def BH{a:V7}{x y z:U7}{u v t:U}(h1:a.eval x=u)(b:a.eval y=v)(d:a.eval z=t): #[x,y,z].map a.eval=#[u,v,t]:=by simp[h1,b,d]
def DV(C:Cons (aB T5) T5 Post l J Go)(hF:∀W,(∀b,b<w0.heap.size->¬M0 b->m8 W w0 b)->w0.heap.size<=W.heap.size->SQ W ah rs co cb bD ro rb bg lb m N val)(a1:p<N)(bc:pre.length<2000)(bB:first+N<=1000000)(hc:ah.length<=1000)(bo:rs.length<=Ur)
 (d:Knows a 33 [(11,.int .i64 (p:Int)),(13,.int .i64 (p:Int)),(12,.int .i64 (N:Int)),(5,(bS qb)),(4,.func (.yield l) #[] #[]),(2,.int .i64 (first:Int)),(1,.slice (I ⟨lb,0,K⟩) m mc)]) (H:a.defers=[]) (U:J pre M w) (R:Kept w0 w M0 M own) (a9:∀b,own b->b<w.heap.size) (V:own qb) (az:¬M qb) (b3:w0.heap.size<=qb) (a2:w.heap[qb]? =I (.cells #[a0,b0,c0,.slice co ah.length aJ,.slice ro rs.length aM,.bool sk] 115 (0,0)))
 (bi:∀own' w' a',(¬∀i (h:i<rs.length),si (val rs[i].col p) rs[i]=Z)->Knows a' 33 [(31,.bool T8),(13,.int .i64 (p:Int)),(12,.int .i64 (N:Int)),(5,(bS qb)),(4,.func (.yield l) #[] #[]),(2,.int .i64 (first:Int)),(1,.slice (I ⟨lb,0,K⟩) m mc)]->a'.defers=[]->J pre M w'->Kept w0 w' M0 M own'->(∀b,own' b->b<w'.heap.size)->own' qb->w'.heap[qb]? =I (.cells #[a0,b0,c0,.slice co ah.length aJ,.slice ro rs.length aM,.bool sk] 115 (0,0))->Xe (aB T5) T5 Post own' ((base 79).at a' (mJ Wz)) cs w')
 (bu:∀own' n w' a',(∀i (h:i<rs.length),si (val rs[i].col p) rs[i]=Z)->Knows a' 33 [(31,.bool (!Go (pre++[(first+p,ah.map λk=>val k p)]))),(13,.int .i64 (p:Int)),(12,.int .i64 (N:Int)),(5,(bS qb)),(4,.func (.yield l) #[] #[]),(2,.int .i64 (first:Int)),(1,.slice (I ⟨lb,0,K⟩) m mc)]->a'.defers=[]->J (pre++[(first+p,ah.map λk=>val k p)]) n w'->Kept w0 w' M0 n own'->(∀b,own' b->b<w'.heap.size)->own' qb->¬n qb->w'.heap[qb]? =I (.cells #[a0,b0,c0,.slice co ah.length aJ,.slice ro rs.length aM,.bool sk] 115 (0,0))->Xe (aB T5) T5 Post own' ((base 79).at a' (mJ Wz)) cs w'):
 Xe (aB T5) T5 Post own ((base 79).at a (.code (.region 4 (xp Wz) T8)::mJ Wz)) cs w:=by
 have e:=ir (aB T5) T5 Post;have a3:∀W:F,W.heap[qb]? =I (.cells #[a0,b0,c0,.slice co ah.length aJ,.slice ro rs.length aM,.bool sk] 115 (0,0))->W.rangeAt qb 0 [a0,b0,c0,.slice co ah.length aJ,.slice ro rs.length aM,.bool sk]:=λW G b5 v U=>by
  unfold Ut;simp only[G];rw[UU];simpa using U
 refine bp e [0,1,2,3,4,5,6,7,8,9,10,11,12,13,14,15] Y ?_;refine ri e d Y (qv a0 b0 c0 (.slice co ah.length aJ) (.slice ro rs.length aM) sk) (fo (cs:=[a0,b0,c0,.slice co ah.length aJ,.slice ro rs.length aM,.bool sk]) Y (d.of Y) WG Y uJ (.inr V) (a3 w a2)) λd=>?_;refine cI e d λd=>?_;refine cI e d λd=>?_;refine C6 (R:=λW j o=>∃s,j= .returned (.bool s)/\(s=Z↔∀i (h:i<rs.length),si (val rs[i].col p) rs[i]=Z)) cW Y Y Y Y (BH (d.of Y) (d.of Y) (d.of Y)) Tryz.func118 RZ Y (jY Y Y Y).symm (B4 (by simp only[put_defers];exact H)) (λW G ab=>?_) λv r W o G ab bx ae b1 hrel=>?_
 ·have t:=hF W (R.same G ab).1 (R.same G ab).2;refine(yF rs (λk=>val k p) p lb m mc a0 b0 c0 (.slice co ah.length aJ) ro rb bg aM sk W bo t.nr (λa4 br=>t.lc p a1 a4.col (.inr ⟨a4,br,rfl⟩))).mono λj o h=>?_;obtain⟨s,rfl,E,z⟩:=h;exact⟨z,_,rfl,s,rfl,E⟩
 ·obtain⟨s,a8,ar⟩:=ae;cases a8;have u:=R.rel (own':=grown own W.heap.size r.heap.size) hrel (λb h=>.inl h);have av:=C.j9 _ _ _ r U (λb f=>hrel.at_ b (R.rq b f)) hrel.size;have aa:=(hrel.at_ qb V).trans a2;have Q:∀b,grown own W.heap.size r.heap.size b->b<r.heap.size:=λb f=>f.elim (λh=>Ue (a9 b h) hrel.size) (λh=>h.2);have L:grown own W.heap.size r.heap.size qb:=.inl V;replace d:=d.put (d:=19) (by decide) (.bool s);generalize grown own W.heap.size r.heap.size=al at*;refine cI e d λd=>?_;cases s with
  |false=>
   refine sO e d λd=>?_;refine sO e d λd=>?_;refine sO e d λd=>?_;refine sO e d λd=>?_;refine sO e d λd=>?_;refine sO e d λd=>?_;refine sO e d λd=>?_;refine sO e d λd=>?_;refine sO e d λd=>?_;refine sO e d λd=>?_;refine dF e d Y (.bool T8) (yM Y (d.of Y) Y) λd=>?_;refine ak e ?_;refine bi al r _ (λh=>by have:=ar.2 h;cases this) ((((((d.nil.cons (d.slot 1 _ rfl)).cons (d.slot 2 _ rfl)).cons (d.slot 4 _ rfl)).cons (d.slot 5 _ rfl)).cons (d.slot 12 _ rfl)).cons (d.slot 13 _ rfl) |>.cons (d.slot 31 _ rfl)) (by simp only[put_defers];exact H) av u Q L aa
  |true=>
   have bd:=ar.1 Y;refine mD e (by decide) Y (d.want (d:=20) (want:=Z) (b:=Z) Y Y Y (by decide)) _ (cm Y (d.of Y)) ?_;replace d:=d.put (d:=21) (by decide) (.func (.yield l) #[] #[]);refine mD e (by decide) Y (d.want (d:=20) (want:=Z) (b:=Z) Y Y Y (by decide)) _ (cm Y (d.of Y)) ?_;replace d:=d.put (d:=22) (by decide) (.int .i64 (first:Int));refine mD e (by decide) Y (d.want (d:=20) (want:=Z) (b:=Z) Y Y Y (by decide)) _ (cm Y (d.of Y)) ?_;replace d:=d.put (d:=23) (by decide) (.int .i64 (p:Int));refine mD e (by decide) Y (d.want (d:=20) (want:=Z) (b:=Z) Y Y Y (by decide)) _ (nP Y (d.of Y) (d.of Y) (by omega)) ?_;replace d:=d.put (d:=24) (by decide) (.int .i64 ((first+p:Nat):Int));refine oy e (by decide) Y (d.want (d:=20) (want:=Z) (b:=Z) Y Y Y (by decide)) _ (fo (cs:=[a0,b0,c0,.slice co ah.length aJ,.slice ro rs.length aM,.bool sk]) Y (d.of Y) WG Y uJ (.inr L) (a3 r aa)) ?_;replace d:=d.put (d:=25) (by decide) (qv a0 b0 c0 (.slice co ah.length aJ) (.slice ro rs.length aM) sk);refine mD e (by decide) Y (d.want (d:=20) (want:=Z) (b:=Z) Y Y Y (by decide)) _ (cm Y (d.of Y)) ?_;replace d:=d.put (d:=26) (by decide) (.slice (I ⟨lb,0,K⟩) m mc);refine mD e (by decide) Y (d.want (d:=20) (want:=Z) (b:=Z) Y Y Y (by decide)) _ (cm Y (d.of Y)) ?_;replace d:=d.put (d:=27) (by decide) (.int .i64 (p:Int));refine C6 (R:=λW j o=>∃v,j= .returned v/\o.ownsRow W.heap.size 59 3 v ah.length (aH (ah.map λk=>val k p))) cW Y Y (d.want (d:=20) (want:=Z) (b:=Z) Y Y Y (by decide)) Y (BH (d.of Y) (d.of Y) (d.of Y)) Tryz.func119 SN Y (jY Y Y Y).symm (B4 (by simp only[put_defers];exact H)) (λy T ad=>?_) λv S y bv T ad bA ae a7 B=>?_
   ·have t:=hF y (u.same T ad).1 (u.same T ad).2;refine(Bf ah (λk=>val k p) p lb m mc a0 b0 c0 (.slice ro rs.length aM) co cb bD aJ sk y hc t.ca t.cl t.cc (λk bb=>t.lc p a1 k (.inl bb))).mono λj o h=>?_;obtain⟨E,v,rfl,z⟩:=h;exact⟨E,v,rfl,v,rfl,z⟩
   ·obtain⟨cd,bt,bj⟩:=ae;cases bt;have q:=u.rel (own':=grown al y.heap.size S.heap.size) B (λb h=>.inl h);have ba:=C.j9 _ _ _ S av (λb f=>B.at_ b (u.rq b f)) B.size;have bm:=(B.at_ qb L).trans aa;have b2:∀b,grown al y.heap.size S.heap.size b->b<S.heap.size:=λb f=>f.elim (λh=>Ue (Q b h) B.size) (λh=>h.2);have X:=Ch a7 bj;have b4:=Q qb L;replace d:=d.put (d:=28) (by decide) v;refine Qi (l:=l) (vs:= #[.int .i64 ((first+p:Nat):Int),v]) (R:=λam a5 o=>a5= .bool (Go (pre++[(first+p,ah.map λk=>val k p)]))/\∃n,J (pre++[(first+p,ah.map λk=>val k p)]) n o/\(∀b,b<am.heap.size->¬M b->I b≠v.ownBlock->o.heap[b]? =am.heap[b]?)/\∀b,n b->M b\/I b=v.ownBlock\/am.heap.size<=b) cW Y (d.want (d:=20) (want:=Z) (b:=Z) Y Y Y (by decide)) Y (d.of Y) (xK (d.of Y) (d.of Y)) (B4 (by simp only[put_defers];exact H)) (λan g=>?_) λan a5 O g bs D bl=>?_
    ·refine C.round pre M an (first+p) (ah.map λk=>val k p) v (C.j9 _ _ _ an ba (λb f=>g.at_ b (q.rq b f)) g.size) bc (by omega) (by rw[UH];exact hc) ?_ λP A x=>?_
     ·rw[UH];exact jX X (UF _) λP E z a6=>g.at_ P (.inr ⟨z,a6⟩)
     ·have E:=(tf X A).1;have z:=Q P (u.rq P x);omega
    ·obtain⟨rfl,n,ao,aw,ap⟩:=bs;have A:∀b,I b=v.ownBlock->y.heap.size<=b:=λb f=>(tf X f.symm).1;have b6:=u.size;have ca:=g.size;have cc:=B.size;refine Xe.go (own:=λb=>b<O.heap.size) ?_ (λb h=>h) bl;replace d:=d.put (d:=29) (by decide) (.bool (Go (pre++[(first+p,ah.map λk=>val k p)])));refine mD e (by decide) Y (d.want (d:=20) (want:=Z) (b:=Z) Y Y Y (by decide)) _ (yL Y (d.of Y)) ?_;replace d:=d.put (d:=30) (by decide) (.bool (!Go (pre++[(first+p,ah.map λk=>val k p)])));refine dF e d Y (.bool (!Go (pre++[(first+p,ah.map λk=>val k p)]))) (yN Y (d.of Y) (d.of Y)) λd=>?_;refine ak e ?_;refine bu (λb=>b<O.heap.size) n O _ bd ((((((d.nil.cons (d.slot 1 _ Y)).cons (d.slot 2 _ Y)).cons (d.slot 4 _ Y)).cons (d.slot 5 _ Y)).cons (d.slot 12 _ Y)).cons (d.slot 13 _ Y) |>.cons (d.slot 31 _ Y)) (by simp only[put_defers];exact H) ao ⟨λb f x=>?_,λb f=>?_,λb f=>C.bound _ _ _ ao b f,?_,D.tape.trans (g.tape.trans q.tape),D.os.trans (g.os.trans q.os),D.output.trans (g.output.trans q.output)⟩ (λb h=>h) ?_ (λx=>?_) ?_
     ·have be:¬M b:=λh=>(q.ext b h).elim x (λh=>by omega);refine⟨by have:=D.size;show b<O.heap.size;omega,?_⟩;rw[aw b (by omega) be (λj=>by have:=A b j;omega),g.at_ b (q.keep b f x).1];exact(q.keep b f x).2
     ·rcases ap b f with h|h|h
      ·exact q.ext b h
      ·exact .inr (by have:=A b h;omega)
      ·exact .inr (by omega)
     ·have:=D.size;omega
     ·have:=D.size;show qb<O.heap.size;omega
     ·rcases ap qb x with h|h|h
      ·exact az h
      ·have:=A qb h;omega
      ·omega
     ·rw[aw qb (by omega) az (λj=>by have:=A qb j;omega),g.at_ qb (.inl L)];exact bm
end
end Cc
namespace Rl
def Zk (v:U):Prop:=∀(G:mo) (a:aT G),ax a v v
def Fh{v:U}(h:Zk v):∀c∈v.cells,Zk c:=by
 intro c b G e;have:=(h G e).cells;obtain⟨d,a,rfl⟩:=Array.mem_iff_getElem.1 b;exact this.2 d a a
def C7{cs:Array U}(h:∀c∈cs,Zk c):Zk (.agg cs):=λG b=>.agg Y λe a d=>h _ (Array.getElem_mem a) G b
def Zi (i:Xi):Prop:=∀v,i.zero=I v->Zk v
theorem A1{α i:Type}{f:α->i->Option (ForInStep i)}(e:i->Prop)(j:∀a b s,e b->f a b=I s->∀c,(s= .yield c\/s= .done c)->e c):∀(l:List α) (b r:i),e b->forIn l b f=I r->e r
 | [],b,r,g,d=>by simp at d;rw[<-d];exact g
 |a::l,b,r,g,d=>by
  rw[List.forIn_cons] at d;cases h:f a b with
  |none=>rw[h] at d;cases d
  |some s=>
   rw[h] at d;cases s with
   |done c=>simp at d;rw[<-d];exact j a b _ g h c (.inr Y)
   |yield c=>exact A1 e j l c r (j a b _ g h c (.inl Y)) d
def Qn{o:Option (Array U)}{i:Xi}(g:Zi i)(j:∀e,o=I e->∀c∈e,Zk c){b:Prop} [Decidable b]{e:Array U}
 (h:(if b then K else o.bind λa=>i.zero.bind λz=>I (a++z.cells))=I e):∀c∈e,Zk c:=by
 split at h
 ·cases h
 ·obtain⟨a,f,h⟩:=US.1 h;obtain⟨z,k,h⟩:=US.1 h;cases h;intro c d;rcases Array.mem_append.1 d with d|d
  ·exact j a f c d
  ·exact Fh (g z k) c d
def TJ (c:Array Field×Nat×Nat×Nat×Nat×Bool×Bool×Option (Array U)×String):Prop:=∀a,c.2.2.2.2.2.2.2.1=I a->∀b∈a,Zk b
def Lb{info:Ui->Option Xi}(k:∀t i,info t=I i->Zi i)(g:Array Field)(r:Xi)(h:Made.reckonStruct info g=I r):Zi r:=by
 unfold Made.reckonStruct at h;simp only[bind,US,pure] at h;obtain⟨o,d,h⟩:=h;have j:TJ o:=by
  rw[<-Array.forIn_toList] at d;refine A1 TJ ?_ _ _ _ ?_ d
  ·intro f q s m a e hc;obtain⟨i,l,a⟩:=US.1 a
   split at a
   ·cases a
   ·split at a
    ·cases a
    ·split at a<;>(obtain⟨tag,p,a⟩:=US.1 a;split at a<;>(cases a;rcases hc with hc|hc<;>cases hc;exact λc b=>Qn (k _ _ l) m b))
  ·intro c b;cases b;intro e hc;simp at hc
 split at h<;>(cases h;intro v n;obtain⟨c,b,rfl⟩:=Wr.1 n;exact C7 (j c b))
def q9{d:TypeDesc}{s:String}{z:U}{c:Bool}{n:Nat}(b:Zk z):Zi (Made.word d s z c n):=by
 intro v a;unfold Made.word at a;cases a;exact b
def La{info:Ui->Option Xi}(k:∀t i,info t=I i->Zi i)(d:TypeDesc)(r:Xi)(h:Made.reckon info d=I r):Zi r:=by
 unfold Made.reckon at h;simp only[bind,pure] at h
 split at h
 ·obtain⟨i,l,h⟩:=US.1 h
  split at h
  ·cases h
  ·split at h
   ·cases h
   ·obtain⟨s,b,h⟩:=US.1 h;cases h;exact q9 λG e=>.dg
  ·obtain⟨s,b,h⟩:=US.1 h;cases h;exact q9 λG e=>.dg
 ·obtain⟨s,b,h⟩:=US.1 h;obtain⟨g,f,h⟩:=US.1 h;cases h;exact q9 λG e=>.jW 0 0
 ·obtain⟨s,b,h⟩:=US.1 h;obtain⟨g,f,h⟩:=US.1 h;obtain⟨s,b,h⟩:=US.1 h;obtain⟨g,f,h⟩:=US.1 h;cases h;exact q9 λG e=>.kF
 ·obtain⟨s,b,h⟩:=US.1 h;obtain⟨g,f,h⟩:=US.1 h;cases h;exact q9 λG e=>.iN
 ·obtain⟨s,b,h⟩:=US.1 h;cases h;exact q9 λG e=>.nilFunc
 ·obtain⟨i,l,h⟩:=US.1 h;obtain⟨g,f,h⟩:=US.1 h;cases h;intro v c;simp only at c
  split at c
  ·cases c
  ·split at c
   ·cases c;exact C7 λj a=>by simp at a
   ·obtain⟨n,m,rfl⟩:=Wr.1 c;refine C7 λj a=>?_;simp only[Array.mem_flatten,Array.mem_replicate] at a;obtain⟨o,⟨_,rfl⟩,a⟩:=a;exact Fh (k _ _ l n m) j a
 ·exact Lb k _ _ h
 ·cases h
theorem BA{T:Tables}(b:∀(t:Nat) i,T.types[t]? =I i->Zi i):∀(f:Nat) (t:Ui) (i:Xi),Made.infoAt T f t=I i->Zi i
 |0,t,i,a=>by cases a
 |f+1,t,i,a=>by
  unfold Made.infoAt at a
  split at a
  ·exact b _ _ a
  ·obtain⟨c,d,a⟩:=US.1 a;exact La (BA b f) c i a
def Ql{T:Tables}(a:∀(t:Nat) i,T.types[t]? =I i->Zi i)(t:Ui)(i:Xi)(h:T.info? t=I i):Zi i:=by
 unfold Tables.info? at h
 split at h
 ·exact a _ _ h
 ·exact BA a _ t i h
end Rl
namespace Cc
open Go
def fA:Nat->U->Bool
 |0,_=>T8
 |n+1,v=>match v with
  | .bool _| .int _ _| .string _| .pointer K| .slice K _ _| .map K| .chan K| .nilFunc| .nilIface=>Z
  | .agg a| .tuple a=>a.toList.all (fA n)
  |_=>T8
theorem yQ:∀(n:Nat) (v:U),fA n v=Z->Rl.Zk v
 |0,v,a=>by cases a
 |n+1,v,a=>by
  intro G c;unfold fA at a
  split at a
  ·exact .bool _
  ·exact .int _ _
  ·exact .string _
  ·exact .dg
  ·exact .jW _ _
  ·exact .kF
  ·exact .iN
  ·exact .nilFunc
  ·exact .nilIface
  ·rename_i d;exact Rl.C7 (λb e=>yQ n b (UA.1 a b (by simpa using e))) G c
  ·rename_i d;exact .tuple Y λh f g=>yQ n _ (UA.1 a _ (by simp)) G c
  ·cases a
def Sl:List Nat:=[65,66,83,93,95,97,98,120,123,128,129,130,139,141,152,153,154,155,156,158,161,162,163,164,165,166,167,169,170,171,172,173,174,175,176,177,178]
def L1:Rl.mo:=⟨1,λf=>Sl.contains f⟩
def Qk:(T5.types.toList.all λi=>match i.zero with|some v=>fA 12 v|none=>Z)=Z:=by kernel_rfl
def IT:T5.globals.size=1:=by kernel_rfl
def RX:(Sl.all λf=>match T5.funcs[f]? with|some fn=>(match fn.body with|some c=>Rl.cE L1 T5 c|none=>T8)|none=>T8)=Z:=by kernel_rfl
def R4:Rl.wG T5 T5:=⟨λ_=>rfl,λ_=>rfl,rfl,λc d v a b=>by
 refine Rl.Ql (T:=T5.toTables) (λc d a v b=>?_) c d a v b;obtain⟨e,rfl⟩:=Uc.1 a;have:=UA.1 Qk (T5.types[c]) (by simp);rw[b] at this;exact yQ _ _ this⟩
def Fc:Rl.nF L1 T5 T5:=by
 intro f e;have:=UA.1 RX f (by simpa [L1] using e)
 split at this
 ·rename_i c a
  split at this
  ·rename_i b d;exact⟨c,b,a,a,d,this⟩
  ·cases this
 ·cases this
def Qj:Rl.Alike L1 T5 T5:=⟨R4,λ_=>rfl,λ_=>rfl,rfl,λ_ _ _ _ _ _=>rfl,λ_ _ _ _ _=>rfl,λ_ _ _=>rfl,λ_ _=>rfl,λ_=>rfl,λ_ _=>rfl,IT,IT,λf d=>by
 obtain⟨b,e,a,_,c,_⟩:=Fc f d;refine⟨b,a,by rw[c];rfl,?_⟩;simpa using jH tP a,λ_=>rfl⟩
end Cc
namespace Cc
open Go Go.Conc
open Ec (aE aH)
def Lo (own:Nat->Prop)(w:F)(v:U)(l:List aE):Prop:=
 (v=aR/\l=[])\/∃a c b,v= .slice (I ⟨a,0,K⟩) l.length c/\own a/\w.heap[a]? =I (.cells b 59 (0,0))/\b.toList.take (l.length*3)=aH l
theorem mg:∀(l:List aE) (i:Nat) (h:i<l.length) (j:Nat) (v:U),[WQ l[i].null,.int .i64 l[i].n,.string l[i].s][j]? =I v->(aH l)[i*3+j]? =I v
 | [],i,h,j,v,a=>by simp at h
 |x::l,0,h,j,v,a=>by
  simp only[List.getElem_cons_zero] at a;simp only[aH,WT,Nat.zero_mul,UU];exact Vx (UB.1 a).1▸a
 |x::l,i+1,h,j,v,a=>by
  simp only[List.getElem_cons_succ] at a;have:=mg l i (by simpa using h) j v a;have b:(i+1)*3+j=i*3+j+3:=by omega
  rw[b];simpa [aH] using this
def uO{w:F}{g:Nat}{b:Array U}{l:List aE}(c:w.heap[g]? =I (.cells b 59 (0,0)))(hc:b.toList.take (l.length*3)=aH l){i:Nat}(d:i<l.length):w.rangeAt g (0+i*3) [WQ l[i].null,.int .i64 l[i].n,.string l[i].s]:=by
 intro f v e;have a:=mg l i d f v e;rw[<-hc,V9] at a
 split at a
 ·unfold Ut;simp only[c];rw[UU];simpa using a
 ·cases a
def pZ (fn:WD):WX:=match fn.body with
 |some (.seq _ (.seq _ (.seq _ (.seq _ (.seq _ (.block _ (.loop a)))))))=>a
 |_=>.skip
def mW:(T5.info? 59).map (·.size)=I 3:=by kernel_rfl
def BF (S:Nat->Prop)(c:Nat)(ds:List Deferred)(l:List aE)(v:U)(i:Nat)(own:Nat->Prop)(w:F)(a:V7):Prop:=
 Knows a 47 [(40,.int .i64 (i:Int)),(39,.int .i64 (l.length:Int)),(38,v),(0,.chan (I c))]/\a.defers=ds/\tR S own w/\Lo own w v l
def NB{S:Nat->Prop}{c:Nat}{co:Array Bool}{ats:Array Ui}{ty:Ui}{l:List aE}{v:U}{i:Nat}{own:Nat->Prop}{w:F}{a:V7}(h:BF S c [{target:=.builtin .close ats ty co,args:= #[.chan (I c)]}] l v i own w a)(f:l.length<=i):
 pJ (aB T5) T5 S c own [] (Uh ((baseD 116).at a [.code (pZ VH),.inLoop (pZ VH),.inBlock 0]) [below T5]) w:=by
 obtain⟨d,e,g,j⟩:=h;have b:=kX (aB T5) T5 S c [];refine aQ b ?_;refine bp b [0] Y ?_;refine dF b d Y (.bool T8) (jy Y (d.of Y) (d.of Y) (by simp;omega)) λd=>?_;refine ak b ?_;refine aQ b ?_;refine dw b T8 (d.of Y) ?_;refine ue b (k':=[]) Y ?_;refine LF b ?_;exact IR Y e Tryz.func116 Y Y
def GL{S:Nat->Prop}{c:Nat}{ds:List Deferred}{l:List aE}{v:U}{i:Nat}{own:Nat->Prop}{w:F}{a:V7}{x:aE}{r:List aE}(N:l.length<=100000)(h:BF S c ds l v i own w a)(k:l.drop i=x::r)
 (E:∀own' w' a',BF S c ds l v (i+1) own' w' a'->pJ (aB T5) T5 S c own' (r.map aE.agg) (Uh ((baseD 116).at a' [.code (pZ VH),.inLoop (pZ VH),.inBlock 0]) [below T5]) w'):
 pJ (aB T5) T5 S c own ((x::r).map aE.agg) (Uh ((baseD 116).at a [.code (pZ VH),.inLoop (pZ VH),.inBlock 0]) [below T5]) w:=by
 obtain⟨b,B,j,n⟩:=h;have d:=kX (aB T5) T5 S c ((x::r).map aE.agg);have g:i<l.length:=by
  rcases Vz i l.length with h|h
  ·exact h
  ·rw[List.drop_eq_nil_of_le h] at k;cases k
 have J:l[i]=x:=by
  have:=Wp g;rw[k] at this;exact(List.cons.inj this).1.symm
 obtain⟨rfl,rfl⟩|⟨e,y,z,rfl,f,q,u⟩:=n
 ·simp at g
 have t:=uO q u g;rw[J] at t;refine aQ d ?_;refine bp d [0] Y ?_;refine dF d b Y (.bool Z) (jy Y (b.of Y) (b.of Y) (by simp;omega)) λb=>?_;refine ak d ?_;refine aQ d ?_;refine dw d Z (b.of Y) ?_;refine ij d ?_;refine aQ d ?_;refine gC d ?_;refine aQ d ?_;refine bp d [0,1,2,3] Y ?_;refine dF d b Y (.pointer (I ⟨e,0+i*3,K⟩)) (fI Y (b.of Y) (b.of Y) WA Tryz.sizeOf59 g) λb=>?_;refine ri d b Y (.agg #[WQ x.null,.int .i64 x.n,.string x.s]) (fo (cs:=[WQ x.null,.int .i64 x.n,.string x.s]) Y (b.of Y) Tryz.underlying59 Y mW (.inr f) t) λb=>?_;refine mC d j (by decide) Y Y (.cells #[.bool T8,.int .i64 0,.string ⟨#[]⟩] 59) trivial (λL=>(bS L)) (tc Y Tryz.zeroValue59) λo P G H hrel A=>?_;replace b:=b.put (d:=11) (by decide) (bS o);have s:=j.new G H;have C:e≠o:=by have:=j e (.inr f);omega
 refine sb d s (by decide) Y Y (.inr Y) (.cells (iG x) 59) trivial (k7 (n:=o) (off:=0) (v:=.agg #[WQ x.null,.int .i64 x.n,.string x.s]) Y (b.of Y) (b.of Y) mW (λc p=>by simp[WI] at p;rcases p with rfl|rfl|rfl<;>rfl) (Or.inr (Or.inr rfl)) A (T9 3)) λM m=>?_;replace b:=b.none Vl;have D:=s.set m;refine ak d ?_;refine bp d [0,1,2] Y ?_;refine cI d b λb=>?_;refine oy d (by decide) Y Y _ (fo (cs:=[WQ x.null,.int .i64 x.n,.string x.s]) Y (b.of Y) Tryz.underlying59 Y mW (.inr (.inr Y)) (λO v n=>by
  unfold Ut;rw[m.set];simpa [WI] using n)) ?_
 replace b:=b.put (d:=45) (by decide) (.agg #[WQ x.null,.int .i64 x.n,.string x.s]);refine RO (v:=x.agg) (by decide) Y Y Y (b.of Y) (b.of Y) ?_;replace b:=b.none Vl;have d:=kX (aB T5) T5 S c (r.map aE.agg);refine ak d ?_;refine iK d ?_;refine bp d [0,1] Y ?_;refine dF d b Y (.int .i64 ((i+1:Nat):Int)) (nP (j:=1) Y (b.of Y) Y (by omega)) λb=>?_;refine cI d b λb=>?_;refine ak d ?_;refine kW d ?_;refine E _ M _ ⟨(((b.nil.cons (b.slot 0 _ Y)).cons (b.slot 38 _ Y)).cons (b.slot 39 _ Y)).cons (b.slot 40 _ Y),by simp only[put_defers];exact B,D,.inr ⟨e,y,z,rfl,.inl f,?_,u⟩⟩;rw[m.at_ e (.inr (.inl f)) C,hrel.at_ e (.inr f)];exact q
def Kz{S:Nat->Prop}{c:Nat}{co:Array Bool}{ats:Array Ui}{ty:Ui}{l:List aE}{v:U}(g:l.length<=100000):∀(r:List aE) (i:Nat),l.drop i=r->∀(own:Nat->Prop) (w:F) (a:V7),BF S c [{target:=.builtin .close ats ty co,args:= #[.chan (I c)]}] l v i own w a->
 pJ (aB T5) T5 S c own (r.map aE.agg) (Uh ((baseD 116).at a [.code (pZ VH),.inLoop (pZ VH),.inBlock 0]) [below T5]) w:=by
 intro r
 induction r with
 |nil=>exact λi d own w a b=>NB b (List.drop_eq_nil_iff.1 d)
 |cons n r j=>
  intro i d own w a b;refine GL g b d λk m e f=>j (i+1) ?_ k m e f;have h:i<l.length:=by
   rcases Vz i l.length with b|b
   ·exact b
   ·rw[List.drop_eq_nil_of_le b] at d;cases d
  have:=Wp h;rw[d] at this;exact(List.cons.inj this).2.symm
end Cc
namespace Cc
open Go Go.Conc
open Ec (aE aH sG xE jD eP)
open Rl (mo aT eL ax bf dL)
def pq (s:ByteArray)(k e cn:Int)(vs:List aE):Prop:=
 (∃a:Nat,cn=(a:Int)/\a<=100/\jD cn k e=0/\sG s k e a vs)\/(vs=[]/\(jD cn k e≠0\/∃a:Nat,cn=(a:Int)/\xE s k e a))
def FT{s:ByteArray}{k e:Int}{n:Nat}{l b:List aE}(h:sG s k e n l)(a:sG s k e n b):b=l:=h.IN b a.len a.ok (eP a.eq)
def pq.Sz{s:ByteArray}{k e cn:Int}{vs l:List aE}{n:Nat}(h:pq s k e cn vs)(i:cn=(n:Int))(c:jD cn k e=0)(a:sG s k e n l):vs=l:=by
 rcases h with⟨b,d,_,_,g⟩|⟨rfl,h|⟨b,d,f⟩⟩
 ·have:b=n:=by omega
  subst this;exact FT a g
 ·exact absurd c h
 ·have:b=n:=by omega
  subst this;exact absurd a.eq (f l a.len a.ok)
def pq.Sy{s:ByteArray}{k e cn:Int}{vs:List aE}{n:Nat}(h:pq s k e cn vs)(f:cn=(n:Int))(b:xE s k e n):vs=[]:=by
 rcases h with⟨c,d,_,_,a⟩|⟨rfl,_⟩
 ·have:c=n:=by omega
  subst this;exact absurd a.eq (b vs a.len a.ok)
 ·rfl
def pq.Rk{s:ByteArray}{k e cn:Int}{vs:List aE}(h:pq s k e cn vs)(a:jD cn k e≠0):vs=[]:=by
 rcases h with⟨f,c,_,b,d⟩|⟨rfl,_⟩
 ·exact absurd b a
 ·rfl
def pq.len{s:ByteArray}{k e cn:Int}{vs:List aE}(h:pq s k e cn vs):(vs.length:Int)=cn\/vs=[]:=by
 rcases h with⟨d,a,_,c,b⟩|⟨rfl,_⟩
 ·exact .inl (by rw[b.len,a])
 ·exact .inr Y
def pq.le{s:ByteArray}{k e cn:Int}{vs:List aE}(h:pq s k e cn vs):vs.length<=100:=by
 rcases h with⟨f,c,a,d,b⟩|⟨rfl,_⟩
 ·rw[b.len];exact a
 ·simp
section
variable {G:mo}{σ:aT G}{own:Nat->Prop}{wl w:F}
def Mg:U->Bool
 | .bool _| .int _ _| .string _=>Z
 |_=>T8
def DU{v a:U}(h:ax σ v a)(b:Mg v=Z):a=v:=by
 cases h using ax.ind<;>first|rfl|cases b
def E8(l:List aE):∀x∈aH l,Mg x=Z:=by
 intro x b;obtain⟨v,_,a⟩:=List.mem_flatMap.1 b;simp only[VN,XS,or_false] at a;rcases a with rfl|rfl|rfl<;>rfl
def PV{v r:U}{l:List aE}{base:Nat}(q:ax σ v r)(J:eL σ 0 wl w)(E:∀b b',σ.f b=I b'->own b')(D:wl.ownsRow base 59 3 v l.length (aH l)):Lo own w r l:=by
 obtain⟨K,⟨rfl,B⟩|⟨i,t,f,rfl,_,A,C,_,H,p⟩⟩:=D
 ·cases q using ax.ind;exact .inl ⟨rfl,Wh.1 B⟩
 ·cases q using ax.ind with
  |sl y=>
   rename_i s;obtain⟨e,j,k⟩:=y;obtain⟨d,N,O⟩:=s;simp only at e j k;subst j k;obtain⟨L,M,h,u,x⟩:=J.at_ i d e;rw[A] at h;cases h;cases x using dL.ind with
   |cells m=>
    rename_i g;refine .inr ⟨d,t,g,rfl,E i d e,u,?_⟩;rw[<-p];apply List.ext_getElem?;intro a;rw[V9,V9]
    split
    ·rename_i n;have c:a<f.size:=by
      rw[H];exact Ue n (Nat.mul_le_mul_right 3 C)
     have o:a<g.size:=by rw[<-m.1];exact c
     have F:=m.2 a c o;have z:Mg f[a]=Z:=by
      refine E8 l _ ?_;rw[<-p];refine List.mem_iff_getElem?.2 ⟨a,?_⟩;rw[V9,if_pos n];simp[c]
     have:=DU F z;simp[c,o,this]
    ·rfl
end
def gE (fn:WD):Array Vv:=match fn.body with
 |some (.seq _ (.seq _ (.seq (.region _ a _) _)))=>a
 |_=> #[]
def xk (fn:WD):WX:=match fn.body with
 |some (.seq _ (.seq _ (.seq _ a)))=>a
 |_=>.skip
def cA{P:Ug}{a:V7}{o:Vv}{v:U}{S own:Nat->Prop}{w:F}(h:∀c,(UI a.eval o).run P c= .ok (.value v) c/\(UI a.eval o).events P c #[]=#[]):∀c,RelB (λb=>S b\/own b) w c->(UI a.eval o).run P c= .ok (.value v) c/\∀e∈(UI a.eval o).events P c #[],EvW S own e:=λc _=>⟨(h c).1,λe d=>by rw[(h c).2] at d;simp at d⟩
def KA{S:Nat->Prop}{c:Nat}{co:Array Bool}{ats:Array Ui}{ty:Ui}{vs:List aE}{v:U}{E:Int}{own:Nat->Prop}{w:F}{a:V7}{l0:List (Nat×U)}(b:Knows a 47 ((8,v)::(9,.int .i64 E)::(0,.chan (I c))::l0))(g:a.defers=[{target:=.builtin .close ats ty co,args:= #[.chan (I c)]}])(k:tR S own w)(l:vs.length<=100000)
 (h:(E≠0/\vs=[])\/(E=0/\Lo own w v vs)):pJ (aB T5) T5 S c own (vs.map aE.agg) (Uh ((baseD 116).at a [.code (xk VH)]) [below T5]) w:=by
 have d:=kX (aB T5) T5 S c (vs.map aE.agg);refine aQ d ?_;refine aQ d ?_;refine bp d [0,1] Y ?_;refine cI d b λb=>?_;rcases h with⟨j,rfl⟩|⟨rfl,i⟩
 ·refine dF d b Y (.bool Z) (qL Y (b.of Y) Y (by simpa using j)) λb=>?_;refine ak d ?_;refine dw d Z (b.of Y) ?_;refine pM d ?_;exact IR Y (by simp only[put_defers];exact g) Tryz.func116 Y Y
 ·refine dF d b Y (.bool T8) (qL Y (b.of Y) Y Y) λb=>?_;refine ak d ?_;refine dw d T8 (b.of Y) ?_;refine ij d ?_;refine aQ d ?_;refine bp d [0,1,2] Y ?_;refine cI d b λb=>?_;have m:∃f e,v= .slice f vs.length e:=by
   rcases i with⟨rfl,rfl⟩|⟨o,e,n,rfl,_⟩
   ·exact⟨K,0,rfl⟩
   ·exact⟨_,e,rfl⟩
  obtain⟨f,e,rfl⟩:=m;refine dF d b Y (.int .i64 (vs.length:Int)) (so Y (b.of Y) WA) λb=>?_;refine dF d b Y (.int .i64 ((0:Nat):Int)) (cm Y Y) λb=>?_;refine ak d ?_;refine gC d ?_;refine uf d ?_;exact Kz l vs 0 Y _ w _ ⟨(((b.nil.cons (b.slot 0 _ Y)).cons (b.slot 38 _ Y)).cons (b.slot 39 _ Y)).cons (b.slot 40 _ Y),by simp only[put_defers];exact g,k,i⟩
end Cc
namespace Cc
open Go Go.Conc
open Ec (aE aH sG xE jD pL)
open Rl (mo aT eL ax bf dL)
def o5 (cn:Int)(cb n cap:Nat):U:=.agg #[.int .i64 cn,.slice (I ⟨cb,0,K⟩) n cap]
def o7 (kb b ck eb a ce:Nat)(x:U):U:=.agg #[.slice (I ⟨kb,0,K⟩) b ck,.slice (I ⟨eb,0,K⟩) a ce,x]
structure tT(S:Nat->Prop)(w:F)(s:ByteArray)(k e:Int)(cb n kb nk eb ne col:Nat):Prop where
 sc:S cb
 sk:S kb
 se:S eb
 n:col<n
 nk:col<nk
 ne:col<ne
 cc:w.cell? ⟨cb,0+col*8+0,K⟩=I (.string s)
 ck:w.cell? ⟨kb,0+col*2+1,K⟩=I (.int .i64 k)
 ce:w.cell? ⟨eb,0+col*1,K⟩=I (.int .i64 e)
def tT.rel{S:Nat->Prop}{w w':F}{s:ByteArray}{k e:Int}{cb n kb d eb c col:Nat}(h:tT S w s k e cb n kb d eb c col)(g:∀b,S b->w'.heap[b]? =w.heap[b]?):tT S w' s k e cb n kb d eb c col:=by
 have e:∀(b a:Nat),S b->w'.cell? ⟨b,a,K⟩=w.cell? ⟨b,a,K⟩:=λb a f=>by unfold Ut;rw[g b f]
 exact⟨h.sc,h.sk,h.se,h.n,h.nk,h.ne,(e _ _ h.sc).trans h.cc,(e _ _ h.sk).trans h.ck,(e _ _ h.se).trans h.ce⟩
def IB (b1 b2:Nat)(cn:Int)(cb n cap kb b ck eb a ce col:Nat)(s:ByteArray)(k e:Int):List (Nat×U):=
 [(14,.pointer (I ⟨b1,0+1,K⟩)),(15,.slice (I ⟨cb,0,K⟩) n cap),(16,.int .i64 (col:Int)),(17,.pointer (I ⟨cb,0+col*8,K⟩)),(18,.pointer (I ⟨cb,0+col*8+0,K⟩)),(19,.string s),
  (20,.pointer (I ⟨b2,0+0,K⟩)),(21,.slice (I ⟨kb,0,K⟩) b ck),(22,.int .i64 (col:Int)),(23,.pointer (I ⟨kb,0+col*2,K⟩)),(24,.pointer (I ⟨kb,0+col*2+1,K⟩)),(25,.int .i64 k),
  (26,.pointer (I ⟨b2,0+1,K⟩)),(27,.slice (I ⟨eb,0,K⟩) a ce),(28,.int .i64 (col:Int)),(29,.pointer (I ⟨eb,0+col*1,K⟩)),(30,.int .i64 e),(31,.pointer (I ⟨b1,0+0,K⟩)),(32,.int .i64 cn)]
def L0:List Nat:=[14,15,16,17,18,19,20,21,22,23,24,25,26,27,28,29,30,31,32]
def Nz (u:U)(E:Int):List (Nat×U):=[(33,.tuple #[u,.int .i64 E]),(13,.tuple #[u,.int .i64 E]),(34,u),(35,.int .i64 E),(8,u),(9,.int .i64 E)]
def DK:gF (gE VH) (λi=>decide (i<19)) 19 47 L0=Z:=by kernel_rfl
def L2:gF (gE VH) (λ_=>Z) 25 47 ([33,13,34,35,8,9]++L0)=Z:=by kernel_rfl
def OM:((UL (gE VH).size).all λi=> !(λi=>decide (i<19)) i||match jh (gE VH) i with|some d=> !([33,13,34,35,8,9]:List Nat).contains d|none=>Z)=Z:=by kernel_rfl
def L3:((UL (gE VH).size).all λi=> !(λi=>decide (i<=19)) i||i==19||(under (gE VH) (gE VH).size (match (gE VH)[19]? with
 |some o=>(o.after.toList.filter λe=>Vo .any e).map (·.on)
 |none=>[])).contains i)=Z:=by kernel_rfl
def q8:T5.follows .mixedOrders=Z:=by kernel_rfl
def Oh:(Tryz.f139.name == "runtime.NumGoroutine")=T8:=by kernel_rfl
def R5:(VH.name == "runtime.NumGoroutine")=T8:=by kernel_rfl
def EI{S:Nat->Prop}{c:Nat}{co:Array Bool}{ats:Array Ui}{ty:Ui}{vs:List aE}{u:U}{E:Int}{own:Nat->Prop}{w:F}{a0:V7}{l l0:List (Nat×U)}(m:Knows a0 47 l0)(n:l0.lookup 0=I (.chan (I c)))(v:l.lookup 0=K)(p:a0.defers=[{target:=.builtin .close ats ty co,args:= #[.chan (I c)]}])(r:tR S own w)(s:vs.length<=100000)(x:l.map (·.1)=L0)
 (h:(E≠0/\vs=[])\/(E=0/\Lo own w u vs)) (g t:Nat) (f:Array Bool) (a:V7) (q:cJ (gE VH) (λ_=>Z) a0 (fill a0 (Nz u E++l)) f a) (j:∀i,(λi=>decide (i<=19)) i=Z->f.getD i T8=Z) (y:E6 f<=g):
 pJ (aB T5) T5 S c own (vs.map aE.agg) (Uh ((baseD 116).at a [.inRegion (gE VH) (Va .any (gE VH) g t f []),.code (xk VH)]) [below T5]) w:=by
 have k:=kX (aB T5) T5 S c (vs.map aE.agg);have o:gF (gE VH) (λ_=>Z) 25 47 ((Nz u E++l).map (·.1))=Z:=by
  rw[U1,x];exact L2
 refine kN (Dn:=λi=>decide (i<=19)) (u:=25) k (by decide) m o ?_ ?_ ?_ g t f a q j y
 ·intro b i e _ j B d;have z:19<i:=by simpa using j
  have A:i<25:=(Uc.1 d).1;have:i=20\/i=21\/i=22\/i=23\/i=24:=by omega
  rcases this with rfl|rfl|rfl|rfl|rfl
  ·cases(show I _=I e from d);exact⟨_,rfl,.inl ⟨rfl,cA (cm Y (b.of Y))⟩⟩
  ·cases(show I _=I e from d);exact⟨_,rfl,.inl ⟨rfl,cA (kH Y (b.of Y) Y)⟩⟩
  ·cases(show I _=I e from d);exact⟨_,rfl,.inl ⟨rfl,cA (kH Y (b.of Y) Y)⟩⟩
  ·cases(show I _=I e from d);exact⟨_,rfl,.inl ⟨rfl,cA (kG Y (b.of Y))⟩⟩
  ·cases(show I _=I e from d);exact⟨_,rfl,.inl ⟨rfl,cA (kG Y (b.of Y))⟩⟩
 ·intro e d;exact absurd (Uc.1 d).1 (by decide)
 ·intro _ b;refine ak k ?_;refine KA (l0:=[]) (v:=u) (E:=E) (((b.nil.cons (b.slot 0 _ ?_)).cons (b.slot 9 _ Y)).cons (b.slot 8 _ Y)) (by rw[eA];exact p) r s h;rw[UD,List.lookup_append,List.lookup_append,v,n];rfl
def S6 (s:ByteArray)(k e cn:Int)(w:F)(f:WU)(w':F):Prop:=aP w w'/\
 ((jD cn k e≠0/\f= .returned (.tuple #[aR,.int .i64 (jD cn k e)]))\/
  (∃a:Nat,cn=(a:Int)/\a<=100/\jD cn k e=0/\Ec.bI k e=Z/\((∃v b,f= .returned (.tuple #[v,.int .i64 0])/\w'.ownsRow w.heap.size 59 3 v b.length (aH b)/\sG s k e a b)\/(f= .returned (.tuple #[aR,.int .i64 3])/\xE s k e a))))
def vg{G:mo}{σ:aT G}{u g:U}{E:Int}(h:ax σ (.tuple #[u,.int .i64 E]) g):∃f,g= .tuple #[f,.int .i64 E]/\ax σ u f:=by
 cases h using ax.ind with
 |tuple a e ihz=>
  rename_i k;have c:=e 0 (by simp) (by rw[<-a];simp);have d:=e 1 (by simp) (by rw[<-a];simp);simp only[List.getElem_toArray,List.getElem_cons_zero,List.getElem_cons_succ] at c d;refine⟨k[0]'(by rw[<-a];simp),?_,c⟩;have i:=DU d Y;congr 1;refine Array.ext (a.symm.trans Y) λb l j=>?_;have:b=0\/b=1:=by have:b<2:=j;omega
  rcases this with rfl|rfl
  ·rfl
  ·simpa using i
def Ky{S:Nat->Prop}{c:Nat}{co:Array Bool}{ats:Array Ui}{ty:Ui}{vs:List aE}{own:Nat->Prop}{w:F}{a0:V7}{l0:List (Nat×U)}{s:ByteArray}{k e cn:Int}{b1 b2 cb n cap kb K ck eb J ce col:Nat}(r:pq s k e cn vs)(a1:s.size<=Ur)
 (x:Knows a0 47 l0) (ao:l0.lookup 0=I (.chan (I c))) (B:a0.defers=[{target:=.builtin .close ats ty co,args:= #[.chan (I c)]}]) (am:Hw S own w) (ar:1<=w.heap.size)
 (o:Vv) (q:(gE VH)[19]? =I o) (y t:Nat) (u:Array Bool) (a:V7) (D:cJ (gE VH) (λi=>decide (i<19)) a0 (fill a0 (IB b1 b2 cn cb n cap kb K ck eb J ce col s k e)) u a) (G:19∈U0 .any (gE VH) u) (bb:E6 u<=y+1) (p:∀s'∈o.looksAt (gE VH),aV a s'=aV (fill a0 (IB b1 b2 cn cb n cap kb K ck eb J ce col s k e)) s'):
 pJ (aB T5) T5 S c own (vs.map aE.agg) (Uh ((baseD 116).at a [.inRegion (gE VH) (19::Va .any (gE VH) y t (u.setIfInBounds 19 Z) []),.code (xk VH)]) [below T5]) w:=by
 have al:=kX (aB T5) T5 S c (vs.map aE.agg);cases(show I _=I o from q);have m:=x.fill (IB b1 b2 cn cb n cap kb K ck eb J ce col s k e) Y;have V:a.eval (.tmp 19)= .string s:=(p 19 (by decide)).trans (m.slot 19 _ Y);have W:a.eval (.tmp 25)= .int .i64 k:=(p 25 (by decide)).trans (m.slot 25 _ Y);have X:a.eval (.tmp 30)= .int .i64 e:=(p 30 (by decide)).trans (m.slot 30 _ Y);have aa:a.eval (.tmp 32)= .int .i64 cn:=(p 32 (by decide)).trans (m.slot 32 _ Y);refine H7 al (by decide) q Y Y Tryz.func139 Oh Y ?_;have an:(#[Operand.tmp 19,.tmp 25,.tmp 30,.tmp 32].map a.eval)=#[.string s,.int .i64 k,.int .i64 e,.int .i64 cn]:=by simp only[List.map_toArray,Xy,List.map_nil,V,W,X,aa]
 rw[an];have a5:bf (QF L1) #[.string s,.int .i64 k,.int .i64 e,.int .i64 cn] #[.string s,.int .i64 k,.int .i64 e,.int .i64 cn]:=by
  refine⟨rfl,λi ad a9=>?_⟩;have:i=0\/i=1\/i=2\/i=3:=by have:i<4:=ad;omega
  rcases this with rfl|rfl|rfl|rfl
  ·exact .string _
  ·exact .int _ _
  ·exact .int _ _
  ·exact .int _ _
 refine KY (R:=λf g=>∃L,S6 s k e cn L f g) cW Qj Fc Y (jY Y Y Y).symm a5 (λf g z=>?_) (os:=w.os) (λa8=>(pL s k e cn _ a1).mono λf g z=>⟨_,z⟩) am ar λbi v a7 be Q g A H ae a2 N hrel=>?_
 ·obtain⟨L,_,⟨_,rfl⟩|⟨_,_,_,_,_,⟨_,_,rfl,_⟩|⟨rfl,_⟩⟩⟩:=z<;>exact⟨_,rfl⟩
 ·obtain⟨a8,R,L,ba,A⟩:=A;have a6:∃d b,a7= .tuple #[d,.int .i64 b]/\((b≠0/\vs=[])\/(b=0/\Lo Q g d vs)):=by
   rcases A with⟨P,j⟩|⟨bd,O,_,ab,_,⟨d,bc,j,a3,C⟩|⟨j,C⟩⟩
   ·cases j;obtain⟨l,rfl,_⟩:=vg H;exact⟨l,_,rfl,.inl ⟨P,r.Rk P⟩⟩
   ·cases j;obtain⟨l,rfl,a4⟩:=vg H;have T:=r.Sz O ab C;subst T;exact⟨l,_,rfl,.inr ⟨rfl,PV a4 ae a2 a3⟩⟩
   ·cases j;obtain⟨l,rfl,_⟩:=vg H;exact⟨l,_,rfl,.inl ⟨by decide,r.Sy O C⟩⟩
  obtain⟨d,b,rfl,aw⟩:=a6;rw[XI,q];have ap:=D.Ig (l2:=Nz d b) (Lc:=λ_=>Z) (n:=47) (v:=.tuple #[d,.int .i64 b]) G q x.size DK Y (λ_ _=>rfl) Y OM (λR B=>by cases B;rfl);have av:tR S Q g:=λM h=>by
   rcases h with h|h
   ·exact(N.sh M h).1
   ·exact N.bd M h
  refine EI x ao Y B av (Uz r.le (by decide)) Y aw y t _ _ ap (gH D G L3 (λi E=>by
   have:i<=19:=by simpa using E
   show i<25;omega)) ?_
  obtain⟨_,_,E,az,_⟩:=mem_ready G;have:=qZ (by rw[D.size];exact E) az;omega
end Cc
namespace Cc
open Go Go.Conc
open Ec (aE)
def TM(v0 v1 v2 a:U)(m:Nat)(f:4<=m):Knows ⟨#[v0,v1,v2,a]++U4 (m-4) Vl,[]⟩ m [(0,v0),(1,v1),(2,v2),(3,a)]:=by
 have b:∀c v,(#[v0,v1,v2,a]:Array U)[c]? =I v->aV ⟨#[v0,v1,v2,a]++U4 (m-4) Vl,[]⟩ c=v:=λc v d=>by
  unfold aV;rw[UE,Array.getElem?_append_left (Uc.1 d).1,d];rfl
 refine Knows.cons (Knows.cons (Knows.cons (Knows.cons (l:=[]) ⟨?_,λs v e=>by simp at e⟩ (b 3 a Y)) (b 2 v2 Y)) (b 1 v1 Y)) (b 0 v0 Y);simp;omega
def EJ{S:Nat->Prop}{c:Nat}{co:Array Bool}{ats:Array Ui}{ty:Ui}{vs:List aE}{own:Nat->Prop}{w:F}{a0:V7}{s:ByteArray}{k e cn:Int}{b1 b2 cb n cap kb i ck eb h ce col:Nat}{x:U}{l0:List (Nat×U)}(J:pq s k e cn vs)(D:s.size<=Ur)
 (l:Knows a0 47 ((0,.chan (I c))::(3,.int .i64 (col:Int))::(5,(bS b1))::(6,(bS b2))::l0)) (z:a0.defers=[{target:=.builtin .close ats ty co,args:= #[.chan (I c)]}]) (y:Hw S own w) (B:1<=w.heap.size)
 (h1:own b1) (p:own b2) (L:w.heap[b1]? =I (.cells #[.int .i64 cn,.slice (I ⟨cb,0,K⟩) n cap] 139 (0,0))) (M:w.heap[b2]? =I (.cells #[.slice (I ⟨kb,0,K⟩) i ck,.slice (I ⟨eb,0,K⟩) h ce,x] 105 (0,0))) (g:tT S w s k e cb n kb i eb h col):
 pJ (aB T5) T5 S c own (vs.map aE.agg) (Uh ((baseD 116).at a0 [.code (.region 2 (gE VH) Z),.code (xk VH)]) [below T5]) w:=by
 have q:=kX (aB T5) T5 S c (vs.map aE.agg);have m:∀a v,(#[VZ .i64 cn,.slice (I ⟨cb,0,K⟩) n cap]:Array U)[a]? =I v->w.cell? ⟨b1,a,K⟩=I v:=λa v j=>by unfold Ut;simp only[L];exact j
 have o:∀a v,(#[Vc (I ⟨kb,0,K⟩) i ck,.slice (I ⟨eb,0,K⟩) h ce,x]:Array U)[a]? =I v->w.cell? ⟨b2,a,K⟩=I v:=λa v j=>by unfold Ut;simp only[M];exact j
 refine qD (Ph:=λd=>decide (d<19)) (l:=IB b1 b2 cn cb n cap kb i ck eb h ce col s k e) q q8 ?_;refine kN (u:=19) q (by decide) l DK ?_ ?_ ?_
 ·intro b d a G _ _ f;have P:d<19:=by simpa using G
  have:d=0\/d=1\/d=2\/d=3\/d=4\/d=5\/d=6\/d=7\/d=8\/d=9\/d=10\/d=11\/d=12\/d=13\/d=14\/d=15\/d=16\/d=17\/d=18:=by omega
  rcases this with rfl|rfl|rfl|rfl|rfl|rfl|rfl|rfl|rfl|rfl|rfl|rfl|rfl|rfl|rfl|rfl|rfl|rfl|rfl
  ·cases(show I _=I a from f);exact⟨_,rfl,.inl ⟨rfl,cA (dm Y (b.of Y) V8 Y Tryz.sizeOf137 Y)⟩⟩
  ·cases(show I _=I a from f);exact⟨_,rfl,.inl ⟨rfl,b7 Y (b.of Y) Tryz.isAgg137 (.inr h1) (m 1 _ Y)⟩⟩
  ·cases(show I _=I a from f);exact⟨_,rfl,.inl ⟨rfl,cA (cm Y (b.of Y))⟩⟩
  ·cases(show I _=I a from f);exact⟨_,rfl,.inl ⟨rfl,cA (fI Y (b.of Y) (b.of Y) Tryz.underlying137 Tryz.sizeOf143 g.n)⟩⟩
  ·cases(show I _=I a from f);exact⟨_,rfl,.inl ⟨rfl,cA (dm Y (b.of Y) Tryz.underlying143 Y Tryz.sizeOf9 Y)⟩⟩
  ·cases(show I _=I a from f);exact⟨_,rfl,.inl ⟨rfl,b7 Y (b.of Y) Tryz.isAgg9 (.inl g.sc) g.cc⟩⟩
  ·cases(show I _=I a from f);exact⟨_,rfl,.inl ⟨rfl,cA (dm Y (b.of Y) Tryz.underlying105 Y Tryz.sizeOf44 Y)⟩⟩
  ·cases(show I _=I a from f);exact⟨_,rfl,.inl ⟨rfl,b7 Y (b.of Y) Tryz.isAgg44 (.inr p) (o 0 _ Y)⟩⟩
  ·cases(show I _=I a from f);exact⟨_,rfl,.inl ⟨rfl,cA (cm Y (b.of Y))⟩⟩
  ·cases(show I _=I a from f);exact⟨_,rfl,.inl ⟨rfl,cA (fI Y (b.of Y) (b.of Y) Tryz.underlying44 Tryz.sizeOf63 g.nk)⟩⟩
  ·cases(show I _=I a from f);exact⟨_,rfl,.inl ⟨rfl,cA (dm Y (b.of Y) Tryz.underlying63 Y X6 Y)⟩⟩
  ·cases(show I _=I a from f);exact⟨_,rfl,.inl ⟨rfl,b7 Y (b.of Y) Yw (.inl g.sk) g.ck⟩⟩
  ·cases(show I _=I a from f);exact⟨_,rfl,.inl ⟨rfl,cA (dm Y (b.of Y) Tryz.underlying105 Y Tryz.sizeOf22 Y)⟩⟩
  ·cases(show I _=I a from f);exact⟨_,rfl,.inl ⟨rfl,b7 Y (b.of Y) Tryz.isAgg22 (.inr p) (o 1 _ Y)⟩⟩
  ·cases(show I _=I a from f);exact⟨_,rfl,.inl ⟨rfl,cA (cm Y (b.of Y))⟩⟩
  ·cases(show I _=I a from f);exact⟨_,rfl,.inl ⟨rfl,cA (fI Y (b.of Y) (b.of Y) Tryz.underlying22 X6 g.ne)⟩⟩
  ·cases(show I _=I a from f);exact⟨_,rfl,.inl ⟨rfl,b7 Y (b.of Y) Yw (.inl g.se) g.ce⟩⟩
  ·cases(show I _=I a from f);exact⟨_,rfl,.inl ⟨rfl,cA (dm Y (b.of Y) V8 Y X6 Y)⟩⟩
  ·cases(show I _=I a from f);exact⟨_,rfl,.inl ⟨rfl,b7 Y (b.of Y) Yw (.inr h1) (m 0 _ Y)⟩⟩
 ·intro a f t O N r A H E C _;exact Ky J D l Y z y B a f t O N r A H E C
 ·intro u;exact absurd (u 24 (by decide)) (by decide)
def NA{S:Nat->Prop}{c:Nat}{vs:List aE}{w:F}{s:ByteArray}{k e cn:Int}{cb n cap kb h ck eb g ce col:Nat}{x:U}(E:pq s k e cn vs)(C:s.size<=Ur)(m:Hw S (λ_=>False) w)(B:tT S w s k e cb n kb h eb g col):
 pJ (aB T5) T5 S c (λ_=>False) (vs.map aE.agg) (born T5 (dcall 116 #[.chan (I c),o5 cn cb n cap,o7 kb h ck eb g ce x,.int .i64 (col:Int)])) w:=by
 have a:=kX (aB T5) T5 S c (vs.map aE.agg);refine Ob Tryz.func116 R5 Y ?_;have b:=TM (.chan (I c)) (o5 cn cb n cap) (o7 kb h ck eb g ce x) (.int .i64 (col:Int)) 47 (by decide);have o:tR S (λ_=>False) w:=λd f=>f.elim (λu=>(m.sh d u).1) Yr;refine aQ a ?_;refine bp a [0,1] Y ?_;refine mC a o (by decide) Y Y (.cells #[.int .i64 cn,.slice (I ⟨cb,0,K⟩) n cap] 139) trivial (λn=>(bS n)) (uF (v:=o5 cn cb n cap) Y (b.of Y)) λi J z G D v=>?_;replace b:=b.put (d:=5) (by decide) (bS i);have p:=o.new z G;refine mC a p (by decide) Y Y (.cells #[.slice (I ⟨kb,0,K⟩) h ck,.slice (I ⟨eb,0,K⟩) g ce,x] 105) trivial (λn=>(bS n)) (uF (v:=o7 kb h ck eb g ce x) Y (b.of Y)) λl L A H r y=>?_;replace b:=b.put (d:=6) (by decide) (bS l);have q:=p.new A H;refine ak a ?_;refine aQ a ?_;refine bp a [0,1] Y ?_;refine cI a b λb=>?_;refine Ox a (by decide) Y Y Y (b.of Y) λt=>?_;refine ak a ?_;refine aQ a ?_;refine EJ (b1:=i) (b2:=l) (cap:=cap) (ck:=ck) (ce:=ce) (l0:=[]) (col:=col) (x:=x) (ats:= #[212]) (ty:=0) (co:=t) E C ?_ (by simp only[put_defers];rfl) ?_ (by omega) (.inl (.inr rfl)) (.inr rfl) ?_ y (B.rel λd f=>?_)
 ·exact(Knows.defer b _ Vl).four Y Y Y Y
 ·refine⟨λd f=>⟨q d (.inl f),λj=>?_⟩,λd f=>q d (.inr f)⟩;have:=(m.sh d f).1;rcases j with(j|rfl)|rfl
  ·exact j
  ·omega
  ·omega
 ·rw[r.at_ i (.inr (.inr Y))];exact v
 ·rw[r.at_ d (.inl f),D.at_ d (.inl f)]
end Cc
namespace Cc
open Go Go.Conc
open Ec (aE aH)
def xB:∃i,T5.info? 59=I i/\i.zero=I (.agg #[.bool T8,.int .i64 0,.string ⟨#[]⟩])/\i.size=3/\i.bytes=32:=⟨Tryz.t59,by kernel_rfl,rfl,rfl,rfl⟩
def Fg(w:F):(Wo 59).events T5 w #[]=#[]:=by
 obtain⟨e,b,d,_⟩:=xB;simp[Wo,typeInfo,b,d]
def eY(l:List aE)(x:aE):aH (l++[x])=aH l++[.bool x.null,.int .i64 x.n,.string x.s]:=by simp[aH]
structure Row(w:F)(g N:Nat)(pre:List aE):Prop where
 ex:∃cur,w.heap[g]? =I (.cells cur 59 (0,0))/\cur.size=N*3/\cur.toList.take (pre.length*3)=aH pre
 le:pre.length<=N
def Row.same{w w':F}{g N:Nat}{pre:List aE}(h:Row w g N pre)(f:w'.heap[g]? =w.heap[g]?):Row w' g N pre:=by
 obtain⟨b,d,e⟩:=h.ex;exact⟨⟨b,f.trans d,e⟩,h.le⟩
def dx (fn:WD):WX:=match fn.body with
 |some (.seq _ (.seq _ (.seq (.seq _ (.block _ (.loop c))) _)))=>c
 |_=>.skip
def gW (fn:WD):WX:=match fn.body with
 |some (.seq _ (.seq _ (.seq _ c)))=>c
 |_=>.skip
structure BC(S O:Nat->Prop)(c g N:Nat)(pre:List aE)(w:F)(a:V7):Prop where
 kn:Knows a 18 [(9,.chan (I c)),(5,.slice (I ⟨g,0,K⟩) pre.length N)]
 df:a.defers=[]
 inr:tR S O w
 own:O g
 row:Row w g N pre
section
variable {Post:U->F->Prop}{S O:Nat->Prop}{μ:Nat->Option (List U)}{c g N:Nat}{pre:List aE}{w:F}{a:V7}{cs:List Uu}{b0:Uu}{a0:V7}{k0:List WO}{Cf:Array Vv}{i0:Nat}{Bc:List Nat}{o0:Vv}
def LP(h:BC S O c g N pre w a)(k:μ c=I [])(j:Cf[i0]? =I o0)
 (i:kw (aB T5) T5 Post S O (gh μ c K) (Uh (b0.at (a0.put o0.dst (.slice (I ⟨g,0,K⟩) pre.length N)) (.inRegion Cf Bc::k0)) cs) w):
 kw (aB T5) T5 Post S O μ (Uh ((base 117).at a [.code (dx XR),.inLoop (dx XR),.inBlock 0,.code (gW XR)]) (b0.at a0 (.inRegion Cf (i0::Bc)::k0)::cs)) w:=by
 obtain⟨d,f,m,l,n⟩:=h;have b:=dU (aB T5) T5 Post S μ;refine aQ b ?_;refine bp b [0,1] Y ?_;refine Rh (by decide) Y Y Y Tryz.underlying215 Tryz.zeroValue59 Fg (d.of Y) k ?_;replace d:=d.put (d:=10) (by decide) (.tuple #[.agg #[.bool T8,.int .i64 0,.string ⟨#[]⟩],.bool T8]);have b:=dU (aB T5) T5 Post S (gh μ c K);refine rj b d λd=>?_;refine ak b ?_;refine aQ b ?_;refine dw b T8 (d.of Y) ?_;refine ue b (k':=[.code (gW XR)]) Y ?_;refine aQ b ?_;refine bp b [0,1] Y ?_;refine cI b d λd=>?_;refine gY b d λd=>?_;refine ak b ?_;refine pM b ?_;have e:=j7 (P:=T5) Tryz.results117 (d.slot 4 _ Y);exact Oz b Y (by simp only[put_defers];exact f) Tryz.func117 e.1 e.2 j i
def FL{x:aE}{r:List aE}(h:BC S O c g N pre w a)(av:μ c=I ((x::r).map aE.agg))(Q:pre.length<N)(R:N<=1000000)
 (ae:∀o w' a',BC S o c g N (pre++[x]) w' a'->(∀b,O b->o b)->(∀b,o b->O b\/w.heap.size<=b)->(∀b,S b\/O b->b≠g->w'.heap[b]? =w.heap[b]?)->w.heap.size<=w'.heap.size->w'.tape=w.tape->w'.os=w.os->w'.output=w.output->kw (aB T5) T5 Post S o (gh μ c (I (r.map aE.agg))) (Uh ((base 117).at a' [.code (dx XR),.inLoop (dx XR),.inBlock 0,.code (gW XR)]) cs) w'):
 kw (aB T5) T5 Post S O μ (Uh ((base 117).at a [.code (dx XR),.inLoop (dx XR),.inBlock 0,.code (gW XR)]) cs) w:=by
 obtain⟨d,aa,s,j,am⟩:=h;obtain⟨⟨p,X,q,ap⟩,a2⟩:=am;obtain⟨H,E,G,n,W⟩:=xB;have e:=dU (aB T5) T5 Post S μ;refine aQ e ?_;refine bp e [0,1] Y ?_;refine Rg (v:=x.agg) (by decide) Y Y Y Tryz.underlying215 Tryz.zeroValue59 Fg (d.of Y) av ?_;replace d:=d.put (d:=10) (by decide) (.tuple #[.agg (iG x),.bool Z]);have e:=dU (aB T5) T5 Post S (gh μ c (I (r.map aE.agg)));refine rj e d λd=>?_;refine ak e ?_;refine aQ e ?_;refine dw e Z (d.of Y) ?_;refine ij e ?_;refine gC e ?_;refine aQ e ?_;refine bp e [0,1,2] Y ?_;refine rj e d λd=>?_;refine mC e s (by decide) Y Y (.cells #[.bool T8,.int .i64 0,.string ⟨#[]⟩] 59) trivial (λy=>(bS y)) (tc Y Tryz.zeroValue59) λJ a5 F an hrel T=>?_;replace d:=d.put (d:=6) (by decide) (bS J);have B:=s.new F an;refine sb e B (by decide) Y Y (.inr Y) (.cells (iG x) 59) trivial (k7 (n:=J) (off:=0) (v:=.agg #[WQ x.null,.int .i64 x.n,.string x.s]) Y (d.of Y) (d.of Y) mW (λc m=>by simp[WI] at m;rcases m with rfl|rfl|rfl<;>rfl) (Or.inr (Or.inr rfl)) T (T9 3)) λaw i=>?_;replace d:=d.none Vl;have C:=B.set i;refine ak e ?_;refine bp e [0,1,2,3,4] Y ?_;refine cI e d λd=>?_;refine oy e (by decide) Y Y _ (fo (cs:=[WQ x.null,.int .i64 x.n,.string x.s]) Y (d.of Y) Tryz.underlying59 Y mW (.inr (.inr Y)) (λt v ar=>by
  unfold Ut;rw[i.set];simpa [WI] using ar)) ?_
 replace d:=d.put (d:=14) (by decide) (.agg #[WQ x.null,.int .i64 x.n,.string x.s]);refine mC e C (by decide) Y Y (.cells (iG x) 59) trivial (λy=>.slice (I ⟨y,0,K⟩) 1 1) (JZ (v0:=.bool x.null) (v1:=.int .i64 x.n) (v2:=.string x.s) Y (d.of Y) WA E G n) λz A al ao l U=>?_;replace d:=d.put (d:=15) (by decide) (.slice (I ⟨z,0,K⟩) 1 1);have D:=C.new al ao;have a1:=s g (.inr j);have M:aw.heap[g]? =I (.cells p 59 (0,0)):=by
  rw[i.at_ g (.inr (.inl j)) (by omega),hrel.at_ g (.inr j)];exact X
 have P:A.heap[g]? =I (.cells p 59 (0,0)):=(l.at_ g (.inr (.inl j))).trans M;refine Q3 e D (n:=g) (by decide) Y Y (.inl (.inl j)) (.cells (p.toList.take (pre.length*H.size)++[WQ x.null,.int .i64 x.n,.string x.s]++p.toList.drop (pre.length*H.size+3)).toArray 59 (0,0)) trivial (.slice (I ⟨g,0,K⟩) (pre.length+1) N) (JY (news:=[WQ x.null,.int .i64 x.n,.string x.s]) Y (d.of Y) (d.of Y) WA E G P (.inr (.inl (.inl j))) (.inr (.inr Y)) (by rw[n];rfl) (λt a4 ad=>by
  have L:A.cell? (Addr.add ⟨z,0,K⟩ t)=A.cell? ⟨z,0+t,K⟩:=by rw[Xf]
  rw[L];unfold Ut;rw[U,UU];simpa using ad) (λt=>by rw[Xf]) (λc m=>by simp at m;rcases m with rfl|rfl|rfl<;>rfl) (by omega) (by rw[q,n]) R (by rw[W];decide)) λaz k=>?_
 replace d:=d.put (d:=16) (by decide) (.slice (I ⟨g,0,K⟩) (pre.length+1) N);have ab:=D.set k;refine gY e d λd=>?_;refine ak e ?_;refine iK e ?_;refine kW e ?_;have u:(pre++[x]).length=pre.length+1:=by simp
 refine ae _ az _ ⟨?_,by simp only[put_defers];exact aa,ab,.inl (.inl j),⟨⟨_,k.set,?_,?_⟩,by rw[u];exact Q⟩⟩ (λb f=>.inl (.inl f)) (λb f=>?_) (λb f V=>?_) ?_ ?_ ?_ ?_
 ·rw[u];exact(d.nil.cons (d.slot 5 _ Y)).cons (d.slot 9 _ Y)
 ·rw[n] at*;simp[q];omega
 ·rw[n,u,eY,<-ap,Nat.add_mul];rw[List.take_append_of_le_length (by simp[q];omega)];rw[UP (by simp[q];omega)]
 ·rcases f with(f|rfl)|rfl
  ·exact .inl f
  ·exact .inr F
  ·have:=i.size;have:=hrel.size;exact .inr (by omega)
 ·have a3:=s b f;rw[k.at_ b (f.imp (λh=>h) (λh=>.inl (.inl h))) V,l.at_ b (f.imp (λh=>h) (λh=>.inl h)),i.at_ b (f.imp (λh=>h) (λh=>.inl h)) (by omega),hrel.at_ b f]
 ·have:=hrel.size;have:=i.size;have:=l.size;have:=k.size;omega
 ·rw[k.tape,l.tape,i.tape,hrel.tape]
 ·rw[k.os,l.os,i.os,hrel.os]
 ·rw[k.output,l.output,i.output,hrel.output]
def KV(μ:Nat->Option (List U))(c:Nat)(x y:Option (List U)):gh (gh μ c x) c y=gh μ c y:=by
 funext b;unfold gh
 split<;>rfl
structure QM(S O O':Nat->Prop)(g:Nat)(w w':F):Prop where
 sub:∀b,O b->O' b
 new:∀b,O' b->O b\/w.heap.size<=b
 at_:∀b,S b\/O b->b≠g->w'.heap[b]? =w.heap[b]?
 size:w.heap.size<=w'.heap.size
 tape:w'.tape=w.tape
 os:w'.os=w.os
 output:w'.output=w.output
def Jh(z:Cf[i0]? =I o0)(v:N<=1000000):∀(r:List aE) (pre:List aE) (O:Nat->Prop) (w:F) (a:V7) (μ:Nat->Option (List U)),BC S O c g N pre w a->μ c=I (r.map aE.agg)->pre.length+r.length<=N->
 (∀h w',Row w' g N (pre++r)->h g->tR S h w'->QM S O h g w w'->kw (aB T5) T5 Post S h (gh μ c K) (Uh (b0.at (a0.put o0.dst (.slice (I ⟨g,0,K⟩) (pre++r).length N)) (.inRegion Cf Bc::k0)) cs) w')->
 kw (aB T5) T5 Post S O μ (Uh ((base 117).at a [.code (dx XR),.inLoop (dx XR),.inBlock 0,.code (gW XR)]) (b0.at a0 (.inRegion Cf (i0::Bc)::k0)::cs)) w:=by
 intro r
 induction r with
 |nil=>
  intro pre O w a μ b j l i;refine LP b j z ?_;have:=i O w (by rw[Ws];exact b.row) b.own b.inr ⟨λ_ b=>b,λ_ b=>.inl b,λ_ _ _=>rfl,T9 _,rfl,rfl,rfl⟩;rw[Ws] at this;exact this
 |cons k r A=>
  intro pre O w a μ b j l i;simp only[VJ] at l;refine FL b j (by omega) v λh w' s u o B C p D E G=>?_;refine A (pre++[k]) h w' s _ u (by unfold gh;simp) (by simp;omega) λq H n x y f=>?_;rw[KV];have t:pre++[k]++r=pre++k::r:=by simp
  rw[t] at n ⊢;exact i q H n x y ⟨λd e=>f.sub d (o d e),λd e=>(f.new d e).elim (B d) (λe=>.inr (Uz p e)),λd e m=>(f.at_ d (e.imp (λb=>b) (o d)) m).trans (C d e m),Uz p f.size,f.tape.trans D,f.os.trans E,f.output.trans G⟩
def Tc(v0 v1:U)(m:Nat)(h:2<=m):Knows ⟨#[v0,v1]++U4 (m-2) Vl,[]⟩ m [(0,v0),(1,v1)]:=by
 have e:∀b v,(#[v0,v1]:Array U)[b]? =I v->aV ⟨#[v0,v1]++U4 (m-2) Vl,[]⟩ b=v:=λb v d=>by
  unfold aV;rw[UE,Array.getElem?_append_left (Uc.1 d).1,d];rfl
 refine Knows.cons (Knows.cons (l:=[]) ⟨?_,λs v f=>by simp at f⟩ (e 1 v1 Y)) (e 0 v0 Y);simp;omega
def LO{r:List aE}(v:Cf[i0]? =I o0)(k:tR S O w)(C:μ c=I (r.map aE.agg))(x:r.length<=N)(m:N<=1000000)
 (u:∀j w' g,w.heap.size<=g->Row w' g N r->j g->Lj S O j w w'->kw (aB T5) T5 Post S j (gh μ c K) (Uh (b0.at (a0.put o0.dst (.slice (I ⟨g,0,K⟩) r.length N)) (.inRegion Cf Bc::k0)) cs) w'):
 kw (aB T5) T5 Post S O μ (Uh (UZ T5 117 #[.chan (I c),.int .i64 (N:Int)] .normal) (b0.at a0 (.inRegion Cf (i0::Bc)::k0)::cs)) w:=by
 have b:=dU (aB T5) T5 Post S μ;obtain⟨D,s,B,z,o⟩:=xB;rw[enter_at _ Tryz.func117 Y];have d:=Tc (.chan (I c)) (.int .i64 (N:Int)) 18 (by decide);refine aQ b ?_;refine bp b [0] Y ?_;refine m6 b d aR λd=>?_;refine ak b ?_;refine aQ b ?_;refine bp b [0,1,2] Y ?_;refine cI b d λd=>?_;refine mC b k (by decide) Y Y (.cells (madeCells (Value.agg #[.bool T8,.int .i64 0,.string ⟨#[]⟩]).cells (N*D.size)) 59) trivial (λE=>.slice (I ⟨E,0,K⟩) 0 N) (Cd (L:=0) Y Y (d.of Y) WA s B (UF _) (by rw[o];omega) (by omega)) λg F l A hrel n=>?_;replace d:=d.put (d:=8) (by decide) (.slice (I ⟨g,0,K⟩) 0 N);refine gY b d λd=>?_;refine ak b ?_;refine aQ b ?_;refine aQ b ?_;refine bp b [0] Y ?_;refine cI b d λd=>?_;refine ak b ?_;refine gC b ?_;refine uf b ?_;have q:=k.new l A;refine Jh (g:=g) (N:=N) v m r [] _ F _ μ ⟨(d.nil.cons (d.slot 5 _ Y)).cons (d.slot 9 _ Y),by simp only[put_defers],q,.inr Y,⟨⟨_,n,by rw[size_madeCells,z],rfl⟩,UF _⟩⟩ C (by simpa using x) λj w' y p t i=>?_;refine u j w' g l y p ⟨λe f=>i.sub e (.inl f),λe f=>?_,⟨λe f=>?_,?_,i.tape.trans hrel.tape,i.os.trans hrel.os,i.output.trans hrel.output⟩,t⟩
 ·rcases i.new e f with(h|rfl)|h
  ·exact .inl h
  ·exact .inr l
  ·exact .inr (Uz hrel.size h)
 ·have:=k e f;rw[i.at_ e (f.imp (λh=>h) (λh=>.inl h)) (by omega),hrel.at_ e f]
 ·exact Uz hrel.size i.size
end
end Cc
namespace Cc
open Go Go.Conc
open Ec (aE aH)
open Go.RowKit (Below)
structure Fl(S:Nat->Prop)(w0:F)(s:Nat->ByteArray)(k e:Nat->Int)(N cb n kb nk eb ne wb:Nat)(ws:List Bool)(V:Nat->List aE):Prop where
 sz:∀b,S b->b<w0.heap.size
 sin:∀j,ws[j]? =I Z->tT S w0 (s j) (k j) (e j) cb n kb nk eb ne j/\(s j).size<=Ur/\pq (s j) (k j) (e j) (N:Int) (V j)
 wl:wb<w0.heap.size
 wc:∀j y,ws[j]? =I y->w0.cell? ⟨wb,0+j*1,K⟩=I (.bool y)
 nn:N<=1000000
 mm:ws.length<=1000000
 pos:1<=w0.heap.size
def eF (ws:List Bool)(ch:Nat->Nat)(i:Nat):List U:=(UL ws.length).map λb=>if b<i/\ws[b]? =I Z then .chan (I (ch b)) else .chan K
def dS(ws:List Bool)(ch:Nat->Nat)(i:Nat):(eF ws ch i).length=ws.length:=by simp[eF]
def mF{ws:List Bool}{ch:Nat->Nat}{i j:Nat}(b:j<ws.length):(eF ws ch i)[j]? =I (if j<i/\ws[j]? =I Z then .chan (I (ch j)) else .chan K):=by
 simp[eF,b]
structure rf(S O:Nat->Prop)(w0 w:F)(N cb n cap kb nk ck eb ne ce:Nat)(x:U)(bb fb:Nat):Prop where
 HJ:aP w0 w
 low:∀b,b<w0.heap.size->S b\/O b
 inr:tR S O w
 rm:∀b,S b->¬O b
 ob:O bb
 of:O fb
 lb:w0.heap.size<=bb
 lf:w0.heap.size<=fb
 hb:w.heap[bb]? =I (.cells #[.int .i64 (N:Int),.slice (I ⟨cb,0,K⟩) n cap] 139 (0,0))
 hf:w.heap[fb]? =I (.cells #[.slice (I ⟨kb,0,K⟩) nk ck,.slice (I ⟨eb,0,K⟩) ne ce,x] 105 (0,0))
structure Sa(O:Nat->Prop)(w:F)(ws:List Bool)(V:Nat->List aE)(ch:Nat->Nat)(p q:Nat)(μ:Nat->Option (List U)):Prop where
 mu:∀j,p<=j->j<q->ws[j]? =I Z->μ (ch j)=I ((V j).map aE.agg)
 no:∀c,μ c≠K->∃j,p<=j/\j<q/\ws[j]? =I Z/\ch j=c
 inj:∀j j',j<q->j'<q->ws[j]? =I Z->ws[j']? =I Z->ch j=ch j'->j=j'
 lt:∀j,j<q->ws[j]? =I Z->ch j<w.heap.size
section
variable {S O:Nat->Prop}{w0 w w':F}{s:Nat->ByteArray}{k e:Nat->Int}{N cb n cap kb nk ck eb ne ce wb gV:Nat}{x:U}{ws:List Bool}{V:Nat->List aE}{ch:Nat->Nat}{bb fb cT i:Nat}{μ:Nat->Option (List U)}{a:V7}{Post:U->F->Prop}{cs:List Uu}
def rf.rel(h:rf S O w0 w N cb n cap kb nk ck eb ne ce x bb fb){d:Nat->Prop}(g:∀b,S b\/O b->w0.heap.size<=b->(b=bb\/b=fb)->w'.heap[b]? =w.heap[b]?)(m:∀b,b<w0.heap.size->w'.heap[b]? =w.heap[b]?)(q:w.heap.size<=w'.heap.size)(r:w'.tape=w.tape)(o:w'.os=w.os)(p:w'.output=w.output)(l:tR S d w')(f:∀b,O b->b<w0.heap.size\/b=bb\/b=fb->d b)(j:∀b,S b->¬d b):rf S d w0 w' N cb n cap kb nk ck eb ne ce x bb fb:=
 ⟨⟨o.trans h.HJ.os,r.trans h.HJ.tape,p.trans h.HJ.output,Uz h.HJ.size q,λb c=>(m b c).trans (h.HJ.block b c)⟩,λb c=>(h.low b c).imp (λh=>h) (λh=>f b h (.inl c)),l,j,f bb h.ob (.inr (.inl Y)),f fb h.of (.inr (.inr Y)),h.lb,h.lf,(g bb (.inr h.ob) h.lb (.inl Y)).trans h.hb,(g fb (.inr h.of) h.lf (.inr Y)).trans h.hf⟩
def rf.new(h:rf S O w0 w N cb n cap kb nk ck eb ne ce x bb fb){f:Nat}(g:w.heap.size<=f)(l:w'.heap.size=f+1)(d:RelB (λb=>S b\/O b) w w'):rf S (λb=>O b\/b=f) w0 w' N cb n cap kb nk ck eb ne ce x bb fb:=
 h.rel (λb c _ _=>d.at_ b c) (λb c=>d.at_ b (h.low b c)) d.size d.tape d.os d.output (h.inr.new g l) (λb c _=>.inl c) (λb c j=>j.elim (h.rm b c) (λe=>by have:=h.inr b (.inl c);omega))
def rf.set(h:rf S O w0 w N cb n cap kb nk ck eb ne ce x bb fb){f:Nat}{l:Obj}(b:zX S O f l w w')(h1:f≠bb)(g:f≠fb)(m:w0.heap.size<=f):rf S O w0 w' N cb n cap kb nk ck eb ne ce x bb fb:=
 h.rel (λc d _ j=>b.at_ c d (by rcases j with rfl|rfl;exact λe=>h1 e.symm;exact λe=>g e.symm)) (λc d=>b.at_ c (h.low c d) (by omega)) b.size b.tape b.os b.output (h.inr.set b) (λc d _=>d) h.rm
end
def AV (fn:WD):Array Vv:=match dx fn with
 | .seq _ (.seq _ (.seq (.block _ (.seq _ (.seq _ (.cond _ (.seq _ (.region _ b _)) _)))) _))=>b
 |_=> #[]
def S9 (cT fb bb i c N cb n cap kb nk ck eb ne ce m:Nat)(x:U):List (Nat×U):=
 [(29,.slice (I ⟨cT,0,K⟩) m m),(30,.int .i64 (i:Int)),(31,.pointer (I ⟨cT,0+i*1,K⟩)),(32,.chan (I c)),(33,o5 (N:Int) cb n cap),(34,o7 kb nk ck eb ne ce x),(35,.int .i64 (i:Int))]
def S8:List Nat:=[29,30,31,32,33,34,35]
def Ie:gF (AV U3) (λi=>decide (i<7)) 7 73 S8=Z:=by kernel_rfl
def OX:((UL (AV U3).size).all λi=> !(λi=>decide (i<=7)) i||i==7||(under (AV U3) (AV U3).size (match (AV U3)[7]? with
 |some o=>(o.after.toList.filter λe=>Vo .any e).map (·.on)
 |none=>[])).contains i)=Z:=by kernel_rfl
def nX:(T5.info? 139).map (·.size)=I 2:=by kernel_rfl
def AT:(T5.info? 105).map (·.size)=I 3:=by kernel_rfl
def Je:(T5.info? 193).map (·.size)=I 1:=by kernel_rfl
section
variable {S O:Nat->Prop}{w0 w w':F}{s:Nat->ByteArray}{k e:Nat->Int}{N cb n cap kb nk ck eb ne ce wb gV:Nat}{x:U}{ws:List Bool}{V:Nat->List aE}{ch:Nat->Nat}{bb fb cT i:Nat}{μ:Nat->Option (List U)}{a:V7}{Post:U->F->Prop}{cs:List Uu}
structure IW(S O:Nat->Prop)(w0 w:F)(N cb n cap kb nk ck eb ne ce:Nat)(x:U)(wb gV:Nat)(ws:List Bool)(V:Nat->List aE)(ch:Nat->Nat)(bb fb cT i:Nat)(μ:Nat->Option (List U))(a:V7):Prop where
 kn:Knows a 73 [(16,.int .i64 (i:Int)),(15,.int .i64 (ws.length:Int)),(8,.slice (I ⟨cT,0,K⟩) ws.length ws.length),(4,(bS fb)),(3,(bS bb)),(2,.slice (I ⟨wb,0,K⟩) ws.length gV)]
 df:a.defers=[]
 own:rf S O w0 w N cb n cap kb nk ck eb ne ce x bb fb
 oc:O cT
 lc:w0.heap.size<=cT
 cb:cT≠bb
 cf:cT≠fb
 hc:w.heap[cT]? =I (.cells (eF ws ch i).toArray 193 (0,0))
 TL:Sa O w ws V ch 0 i μ
def BO(h:ws[i]? ≠I Z):eF ws ch (i+1)=eF ws ch i:=by
 unfold eF;refine List.map_congr_left λb f=>?_;by_cases e:b=i
 ·subst e;simp[h]
 ·have:(b<i+1/\ws[b]? =I Z)↔(b<i/\ws[b]? =I Z):=by
   constructor
   ·rintro⟨d,c⟩;exact⟨by omega,c⟩
   ·rintro⟨d,c⟩;exact⟨by omega,c⟩
  simp only[this]
def Dx(h:ws[i]? =I Z)(c:Nat):(eF ws ch i).take i++[Value.chan (I c)]++(eF ws ch i).drop (i+1)=eF ws (λj=>if j=i then c else ch j) (i+1):=by
 have m:i<ws.length:=(UB.1 h).1;apply List.ext_getElem?;intro j;rcases Vz j ws.length with b|b
 ·rw[mF b];rcases Nat.lt_trichotomy j i with d|d|d
  ·rw[UD,Vx (by simp[dS];omega),V9,if_pos d,mF b];have e:(j<i+1/\ws[j]? =I Z)↔(j<i/\ws[j]? =I Z):=⟨λh=>⟨d,h.2⟩,λh=>⟨by omega,h.2⟩⟩;have f:¬j=i:=by omega
   simp only[e,f,if_false]
  ·subst d;rw[UD,Vp (by simp[dS];omega)];simp[dS,h,Nat.min_eq_left (Nat.le_of_lt b)]
  ·rw[Vp (by simp[dS];omega)];have g:i+1+(j-(min i ws.length+1))=j:=by omega
   simp only[Ub,Vt,dS,VJ,XJ,List.getElem?_drop,g,mF b];have f:¬(j<i):=by omega
   have l:¬(j<i+1):=by omega
   simp only[f,l,false_and,if_false]
 ·rw[List.getElem?_eq_none (by simp[dS];omega),List.getElem?_eq_none (by rw[dS];exact b)]
def go_skip(j:Fl S w0 s k e N cb n kb nk eb ne wb ws V)(h:IW S O w0 w N cb n cap kb nk ck eb ne ce x wb gV ws V ch bb fb cT i μ a)(o:ws[i]? =I T8)
 (G:∀a',IW S O w0 w N cb n cap kb nk ck eb ne ce x wb gV ws V ch bb fb cT (i+1) μ a'->kw (aB T5) T5 Post S O μ (Uh ((base 78).at a' [.code (dx U3),.inLoop (dx U3),.inBlock 0,.code (gW U3)]) cs) w):
 kw (aB T5) T5 Post S O μ (Uh ((base 78).at a [.code (dx U3),.inLoop (dx U3),.inBlock 0,.code (gW U3)]) cs) w:=by
 obtain⟨b,D,p,L,H,B,C,F,l⟩:=h;have c:=dU (aB T5) T5 Post S μ;have J:i<ws.length:=(UB.1 o).1;have P:=j.mm;refine aQ c ?_;refine bp c [0] Y ?_;refine dF c b Y (.bool Z) (jy Y (b.of Y) (b.of Y) (by simp;omega)) λb=>?_;refine ak c ?_;refine aQ c ?_;refine dw c Z (b.of Y) ?_;refine ij c ?_;refine aQ c ?_;refine gC c ?_;refine aQ c ?_;refine bp c [0,1] Y ?_;refine cI c b λb=>?_;refine gY c b λb=>?_;refine ak c ?_;refine aQ c ?_;refine bp c [0,1,2,3] Y ?_;refine cI c b λb=>?_;refine cI c b λb=>?_;refine dF c b Y (.pointer (I ⟨wb,0+i*1,K⟩)) (fI Y (b.of Y) (b.of Y) WH Tryz.sizeOf4 J) λb=>?_;refine ri c b Y (.bool T8) (b7 Y (b.of Y) Tryz.isAgg4 (p.low wb j.wl) ((p.HJ.cell (p:=⟨wb,0+i*1,K⟩) j.wl).trans (j.wc i _ o))) λb=>?_;refine ak c ?_;refine dw c T8 (b.of Y) ?_;refine ij c ?_;refine iK c ?_;refine bp c [0,1] Y ?_;refine dF c b Y (.int .i64 ((i+1:Nat):Int)) (nP (j:=1) Y (b.of Y) Y (by omega)) λb=>?_;refine cI c b λb=>?_;refine ak c ?_;refine kW c ?_;have g:ws[i]? ≠I Z:=by rw[o];simp
 refine G _ ⟨(((((b.nil.cons (b.slot 2 _ Y)).cons (b.slot 3 _ Y)).cons (b.slot 4 _ Y)).cons (b.slot 8 _ Y)).cons (b.slot 15 _ Y)).cons (b.slot 16 _ Y),by simp only[put_defers];exact D,p,L,H,B,C,by rw[BO g];exact F,⟨λd v q f=>?_,λu A=>?_,λd t q M f r E=>?_,λd q f=>?_⟩⟩
 ·exact l.mu d v (by rcases Vz d i with h|h;exact h;have:d=i:=(by omega);subst this;exact absurd f g) f
 ·obtain⟨d,m,y,z⟩:=l.no u A;exact⟨d,m,by omega,z⟩
 ·have m:d≠i:=λe=>g (e▸f);have y:t≠i:=λe=>g (e▸r);exact l.inj d t (by omega) (by omega) f r E
 ·have m:d≠i:=λe=>g (e▸f);exact l.lt d (by omega) f
end
section
variable {S O:Nat->Prop}{w0 w w':F}{s:Nat->ByteArray}{k e:Nat->Int}{N cb n cap kb nk ck eb ne ce wb gV:Nat}{x:U}{ws:List Bool}{V:Nat->List aE}{ch:Nat->Nat}{bb fb cT i:Nat}{μ:Nat->Option (List U)}{a:V7}{Post:U->F->Prop}{cs:List Uu}{kk:List WO}
def go_region{c:Nat}{l0:List (Nat×U)}(t:Fl S w0 s k e N cb n kb nk eb ne wb ws V)(z:ws[i]? =I Z)
 (q:Knows a 73 ((9,.int .i64 (i:Int))::(8,.slice (I ⟨cT,0,K⟩) ws.length ws.length)::(4,(bS fb))::(3,(bS bb))::l0))
 (m:rf S O w0 w N cb n cap kb nk ck eb ne ce x bb fb) (aa:O cT) (P:O c) (Q:w.cell? ⟨cT,0+i*1,K⟩=I (.chan (I c))) (ae:μ c=K) (R:w.heap[c]? =I (.chan N #[] T8 0 0 T8))
 (T:∀a',Knows a' 73 (S9 cT fb bb i c N cb n cap kb nk ck eb ne ce ws.length x++((9,.int .i64 (i:Int))::(8,.slice (I ⟨cT,0,K⟩) ws.length ws.length)::(4,(bS fb))::(3,(bS bb))::l0))->a'.defers=a.defers->
   kw (aB T5) T5 Post S (λb=>O b/\b≠c) (gh μ c (I ((V i).map aE.agg))) (Uh ((base 78).at a' kk) cs) w):
 kw (aB T5) T5 Post S O μ (Uh ((base 78).at a (.code (.region 7 (AV U3) Z)::kk)) cs) w:=by
 have u:=dU (aB T5) T5 Post S μ;have W:i<ws.length:=(UB.1 z).1;have H:w.rangeAt bb 0 [VZ .i64 (N:Int),.slice (I ⟨cb,0,K⟩) n cap]:=λd v l=>by unfold Ut;simp only[m.hb];rw[UU];simpa using l
 have J:w.rangeAt fb 0 [Vc (I ⟨kb,0,K⟩) nk ck,.slice (I ⟨eb,0,K⟩) ne ce,x]:=λd v l=>by unfold Ut;simp only[m.hf];rw[UU];simpa using l
 refine qD (Ph:=λi=>decide (i<7)) (l:=S9 cT fb bb i c N cb n cap kb nk ck eb ne ce ws.length x) u q8 ?_;refine kN (u:=7) u (by decide) q Ie ?_ ?_ ?_
 ·intro f d j ab _ _ g;have l:d<7:=by simpa using ab
  have:d=0\/d=1\/d=2\/d=3\/d=4\/d=5\/d=6:=by omega
  rcases this with rfl|rfl|rfl|rfl|rfl|rfl|rfl
  ·cases(show I _=I j from g);exact⟨_,rfl,.inl ⟨rfl,cA (cm Y (f.of Y))⟩⟩
  ·cases(show I _=I j from g);exact⟨_,rfl,.inl ⟨rfl,cA (cm Y (f.of Y))⟩⟩
  ·cases(show I _=I j from g);exact⟨_,rfl,.inl ⟨rfl,cA (fI Y (f.of Y) (f.of Y) Tryz.underlying192 Tryz.sizeOf193 W)⟩⟩
  ·cases(show I _=I j from g);exact⟨_,rfl,.inl ⟨rfl,b7 Y (f.of Y) Tryz.isAgg193 (.inr aa) Q⟩⟩
  ·cases(show I _=I j from g);exact⟨_,rfl,.inl ⟨rfl,fo (cs:=[VZ .i64 (N:Int),.slice (I ⟨cb,0,K⟩) n cap]) Y (f.of Y) V8 Y nX (.inr m.ob) H⟩⟩
  ·cases(show I _=I j from g);exact⟨_,rfl,.inl ⟨rfl,fo (cs:=[Vc (I ⟨kb,0,K⟩) nk ck,.slice (I ⟨eb,0,K⟩) ne ce,x]) Y (f.of Y) Tryz.underlying105 Y AT (.inr m.of) J⟩⟩
  ·cases(show I _=I j from g);exact⟨_,rfl,.inl ⟨rfl,cA (cm Y (f.of Y))⟩⟩
 ·intro j g al ao an b y A am p _;have f:=q.fill (S9 cT fb bb i c N cb n cap kb nk ck eb ne ce ws.length x) Y;have r:=gH (Dn:=λi=>decide (i<=7)) y A OX (λd l=>by
   have:d<=7:=by simpa using l
   show d<8;omega)
  cases(show I _=I j from g);obtain⟨L,M⟩:=oa y A rfl q.size Ie (λd l=>r d (by
   have:d<8:=l;simp;omega))
  have D:b.eval (.tmp 32)= .chan (I c):=(p 32 (by decide)).trans (f.slot 32 _ Y);have E:b.eval (.tmp 33)=o5 (N:Int) cb n cap:=(p 33 (by decide)).trans (f.slot 33 _ Y);have F:b.eval (.tmp 34)=o7 kb nk ck eb ne ce x:=(p 34 (by decide)).trans (f.slot 34 _ Y);have G:b.eval (.tmp 35)= .int .i64 (i:Int):=(p 35 (by decide)).trans (f.slot 35 _ Y);obtain⟨ad,X,C⟩:=t.sin i z;refine Pf (args:= #[.chan (I c),o5 (N:Int) cb n cap,o7 kb nk ck eb ne ce x,.int .i64 (i:Int)]) (vs:=(V i).map aE.agg) (cap:=N) (by decide) g Y Y (by simp only[List.map_toArray,Xy,List.map_nil,D,E,F,G]) P ?_ ae R (λap B=>?_) ?_
  ·rw[UH];rcases C.len with h|h
   ·omega
   ·rw[h];exact UF _
  ·refine NA C X ⟨λb o=>⟨Ue (m.inr b (.inl o)) B.size,λh=>h⟩,λb h=>h.elim⟩ (ad.rel λb o=>?_);rw[B.at_ b (.inl o)];exact m.HJ.block b (t.sz b o)
  ·rw[M];show kw _ _ Post S _ _ (Uh ((base 78).at b _) cs) w;rw[L];exact ak (dU (aB T5) T5 Post S _) (T _ f (eA _ _))
 ·intro r;exact absurd (r 7 (by decide)) (by decide)
def go_round(r:Fl S w0 s k e N cb n kb nk eb ne wb ws V)(h:IW S O w0 w N cb n cap kb nk ck eb ne ce x wb gV ws V ch bb fb cT i μ a)(t:ws[i]? =I Z)
 (aw:∀F w' a' W U,IW S F w0 w' N cb n cap kb nk ck eb ne ce x wb gV ws V W bb fb cT (i+1) U a'->kw (aB T5) T5 Post S F U (Uh ((base 78).at a' [.code (dx U3),.inLoop (dx U3),.inBlock 0,.code (gW U3)]) cs) w'):
 kw (aB T5) T5 Post S O μ (Uh ((base 78).at a [.code (dx U3),.inLoop (dx U3),.inBlock 0,.code (gW U3)]) cs) w:=by
 obtain⟨b,ao,j,u,M,H,J,ar,l⟩:=h;have c:=dU (aB T5) T5 Post S μ;have D:i<ws.length:=(UB.1 t).1;have bc:=r.mm;have bd:=r.nn;obtain⟨bi,av,_,_,am⟩:=xB;refine aQ c ?_;refine bp c [0] Y ?_;refine dF c b Y (.bool Z) (jy Y (b.of Y) (b.of Y) (by simp;omega)) λb=>?_;refine ak c ?_;refine aQ c ?_;refine dw c Z (b.of Y) ?_;refine ij c ?_;refine aQ c ?_;refine gC c ?_;refine aQ c ?_;refine bp c [0,1] Y ?_;refine cI c b λb=>?_;refine gY c b λb=>?_;refine ak c ?_;refine aQ c ?_;refine bp c [0,1,2,3] Y ?_;refine cI c b λb=>?_;refine cI c b λb=>?_;refine dF c b Y (.pointer (I ⟨wb,0+i*1,K⟩)) (fI Y (b.of Y) (b.of Y) WH Tryz.sizeOf4 D) λb=>?_;refine ri c b Y (.bool Z) (b7 Y (b.of Y) Tryz.isAgg4 (j.low wb r.wl) ((j.HJ.cell (p:=⟨wb,0+i*1,K⟩) r.wl).trans (r.wc i _ t))) λb=>?_;refine ak c ?_;refine dw c Z (b.of Y) ?_;refine aQ c ?_;refine bp c [0,1,2,3,4,5,6] Y ?_;refine cI c b λb=>?_;refine cI c b λb=>?_;refine dF c b Y (bS bb) (dm (off':=0) Y (b.of Y) V8 Y X6 Y) λb=>?_;refine ri c b Y (.int .i64 (N:Int)) (b7 Y (b.of Y) Yw (.inr j.ob) (by unfold Ut;simp only[j.hb];rfl)) λb=>?_;refine mC c j.inr (by decide) Y Y (.chan N #[] T8 0 0 T8) trivial (λn=>.chan (I n)) (Eh Y (b.of Y) Tryz.underlying193 av (by omega) (by rw[am];omega)) λf bm a0 a3 hrel al=>?_;replace b:=b.put (d:=27) (by decide) (.chan (I f));have P:=j.new a0 a3 hrel;refine dF c b Y (.pointer (I ⟨cT,0+i*1,K⟩)) (fI Y (b.of Y) (b.of Y) Tryz.underlying192 Tryz.sizeOf193 D) λb=>?_;have a9:=j.inr cT (.inr u);have L:f≠cT:=by omega
 have X:(eF ws ch i).toArray.toList.take (0+i*1)++(Value.chan (I f)).cells.toList++(eF ws ch i).toArray.toList.drop (0+i*1+(Value.chan (I f)).cells.size)=eF ws (λd=>if d=i then f else ch d) (i+1):=by
  rw[<-Dx t f];simp[WI]
 refine sb c P.inr (n:=cT) (by decide) Y Y (.inl u) (.cells ((eF ws ch i).toArray.toList.take (0+i*1)++(Value.chan (I f)).cells.toList++(eF ws ch i).toArray.toList.drop (0+i*1+(Value.chan (I f)).cells.size)).toArray 193) trivial (k7 (n:=cT) (off:=0+i*1) (v:=.chan (I f)) Y (b.of Y) (b.of Y) Je (λbl Q=>by simp[WI] at Q;rw[Q];rfl) (Or.inr (Or.inl u)) ((hrel.at_ cT (.inr u)).trans ar) (by
  show 0+i*1+1<=(eF ws ch i).length;rw[dS];omega)) λT v=>?_
 rw[X] at v;replace b:=b.none Vl;have A:=P.set v H J M;refine ak c ?_;have an:T.heap[f]? =I (.chan N #[] T8 0 0 T8):=(v.at_ f (.inr (.inr Y)) L).trans al;have a4:μ f=K:=by
  cases az:μ f with
  |none=>rfl
  |some bj=>
   obtain⟨d,_,z,m,y⟩:=l.no f (by rw[az];simp);have:=l.lt d z m;omega
 have be:=v.size;refine go_region (c:=f) (l0:=[(16,.int .i64 (i:Int)),(15,.int .i64 (ws.length:Int)),(2,.slice (I ⟨wb,0,K⟩) ws.length gV)]) r t ((((((((b.nil.cons (b.slot 2 _ Y)).cons (b.slot 15 _ Y)).cons (b.slot 16 _ Y)).cons (b.slot 3 _ Y)).cons (b.slot 4 _ Y)).cons (b.slot 8 _ Y)).cons (b.slot 9 _ Y))) A (.inl u) (.inr Y) ?_ a4 an λa' g ap=>?_
 ·unfold Ut;rw[v.set];simp only[UU,Nat.mul_one];have:=mF (ws:=ws) (ch:=λd=>if d=i then f else ch d) (i:=i+1) D;simp[t] at this;simpa using this
 ·have c:=dU (aB T5) T5 Post S (gh μ f (I ((V i).map aE.agg)));refine iK c ?_;refine bp c [0,1] Y ?_;refine dF c g Y (.int .i64 ((i+1:Nat):Int)) (nP (j:=1) Y (g.of Y) Y (by omega)) λg=>?_;refine cI c g λg=>?_;refine ak c ?_;refine kW c ?_;refine aw _ T _ (λd=>if d=i then f else ch d) _ ⟨(((((g.nil.cons (g.slot 2 _ Y)).cons (g.slot 3 _ Y)).cons (g.slot 4 _ Y)).cons (g.slot 8 _ Y)).cons (g.slot 15 _ Y)).cons (g.slot 16 _ Y),by simp only[put_defers];rw[ap];simp only[put_defers];exact ao,?_,⟨.inl u,λe=>L e.symm⟩,M,H,J,v.set,⟨λd aa z m=>?_,λG C=>?_,λd E z ba m R y=>?_,λd z m=>?_⟩⟩
  ·have a5:=j.inr bb (.inr j.ob);have a6:=j.inr fb (.inr j.of);have a7:=j.HJ.size;exact A.rel (λp o _ _=>rfl) (λp o=>rfl) (T9 _) rfl rfl rfl (λp o=>A.inr p (o.imp (λh=>h) (λh=>h.1))) (λp o h=>⟨o,by rcases h with h|rfl|rfl<;>omega⟩) (λp o a2=>A.rm p o a2.1)
  ·by_cases e:d=i
   ·subst e;simp[gh]
   ·have:=l.lt d (by omega) m;have a1:ch d≠f:=by omega
    simp only[if_neg e,gh,a1,if_false];exact l.mu d aa (by omega) m
  ·by_cases e:G=f
   ·subst e;exact⟨i,UF _,by omega,t,by simp⟩
   ·unfold gh at C;rw[if_neg e] at C;obtain⟨d,ab,a8,ad,ae⟩:=l.no G C;exact⟨d,ab,by omega,ad,by rw[if_neg (by omega)];exact ae⟩
  ·by_cases q:d=i<;>by_cases B:E=i
   ·omega
   ·rw[if_pos q,if_neg B] at y;have:=l.lt E (by omega) R;omega
   ·rw[if_neg q,if_pos B] at y;have:=l.lt d (by omega) m;omega
   ·rw[if_neg q,if_neg B] at y;exact l.inj d E (by omega) (by omega) m R y
  ·by_cases q:d=i
   ·rw[if_pos q];omega
   ·rw[if_neg q];have:=l.lt d (by omega) m;omega
end
def fw (ws:List Bool)(g:Nat->Nat)(V:Nat->List aE)(N:Nat)(i:Nat):List U:=(UL ws.length).map λa=>if a<i/\ws[a]? =I Z then .slice (I ⟨g a,0,K⟩) (V a).length N else aR
def dX(ws:List Bool)(g:Nat->Nat)(V:Nat->List aE)(N:Nat)(i:Nat):(fw ws g V N i).length=ws.length:=by simp[fw]
def mL{ws:List Bool}{g:Nat->Nat}{V:Nat->List aE}{N:Nat}{i j:Nat}(a:j<ws.length):(fw ws g V N i)[j]? =I (if j<i/\ws[j]? =I Z then .slice (I ⟨g j,0,K⟩) (V j).length N else aR):=by
 simp[fw,a]
section
variable {ws:List Bool}{g:Nat->Nat}{V:Nat->List aE}{N i:Nat}
def B9(h:ws[i]? ≠I Z):fw ws g V N (i+1)=fw ws g V N i:=by
 unfold fw;refine List.map_congr_left λa e=>?_;by_cases c:a=i
 ·subst c;simp[h]
 ·have:(a<i+1/\ws[a]? =I Z)↔(a<i/\ws[a]? =I Z):=by
   constructor
   ·rintro⟨d,b⟩;exact⟨by omega,b⟩
   ·rintro⟨d,b⟩;exact⟨by omega,b⟩
  simp only[this]
def D5(h:ws[i]? =I Z)(c:Nat):(fw ws g V N i).take i++[Vc (I ⟨c,0,K⟩) (V i).length N]++(fw ws g V N i).drop (i+1)=fw ws (λj=>if j=i then c else g j) V N (i+1):=by
 have l:i<ws.length:=(UB.1 h).1;apply List.ext_getElem?;intro j;rcases Vz j ws.length with a|a
 ·rw[mL a];rcases Nat.lt_trichotomy j i with b|b|b
  ·rw[UD,Vx (by simp[dX];omega),V9,if_pos b,mL a];have e:(j<i+1/\ws[j]? =I Z)↔(j<i/\ws[j]? =I Z):=⟨λh=>⟨b,h.2⟩,λh=>⟨by omega,h.2⟩⟩;have d:¬j=i:=by omega
   simp only[e,d,if_false]
  ·subst b;rw[UD,Vp (by simp[dX];omega)];simp[dX,h,Nat.min_eq_left (Nat.le_of_lt a)]
  ·rw[Vp (by simp[dX];omega)];have f:i+1+(j-(min i ws.length+1))=j:=by omega
   simp only[Ub,Vt,dX,VJ,XJ,List.getElem?_drop,f,mL a];have d:¬(j<i):=by omega
   have k:¬(j<i+1):=by omega
   simp only[d,k,false_and,if_false]
 ·rw[List.getElem?_eq_none (by simp[dX];omega),List.getElem?_eq_none (by rw[dX];exact a)]
end
def nt (fn:WD):WX:=match gW fn with
 | .seq _ (.seq _ (.seq (.seq _ (.block _ (.loop a))) _))=>a
 |_=>.skip
def FY (fn:WD):WX:=match gW fn with
 | .seq _ (.seq _ (.seq _ a))=>a
 |_=>.skip
def gD (fn:WD):Array Vv:=match nt fn with
 | .seq _ (.seq _ (.seq (.block _ (.seq _ (.seq _ (.cond _ (.seq (.region _ a _) _) _)))) _))=>a
 |_=> #[]
def yJ (fn:WD):Array Vv:=match nt fn with
 | .seq _ (.seq _ (.seq (.block _ (.seq _ (.seq _ (.cond _ (.seq _ (.region _ a _)) _)))) _))=>a
 |_=> #[]
def LI:List Nat:=[49,50,51,52,53,54,55,56]
def AI (lb cT bb i c N m:Nat):List (Nat×U):=[(49,.slice (I ⟨lb,0,K⟩) m m),(50,.int .i64 (i:Int)),(51,.slice (I ⟨cT,0,K⟩) m m),(52,.int .i64 (i:Int)),(53,.pointer (I ⟨cT,0+i*1,K⟩)),(54,.chan (I c)),(55,(bS bb)),(56,.int .i64 (N:Int))]
def Dr (lb gn len i N:Nat):List (Nat×U):=[(57,.slice (I ⟨gn,0,K⟩) len N),(58,.pointer (I ⟨lb,0+i*1,K⟩))]
def AJ:gF (gD U3) (λi=>decide (i<8)) 8 73 LI=Z:=by kernel_rfl
def AK:gF (gD U3) (λi=>decide (i<10)) 10 73 ([57,58]++LI)=Z:=by kernel_rfl
def LJ:((UL (gD U3).size).all λi=> !(λi=>decide (i<8)) i||match jh (gD U3) i with|some d=> !([57,58]:List Nat).contains d|none=>Z)=Z:=by kernel_rfl
def FG:((UL (gD U3).size).all λi=> !(λi=>decide (2<=i/\i<=8)) i||i==8||(under (gD U3) (gD U3).size (match (gD U3)[8]? with
 |some o=>(o.after.toList.filter λe=>Vo .any e).map (·.on)
 |none=>[])).contains i)=Z:=by kernel_rfl
def FH:((UL (gD U3).size).all λi=> !(λi=>decide (i<=10)) i||i==10||(under (gD U3) 3 (match (gD U3)[10]? with
 |some o=>(o.after.toList.filter λe=>Vo .any e).map (·.on)
 |none=>[])).contains i)=Z:=by kernel_rfl
def K6:(XR.name == "runtime.NumGoroutine")=T8:=by kernel_rfl
def JP:(T5.info? 43).map (·.size)=I 1:=by kernel_rfl
section
variable {S O:Nat->Prop}{w0 w w':F}{s:Nat->ByteArray}{k e:Nat->Int}{N cb n cap kb nk ck eb ne ce wb gV:Nat}{x:U}{ws:List Bool}{V:Nat->List aE}{ch:Nat->Nat}{bb fb cT lb i:Nat}{μ:Nat->Option (List U)}{a:V7}{Post:U->F->Prop}{cs:List Uu}{kk:List WO}
def rf.Sp(h:rf S O w0 w N cb n cap kb nk ck eb ne ce x bb fb){f:Nat->Prop}(c:Lj S O f w w'):rf S f w0 w' N cb n cap kb nk ck eb ne ce x bb fb:=
 h.rel (λb d _ _=>c.rel.at_ b d) (λb d=>c.rel.at_ b (h.low b d)) c.rel.size c.rel.tape c.rel.os c.rel.output c.inr (λb d _=>c.sub b d) (λb d g=>(c.new b g).elim (h.rm b d) (λe=>by have:=h.inr b (.inl d);omega))
def Ds{c gn:Nat}{l0:List (Nat×U)}{f:Array U}(M:i<ws.length)
 (p:Knows a 73 ((10,.int .i64 (i:Int))::(8,.slice (I ⟨cT,0,K⟩) ws.length ws.length)::(6,.slice (I ⟨lb,0,K⟩) ws.length ws.length)::(3,(bS bb))::l0))
 (H:tR S O w) (z:O lb) (L:w.heap[lb]? =I (.cells f 43 (0,0))) (G:f.size=ws.length) (len:Nat)
 (m t:Nat) (j:Array Bool) (b:V7) (o:cJ (gD U3) (λi=>decide (i<10)) a (fill a (Dr lb gn len i N++AI lb cT bb i c N ws.length)) j b) (u:∀i,(λi=>decide (2<=i/\i<=8)) i=Z->j.getD i T8=Z) (y:E6 j<=m)
 (J:∀w' a',zX S O lb (.cells (f.toList.take i++[Vc (I ⟨gn,0,K⟩) len N]++f.toList.drop (i+1)).toArray 43) w w'->Knows a' 73 (Dr lb gn len i N++AI lb cT bb i c N ws.length++((10,.int .i64 (i:Int))::(8,.slice (I ⟨cT,0,K⟩) ws.length ws.length)::(6,.slice (I ⟨lb,0,K⟩) ws.length ws.length)::(3,(bS bb))::l0))->a'.defers=a.defers->
   kw (aB T5) T5 Post S O μ (Uh ((base 78).at a' kk) cs) w'):
 kw (aB T5) T5 Post S O μ (Uh ((base 78).at b (.inRegion (gD U3) (Va .any (gD U3) m t j [])::kk)) cs) w:=by
 have q:=dU (aB T5) T5 Post S μ;refine kN (Dn:=λi=>decide (2<=i/\i<=8)) (u:=10) q (by decide) p AK ?_ ?_ ?_ m t j b o u y
 ·intro g d l P u W h;have R:d<10:=by simpa using P
  have T:¬(2<=d/\d<=8):=by simpa using u
  have:d=0\/d=1\/d=9:=by omega
  rcases this with rfl|rfl|rfl
  ·cases(show I _=I l from h);exact⟨_,rfl,.inl ⟨rfl,cA (cm Y (g.of Y))⟩⟩
  ·cases(show I _=I l from h);exact⟨_,rfl,.inl ⟨rfl,cA (cm Y (g.of Y))⟩⟩
  ·cases(show I _=I l from h);exact⟨_,rfl,.inl ⟨rfl,cA (fI Y (g.of Y) (g.of Y) Tryz.underlying26 Tryz.sizeOf43 M)⟩⟩
 ·intro l h m t j b o A y X _;have g:=p.fill (Dr lb gn len i N++AI lb cT bb i c N ws.length) Y;have r:=gH (Dn:=λi=>decide (i<=10)) o A FH (λd v=>by
   have:d<=10:=by simpa using v
   show d<11;omega)
  cases(show I _=I l from h);obtain⟨E,F⟩:=oa o A rfl p.size AK (λd v=>r d (by
   have:d<11:=v;simp;omega))
  rw[F];subst E;refine sb q H (n:=lb) (by decide) h Y z (.cells (f.toList.take (0+i*1)++(Vc (I ⟨gn,0,K⟩) len N).cells.toList++f.toList.drop (0+i*1+(Vc (I ⟨gn,0,K⟩) len N).cells.size)).toArray 43) trivial (k7 (n:=lb) (off:=0+i*1) (v:=.slice (I ⟨gn,0,K⟩) len N) Y (g.of Y) (g.of Y) JP (λaa C=>by simp[WI] at C;rw[C];rfl) (Or.inr z) L (by
   show 0+i*1+1<=f.size;rw[G];omega)) λQ B=>?_
  refine ak q (J Q _ ?_ (g.none Vl) (by rw[put_defers];exact eA _ _));have D:f.toList.take (0+i*1)++(Vc (I ⟨gn,0,K⟩) len N).cells.toList++f.toList.drop (0+i*1+(Vc (I ⟨gn,0,K⟩) len N).cells.size)=f.toList.take i++[Vc (I ⟨gn,0,K⟩) len N]++f.toList.drop (i+1):=by simp[WI]
  rw[D] at B;exact B
 ·intro r;exact absurd (r 10 (by decide)) (by decide)
def Dt{c:Nat}{l0:List (Nat×U)}{o:Array U}(z:Fl S w0 s k e N cb n kb nk eb ne wb ws V)(A:ws[i]? =I Z)
 (m:Knows a 73 ((10,.int .i64 (i:Int))::(8,.slice (I ⟨cT,0,K⟩) ws.length ws.length)::(6,.slice (I ⟨lb,0,K⟩) ws.length ws.length)::(3,(bS bb))::l0))
 (v:rf S O w0 w N cb n cap kb nk ck eb ne ce x bb fb) (am:O cT) (P:bU w cT (0+i*1) (.chan (I c))) (av:μ c=I ((V i).map aE.agg)) (D:O lb) (al:w.heap[lb]? =I (.cells o 43 (0,0))) (Q:o.size=ws.length)
 (ad:∀j l w' gn a',w.heap.size<=gn->Row l gn N (V i)->j gn->Lj S O j w l->zX S j lb (.cells (o.toList.take i++[Vc (I ⟨gn,0,K⟩) (V i).length N]++o.toList.drop (i+1)).toArray 43) l w'->Knows a' 73 (Dr lb gn (V i).length i N++AI lb cT bb i c N ws.length++((10,.int .i64 (i:Int))::(8,.slice (I ⟨cT,0,K⟩) ws.length ws.length)::(6,.slice (I ⟨lb,0,K⟩) ws.length ws.length)::(3,(bS bb))::l0))->a'.defers=a.defers->
   kw (aB T5) T5 Post S j (gh μ c K) (Uh ((base 78).at a' kk) cs) w'):
 kw (aB T5) T5 Post S O μ (Uh ((base 78).at a (.code (.region 15 (gD U3) Z)::kk)) cs) w:=by
 have t:=dU (aB T5) T5 Post S μ;have C:i<ws.length:=(UB.1 A).1;obtain⟨_,_,ap⟩:=z.sin i A;refine qD (Ph:=λi=>decide (i<8)) (l:=AI lb cT bb i c N ws.length) t q8 ?_;refine kN (u:=8) t (by decide) m AJ ?_ ?_ ?_
 ·intro f b g an _ _ d;have q:b<8:=by simpa using an
  have:b=0\/b=1\/b=2\/b=3\/b=4\/b=5\/b=6\/b=7:=by omega
  rcases this with rfl|rfl|rfl|rfl|rfl|rfl|rfl|rfl
  ·cases(show I _=I g from d);exact⟨_,rfl,.inl ⟨rfl,cA (cm Y (f.of Y))⟩⟩
  ·cases(show I _=I g from d);exact⟨_,rfl,.inl ⟨rfl,cA (cm Y (f.of Y))⟩⟩
  ·cases(show I _=I g from d);exact⟨_,rfl,.inl ⟨rfl,cA (cm Y (f.of Y))⟩⟩
  ·cases(show I _=I g from d);exact⟨_,rfl,.inl ⟨rfl,cA (cm Y (f.of Y))⟩⟩
  ·cases(show I _=I g from d);exact⟨_,rfl,.inl ⟨rfl,cA (fI Y (f.of Y) (f.of Y) Tryz.underlying192 Tryz.sizeOf193 C)⟩⟩
  ·cases(show I _=I g from d);exact⟨_,rfl,.inl ⟨rfl,b7 Y (f.of Y) Tryz.isAgg193 (.inr am) P⟩⟩
  ·cases(show I _=I g from d);exact⟨_,rfl,.inl ⟨rfl,cA (dm (off':=0) Y (f.of Y) V8 Y X6 Y)⟩⟩
  ·cases(show I _=I g from d);exact⟨_,rfl,.inl ⟨rfl,b7 Y (f.of Y) Yw (.inr v.ob) (by unfold Ut;simp only[v.hb];rfl)⟩⟩
 ·intro g d H aw a1 r u y a0 B _;have f:=m.fill (AI lb cT bb i c N ws.length) Y;have W:=gH (Dn:=λi=>decide (2<=i/\i<=8)) u y FG (λb q=>by
   have:2<=b/\b<=8:=by simpa using q
   show b<11;omega)
  cases(show I _=I g from d);have F:r.eval (.tmp 54)= .chan (I c):=(B 54 (by decide)).trans (f.slot 54 _ Y);have G:r.eval (.tmp 56)= .int .i64 (N:Int):=(B 56 (by decide)).trans (f.slot 56 _ Y);refine H7 t (by decide) d Y Y Tryz.func117 K6 Y ?_;have M:(#[Operand.tmp 54,.tmp 56].map r.eval)=#[.chan (I c),.int .i64 (N:Int)]:=by simp only[List.map_toArray,Xy,List.map_nil,F,G]
  rw[M];refine LO (r:=V i) d v.inr av ?_ z.nn λj l gn aa ao J p=>?_
  ·rcases ap.len with h|h
   ·omega
   ·rw[h];exact UF _
  ·have X:=u.Ig (l2:=Dr lb gn (V i).length i N) (Lc:=λi=>decide (i<10)) (n:=73) (v:=.slice (I ⟨gn,0,K⟩) (V i).length N) y d m.size AJ Y (λb q=>by
    have:b<8:=by simpa using q
    simp;omega) Y LJ (λaz R=>by cases R;rfl)
   refine Ds (gn:=gn) (len:=(V i).length) (c:=c) C m p.inr (p.sub lb D) ((p.rel.at_ lb (.inr D)).trans al) Q H aw _ _ X W ?_ λw' a' ar E T=>ad j l w' gn a' aa ao J p ar E T;obtain⟨_,_,ab,ae,_⟩:=mem_ready y;have:=qZ (by rw[u.size];exact ab) ae;omega
 ·intro L;exact absurd (L 10 (by decide)) (by decide)
end
def Rm:List Nat:=[59,60,61,62,63,64,65,66,67,68,69]
def SV (lb bb gn i len N m:Nat):List (Nat×U):=[(59,.bool Z),(60,.bool Z),(61,.slice (I ⟨lb,0,K⟩) m m),(62,.int .i64 (i:Int)),(63,.pointer (I ⟨lb,0+i*1,K⟩)),(64,.slice (I ⟨gn,0,K⟩) len N),(65,.int .i64 (len:Int)),(66,(bS bb)),(67,.int .i64 (N:Int)),(68,.bool ((len:Int)==(N:Int))),(69,.bool ((len:Int)==(N:Int)))]
def okF:List (Nat×U):=[(59,.bool T8),(60,.bool T8),(61,Vl),(62,Vl),(63,Vl),(64,Vl),(65,Vl),(66,Vl),(67,Vl),(68,Vl),(69,.bool T8)]
def xx:gF (yJ U3) (λi=>decide (i<11)) 11 73 Rm=Z:=by kernel_rfl
def Ee:((UL (yJ U3).size).all λi=> !(λi=>decide (i<=11)) i||i==11||(under (yJ U3) 1 (match (yJ U3)[11]? with
 |some o=>(o.after.toList.filter λe=>Vo .any e).map (·.on)
 |none=>[])).contains i)=Z:=by kernel_rfl
section
variable {S O:Nat->Prop}{w0 w w':F}{s:Nat->ByteArray}{k e:Nat->Int}{N cb n cap kb nk ck eb ne ce wb gV:Nat}{x:U}{ws:List Bool}{V:Nat->List aE}{ch g:Nat->Nat}{bb fb cT lb i gn len:Nat}{μ:Nat->Option (List U)}{a:V7}{Post:U->F->Prop}{cs:List Uu}{kk:List WO}{lB:Bool}
def Eg{l0:List (Nat×U)}(F:i<ws.length)
 (o:Knows a 73 ((7,.bool lB)::(10,.int .i64 (i:Int))::(6,.slice (I ⟨lb,0,K⟩) ws.length ws.length)::(3,(bS bb))::l0)) (P:tR S O w) (J:O lb) (H:O bb) (C:w.cell? ⟨lb,0+i*1,K⟩=I (.slice (I ⟨gn,0,K⟩) len N)) (D:w.cell? ⟨bb,0,K⟩=I (.int .i64 (N:Int)))
 (y:∀a' z,Knows a' 73 ((7,.bool (lB&&((len:Int)==(N:Int))))::(z++((7,.bool lB)::(10,.int .i64 (i:Int))::(6,.slice (I ⟨lb,0,K⟩) ws.length ws.length)::(3,(bS bb))::l0)))->z.map (·.1)=Rm->a'.defers=a.defers->
   kw (aB T5) T5 Post S O μ (Uh ((base 78).at a' kk) cs) w):
 kw (aB T5) T5 Post S O μ (Uh ((base 78).at a (.code (.region 16 (yJ U3) Z)::kk)) cs) w:=by
 have l:=dU (aB T5) T5 Post S μ;cases lB with
 |true=>
  refine qD (Ph:=λi=>decide (i<11)) (l:=SV lb bb gn i len N ws.length) l q8 ?_;refine kN (u:=11) l (by decide) o xx ?_ ?_ ?_
  ·intro f b c v _ _ d;have j:b<11:=by simpa using v
   have h:∀c:Vv,c.guard=I (1,Z)->UG c (Vk (yJ U3) (fill a (SV lb bb gn i len N ws.length)).tmps)=Z:=λc u=>oX (d:=60) (b:=Z) u Y (f.slot 60 _ Y) (by rw[f.size];decide);have:b=0\/b=1\/b=2\/b=3\/b=4\/b=5\/b=6\/b=7\/b=8\/b=9\/b=10:=by omega
   rcases this with rfl|rfl|rfl|rfl|rfl|rfl|rfl|rfl|rfl|rfl|rfl
   ·cases(show I _=I c from d);exact⟨_,rfl,.inl ⟨rfl,cA (cm Y (f.of Y))⟩⟩
   ·cases(show I _=I c from d);exact⟨_,rfl,.inl ⟨rfl,cA (cm Y (f.of Y))⟩⟩
   ·cases(show I _=I c from d);exact⟨_,rfl,.inl ⟨h _ Y,cA (cm Y (f.of Y))⟩⟩
   ·cases(show I _=I c from d);exact⟨_,rfl,.inl ⟨h _ Y,cA (cm Y (f.of Y))⟩⟩
   ·cases(show I _=I c from d);exact⟨_,rfl,.inl ⟨h _ Y,cA (fI Y (f.of Y) (f.of Y) Tryz.underlying26 Tryz.sizeOf43 F)⟩⟩
   ·cases(show I _=I c from d);exact⟨_,rfl,.inl ⟨h _ Y,b7 Y (f.of Y) Tryz.isAgg43 (.inr J) C⟩⟩
   ·cases(show I _=I c from d);exact⟨_,rfl,.inl ⟨h _ Y,cA (so Y (f.of Y) WA)⟩⟩
   ·cases(show I _=I c from d);exact⟨_,rfl,.inl ⟨h _ Y,cA (dm (off':=0) Y (f.of Y) V8 Y X6 Y)⟩⟩
   ·cases(show I _=I c from d);exact⟨_,rfl,.inl ⟨h _ Y,b7 Y (f.of Y) Yw (.inr H) D⟩⟩
   ·cases(show I _=I c from d);exact⟨_,rfl,.inl ⟨h _ Y,cA (Rp Y (f.of Y) (f.of Y))⟩⟩
   ·cases(show I _=I c from d);exact⟨_,rfl,.inl ⟨rfl,cA (yN Y (f.of Y) (f.of Y))⟩⟩
  ·intro c d B M L A p q G E _;have f:=o.fill (SV lb bb gn i len N ws.length) Y;have m:=gH (Dn:=λi=>decide (i<=11)) p q Ee (λb j=>by
    have:b<=11:=by simpa using j
    show b<12;omega)
   cases(show I _=I c from d);obtain⟨r,t⟩:=oa p q rfl o.size xx (λb j=>m b (by
    have:b<12:=j;simp;omega))
   rw[t];subst r;refine mD l (by decide) d Y _ (kG Y (f.of Y)) ?_;refine ak l (y _ (SV lb bb gn i len N ws.length) ?_ Y (by rw[put_defers];exact eA _ _));exact f.put (d:=7) (by decide) (.bool ((len:Int)==(N:Int)))
  ·intro m;exact absurd (m 11 (by decide)) (by decide)
 |false=>
  refine qD (Ph:=λi=>decide (i<11)) (l:=okF) l q8 ?_;refine kN (u:=11) l (by decide) o xx ?_ ?_ ?_
  ·intro f b c v _ _ d;have j:b<11:=by simpa using v
   have h:∀c:Vv,c.guard=I (1,Z)->UG c (Vk (yJ U3) (fill a okF).tmps)=T8:=λc u=>oX (d:=60) (b:=T8) u Y (f.slot 60 _ Y) (by rw[f.size];decide);have:b=0\/b=1\/b=2\/b=3\/b=4\/b=5\/b=6\/b=7\/b=8\/b=9\/b=10:=by omega
   rcases this with rfl|rfl|rfl|rfl|rfl|rfl|rfl|rfl|rfl|rfl|rfl
   ·cases(show I _=I c from d);exact⟨_,rfl,.inl ⟨rfl,cA (cm Y (f.of Y))⟩⟩
   ·cases(show I _=I c from d);exact⟨_,rfl,.inl ⟨rfl,cA (cm Y (f.of Y))⟩⟩
   ·cases(show I _=I c from d);exact⟨_,rfl,.inr ⟨h _ Y,rfl⟩⟩
   ·cases(show I _=I c from d);exact⟨_,rfl,.inr ⟨h _ Y,rfl⟩⟩
   ·cases(show I _=I c from d);exact⟨_,rfl,.inr ⟨h _ Y,rfl⟩⟩
   ·cases(show I _=I c from d);exact⟨_,rfl,.inr ⟨h _ Y,rfl⟩⟩
   ·cases(show I _=I c from d);exact⟨_,rfl,.inr ⟨h _ Y,rfl⟩⟩
   ·cases(show I _=I c from d);exact⟨_,rfl,.inr ⟨h _ Y,rfl⟩⟩
   ·cases(show I _=I c from d);exact⟨_,rfl,.inr ⟨h _ Y,rfl⟩⟩
   ·cases(show I _=I c from d);exact⟨_,rfl,.inr ⟨h _ Y,rfl⟩⟩
   ·cases(show I _=I c from d);exact⟨_,rfl,.inl ⟨rfl,cA (yM Y (f.of Y) Y)⟩⟩
  ·intro c d B M L A p q G E _;have f:=o.fill okF Y;have m:=gH (Dn:=λi=>decide (i<=11)) p q Ee (λb j=>by
    have:b<=11:=by simpa using j
    show b<12;omega)
   cases(show I _=I c from d);obtain⟨r,t⟩:=oa p q rfl o.size xx (λb j=>m b (by
    have:b<12:=j;simp;omega))
   rw[t];subst r;refine mD l (by decide) d Y _ (kG Y (f.of Y)) ?_;refine ak l (y _ okF ?_ Y (by rw[put_defers];exact eA _ _));exact f.put (d:=7) (by decide) (.bool T8)
  ·intro m;exact absurd (m 11 (by decide)) (by decide)
end
structure zT(S O:Nat->Prop)(w0 w:F)(N cb n cap kb nk ck eb ne ce:Nat)(x:U)(wb gV:Nat)(ws:List Bool)(V:Nat->List aE)(ch g:Nat->Nat)(bb fb cT lb i:Nat)(lB:Bool)(μ:Nat->Option (List U))(a:V7):Prop where
 kn:Knows a 73 [(42,.int .i64 (i:Int)),(41,.int .i64 (ws.length:Int)),(8,.slice (I ⟨cT,0,K⟩) ws.length ws.length),(7,.bool lB),(6,.slice (I ⟨lb,0,K⟩) ws.length ws.length),(3,(bS bb)),(2,.slice (I ⟨wb,0,K⟩) ws.length gV)]
 df:a.defers=[]
 own:rf S O w0 w N cb n cap kb nk ck eb ne ce x bb fb
 oc:O cT
 hc:w.heap[cT]? =I (.cells (eF ws ch ws.length).toArray 193 (0,0))
 ol:O lb
 ll:w0.heap.size<=lb
 nb:lb≠bb
 nf:lb≠fb
 nc:lb≠cT
 hl:w.heap[lb]? =I (.cells (fw ws g V N i).toArray 43 (0,0))
 rows:∀j,j<i->ws[j]? =I Z->Row w (g j) N (V j)/\O (g j)/\g j≠lb/\w0.heap.size<=g j
 TL:Sa O w ws V ch i ws.length μ
 ok:lB=Z↔∀j,j<i->ws[j]? =I Z->(V j).length=N
section
variable {S O:Nat->Prop}{w0 w w':F}{s:Nat->ByteArray}{k e:Nat->Int}{N cb n cap kb nk ck eb ne ce wb gV:Nat}{x:U}{ws:List Bool}{V:Nat->List aE}{ch g:Nat->Nat}{bb fb cT lb i:Nat}{μ:Nat->Option (List U)}{a:V7}{Post:U->F->Prop}{cs:List Uu}{lB:Bool}
def KQ(l:Fl S w0 s k e N cb n kb nk eb ne wb ws V)(h:zT S O w0 w N cb n cap kb nk ck eb ne ce x wb gV ws V ch g bb fb cT lb i lB μ a)(p:ws[i]? =I T8)
 (E:∀a',zT S O w0 w N cb n cap kb nk ck eb ne ce x wb gV ws V ch g bb fb cT lb (i+1) lB μ a'->kw (aB T5) T5 Post S O μ (Uh ((base 78).at a' [.code (nt U3),.inLoop (nt U3),.inBlock 2,.code (FY U3)]) cs) w):
 kw (aB T5) T5 Post S O μ (Uh ((base 78).at a [.code (nt U3),.inLoop (nt U3),.inBlock 2,.code (FY U3)]) cs) w:=by
 obtain⟨b,B,r,L,C,P,F,G,J,H,D,Q,m,M⟩:=h;have c:=dU (aB T5) T5 Post S μ;have o:i<ws.length:=(UB.1 p).1;have T:=l.mm;refine aQ c ?_;refine bp c [0] Y ?_;refine dF c b Y (.bool Z) (jy Y (b.of Y) (b.of Y) (by simp;omega)) λb=>?_;refine ak c ?_;refine aQ c ?_;refine dw c Z (b.of Y) ?_;refine ij c ?_;refine aQ c ?_;refine gC c ?_;refine aQ c ?_;refine bp c [0,1] Y ?_;refine cI c b λb=>?_;refine gY c b λb=>?_;refine ak c ?_;refine aQ c ?_;refine bp c [0,1,2,3] Y ?_;refine cI c b λb=>?_;refine cI c b λb=>?_;refine dF c b Y (.pointer (I ⟨wb,0+i*1,K⟩)) (fI Y (b.of Y) (b.of Y) WH Tryz.sizeOf4 o) λb=>?_;refine ri c b Y (.bool T8) (b7 Y (b.of Y) Tryz.isAgg4 (r.low wb l.wl) ((r.HJ.cell (p:=⟨wb,0+i*1,K⟩) l.wl).trans (l.wc i _ p))) λb=>?_;refine ak c ?_;refine dw c T8 (b.of Y) ?_;refine ij c ?_;refine iK c ?_;refine bp c [0,1] Y ?_;refine dF c b Y (.int .i64 ((i+1:Nat):Int)) (nP (j:=1) Y (b.of Y) Y (by omega)) λb=>?_;refine cI c b λb=>?_;refine ak c ?_;refine kW c ?_;have v:ws[i]? ≠I Z:=by rw[p];simp
 have q:∀d,ws[d]? =I Z->d≠i:=λd j e=>v (e▸j);refine E _ ⟨((((((b.nil.cons (b.slot 2 _ Y)).cons (b.slot 3 _ Y)).cons (b.slot 6 _ Y)).cons (b.slot 7 _ Y)).cons (b.slot 8 _ Y)).cons (b.slot 41 _ Y)).cons (b.slot 42 _ Y),by simp only[put_defers];exact B,r,L,C,P,F,G,J,H,by rw[B9 v];exact D,λd o j=>Q d (by have:=q d j;omega) j,⟨λd R o j=>m.mu d (by omega) o j,λy A=>?_,m.inj,m.lt⟩,?_⟩
 ·obtain⟨d,t,f,u,z⟩:=m.no y A;exact⟨d,by have:=q d u;omega,f,u,z⟩
 ·rw[M];constructor
  ·intro h d t f;exact h d (by have:=q d f;omega) f
  ·intro h d t f;exact h d (by omega) f
def G7(B:Fl S w0 s k e N cb n kb nk eb ne wb ws V)(h:zT S O w0 w N cb n cap kb nk ck eb ne ce x wb gV ws V ch g bb fb cT lb i lB μ a)(o:ws[i]? =I Z)
 (a5:∀D w' a' g' bi ap,zT S D w0 w' N cb n cap kb nk ck eb ne ce x wb gV ws V ch g' bb fb cT lb (i+1) bi ap a'->kw (aB T5) T5 Post S D ap (Uh ((base 78).at a' [.code (nt U3),.inLoop (nt U3),.inBlock 2,.code (FY U3)]) cs) w'):
 kw (aB T5) T5 Post S O μ (Uh ((base 78).at a [.code (nt U3),.inLoop (nt U3),.inBlock 2,.code (FY U3)]) cs) w:=by
 obtain⟨b,a1,z,F,W,G,aa,ab,ae,ad,a4,ba,v,a7⟩:=h;have c:=dU (aB T5) T5 Post S μ;have t:i<ws.length:=(UB.1 o).1;have bs:=B.mm;refine aQ c ?_;refine bp c [0] Y ?_;refine dF c b Y (.bool Z) (jy Y (b.of Y) (b.of Y) (by simp;omega)) λb=>?_;refine ak c ?_;refine aQ c ?_;refine dw c Z (b.of Y) ?_;refine ij c ?_;refine aQ c ?_;refine gC c ?_;refine aQ c ?_;refine bp c [0,1] Y ?_;refine cI c b λb=>?_;refine gY c b λb=>?_;refine ak c ?_;refine aQ c ?_;refine bp c [0,1,2,3] Y ?_;refine cI c b λb=>?_;refine cI c b λb=>?_;refine dF c b Y (.pointer (I ⟨wb,0+i*1,K⟩)) (fI Y (b.of Y) (b.of Y) WH Tryz.sizeOf4 t) λb=>?_;refine ri c b Y (.bool Z) (b7 Y (b.of Y) Tryz.isAgg4 (z.low wb B.wl) ((z.HJ.cell (p:=⟨wb,0+i*1,K⟩) B.wl).trans (B.wc i _ o))) λb=>?_;refine ak c ?_;refine dw c Z (b.of Y) ?_;refine aQ c ?_;have be:=v.mu i (T9 _) t o;have a0:w.cell? ⟨cT,0+i*1,K⟩=I (.chan (I (ch i))):=by
  unfold Ut;simp only[W,UU,Nat.mul_one];have:=mF (ws:=ws) (ch:=ch) (i:=ws.length) t;rw[if_pos ⟨t,o⟩] at this;simpa using this
 refine Dt (c:=ch i) (l0:=[(42,.int .i64 (i:Int)),(41,.int .i64 (ws.length:Int)),(7,.bool lB),(2,.slice (I ⟨wb,0,K⟩) ws.length gV)]) B o ((((((((b.nil.cons (b.slot 2 _ Y)).cons (b.slot 7 _ Y)).cons (b.slot 41 _ Y)).cons (b.slot 42 _ Y)).cons (b.slot 3 _ Y)).cons (b.slot 6 _ Y)).cons (b.slot 8 _ Y)).cons (b.slot 10 _ Y)) z F a0 be G a4 (by simp[dX]) λD bt ao q a' bo a9 T j u m a2=>?_;have c:=dU (aB T5) T5 Post S (gh μ (ch i) K);have a8:=z.Sp j;have H:=a8.set u ab ae aa;have br:=z.inr lb (.inr G);have av:(fw ws g V N i).toArray.toList.take i++[Vc (I ⟨q,0,K⟩) (V i).length N]++(fw ws g V N i).toArray.toList.drop (i+1)=fw ws (λd=>if d=i then q else g d) V N (i+1):=by
  rw[<-D5 o q]
 rw[av] at u;have X:=u.set;have az:ao.cell? ⟨lb,0+i*1,K⟩=I (.slice (I ⟨q,0,K⟩) (V i).length N):=by
  unfold Ut;simp only[X,UU,Nat.mul_one];have:=mL (ws:=ws) (g:=λd=>if d=i then q else g d) (V:=V) (N:=N) (i:=i+1) t;simp[o] at this;simpa using this
 have bd:=u.size;have bc:=j.rel.size;refine Eg (l0:=[(42,.int .i64 (i:Int)),(41,.int .i64 (ws.length:Int)),(8,.slice (I ⟨cT,0,K⟩) ws.length ws.length),(2,.slice (I ⟨wb,0,K⟩) ws.length gV)]) t ((((((((m.nil.cons (m.slot 2 _ Y)).cons (m.slot 8 _ Y)).cons (m.slot 41 _ Y)).cons (m.slot 42 _ Y)).cons (m.slot 3 _ Y)).cons (m.slot 6 _ Y)).cons (m.slot 10 _ Y)).cons (m.slot 7 _ Y)) H.inr (j.sub lb G) H.ob az (by unfold Ut;simp only[H.hb];rfl) λar am p a6 a3=>?_;have y:∀C,Rm.contains C=T8->∀L,(am++L).lookup C=L.lookup C:=λC al L=>by
  rw[List.lookup_append];cases e:am.lookup C with
  |none=>rfl
  |some bu=>
   have:=gR e;rw[a6] at this;have:=List.contains_iff_mem.2 this;rw[this] at al;cases al
 have f:Knows ar 73 [(42,.int .i64 (i:Int)),(41,.int .i64 (ws.length:Int)),(8,.slice (I ⟨cT,0,K⟩) ws.length ws.length),(7,.bool (lB&&(((V i).length:Int)==(N:Int)))),(6,.slice (I ⟨lb,0,K⟩) ws.length ws.length),(3,(bS bb)),(2,.slice (I ⟨wb,0,K⟩) ws.length gV)]:=
  ((((((p.nil.cons (p.slot 2 _ (y 2 Y _))).cons (p.slot 3 _ (y 3 Y _))).cons (p.slot 6 _ (y 6 Y _))).cons (p.slot 7 _ Y)).cons (p.slot 8 _ (y 8 Y _))).cons (p.slot 41 _ (y 41 Y _))).cons (p.slot 42 _ (y 42 Y _))
 refine iK c ?_;refine bp c [0,1] Y ?_;refine dF c f Y (.int .i64 ((i+1:Nat):Int)) (nP (j:=1) Y (f.of Y) Y (by omega)) λf=>?_;refine cI c f λf=>?_;refine ak c ?_;refine kW c ?_;have U:q≠lb:=by omega
 refine a5 D ao _ (λd=>if d=i then q else g d) _ _ ⟨((((((f.nil.cons (f.slot 2 _ Y)).cons (f.slot 3 _ Y)).cons (f.slot 6 _ Y)).cons (f.slot 7 _ Y)).cons (f.slot 8 _ Y)).cons (f.slot 41 _ Y)).cons (f.slot 42 _ Y),by simp only[put_defers];rw[a3,a2];simp only[put_defers];exact a1,H,j.sub cT F,?_,j.sub lb G,aa,ab,ae,ad,X,λd r l=>?_,⟨λd bm r l=>?_,λP J=>?_,v.inj,λd r l=>?_⟩,?_⟩
 ·rw[u.at_ cT (.inr (j.sub cT F)) (λe=>ad e.symm),j.rel.at_ cT (.inr F)];exact W
 ·by_cases e:d=i
  ·subst e;simp only[if_true];have:=z.HJ.size;exact⟨a9.same (u.at_ q (.inr T) U),T,U,by omega⟩
  ·obtain⟨bj,M,an,bl⟩:=ba d (by omega) l;simp only[if_neg e];exact⟨(bj.same (j.rel.at_ _ (.inr M))).same (u.at_ _ (.inr (j.sub _ M)) an),j.sub _ M,an,bl⟩
 ·have E:ch d≠ch i:=λe=>by have:=v.inj d i r t l o e;omega
  simp only[gh,E,if_false];exact v.mu d (by omega) r l
 ·have E:P≠ch i:=λe=>J (by simp[gh,e]);simp only[gh,E,if_false] at J;obtain⟨d,A,Q,aw,R⟩:=v.no P J;exact⟨d,by rcases Vz i d with h|h;exact h;have:d=i:=(by omega);subst this;exact absurd R.symm E,Q,aw,R⟩
 ·exact Ue (v.lt d r l) (Uz bc bd)
 ·rw[Ux,a7,beq_iff_eq];constructor
  ·rintro⟨A,Q⟩ d r l;by_cases e:d=i
   ·subst e;omega
   ·exact A d (by omega) l
  ·intro A;exact⟨λd r l=>A d (by omega) l,by have:=A i (by omega) o;omega⟩
end
end Cc
end Go.Proofs.YtjidbonhhpkljaaGreat
