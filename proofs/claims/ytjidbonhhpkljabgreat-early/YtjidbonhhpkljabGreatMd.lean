/- What the proof stands on, in short names. -/
import Derived.Test.YtjidbonhhpkljabGreatMc
import Derived.Deep.CutRange
set_option linter.all false
open Array renaming getD_eq_getD_getElem?->Vt,getElem?_eq_some_iff->U4,replicate->V8
open Bool renaming and_eq_true->Vr,false->U5,false_eq_true->Vv,true->Z
open Classical renaming byContradiction->Xh
open False renaming elim->YJ
open Go renaming Act->Xa,Addr->VI,Code->XQ,Ending->X6,Frame->Vg,Func->XJ,Item->XR,Oper->Ww,Operand->V4,Program->Vb,TypeId->Vc,TypeInfo->XX,Value->U,World->F,bodyPost->Xw,execOp->Vw,heap_alloc_new->Xf,heap_setCell_other->Vj,heap_setCell_same->Vl,info_parts->Wo,lt_of_block->Va,madeCells->YH,maxLen->Vp,results->V0,run_underlying->X5,typeInfo->Yc,undef->V9,zeroValue->Xl
open Go.Act renaming put->WH
open Go.Addr renaming add_lit->WZ,add_mid->YN
open Go.Addr.mk renaming injEq->Xk
open Go.Builtin renaming copy_->Yx,firstCells->XP,lenOf->YO
open Go.Conc renaming G->Vd
open Go.Frame renaming enter->VU
open Go.IntKind renaming i64->ZA,u64->Xu
open Go.Proofs.Tryz renaming f25->Yh,f39->VZ,f40->XM,f60->Xd,f61->Zc,isAgg3->Zt,prog->U1,sizeOf3->Y5,underlying106->XT,underlying55->YG,underlying68->X3,underlying98->Xp
open Go.Region renaming binds->Wn,ready->VX,wanted->VA
open Go.Region.linearise renaming go->V5
open Go.RowKit renaming intOf->V3,wrap64->Wj
open Go.RowKit.Below renaming heap_alloc->VH,refl->Vi
open Go.Value renaming bool->XU,cells->WV,int->Xm,slice->VR
open Go.Value.slice renaming injEq->V7
open Go.World renaming cell?->Ve,frozen?->VW,ownsRow_nil->Xj
open Go.World.grownBy renaming block->XI
open Int renaming eq_ofNat_of_zero_le->XO
open List renaming all_eq_true->Vx,append_assoc->Vu,append_nil->WM,drop_eq_getElem_cons->Xy,flatMap_append->Wi,flatMap_cons->Xq,flatMap_singleton->Wd,getD_eq_getElem?_getD->Vk,getElem?_append_left->Wx,getElem?_append_right->Wb,getElem?_eq_getElem->Vf,getElem?_eq_none->XK,getElem?_eq_some_iff->Vs,getElem?_take->Xg,getElem_map->YR,getElem_mem->Vn,getElem_of_mem->WN,length->Ym,length_append->U8,length_cons->WS,length_drop->Yd,length_eq_zero_iff->Xn,length_map->VQ,length_nil->Y1,length_take->WB,map_append->V1,map_cons->Yy,map_singleton->Xz,mem_map->Wu,mem_of_getElem?->Wv,mem_range->WK,range->VS,replicate->VP,setIfInBounds_toArray->Vq,set_cons_succ->Vz,set_cons_zero->VD,take_append_drop->X4,take_length->Wh,take_of_length_le->VJ,take_succ_eq_append_getElem->Vh
open List.cons renaming injEq->Yl
open Nat renaming le_refl->U7,le_trans->Vm,lt_of_lt_of_le->U9,lt_or_ge->WG,mul_one->Ze,zero_add->VV,zero_le->VB
open Option renaming bind_eq_some_iff->VO,map_eq_some_iff->XB,none->K,some->I
open Option.some renaming injEq->VY
open Or renaming inr->ZD
open Prod renaming fst->Vy,snd->WD
set_option maxRecDepth 100000
set_option maxHeartbeats 8000000
namespace Go.Proofs.YtjidbonhhpkljabGreat
namespace Ec
open Go.RowKit Pk Pm
def yA{α d:Type}{f g:α->List d}{l:List α}(h:∀x∈l,f x=g x):l.flatMap f=l.flatMap g:=by
 induction l with
 |nil=>rfl
 |cons x e b=>rw[Xq,Xq,h x (by simp),b (λc a=>h c (by simp[a]))]
def tw {α:Type}(ok:Nat->α->Prop)(l:List α):Prop:=∀a (b:a<l.length),ok a l[a]
def tw.snoc{α:Type}{ok:Nat->α->Prop}{l:List α}{x:α}(h:tw ok l)(d:ok l.length x):tw ok (l++[x]):=by
 intro b c;rcases WG b l.length with a|a
 ·rw[List.getElem_append_left a];exact h b a
 ·have:b=l.length:=by simp at c;omega
  subst this;simpa using d
def tw.at{α:Type}{ok:Nat->α->Prop}{l r:List α}{x:α}(h:tw ok (l++x::r)):ok l.length x:=by
 have:=h l.length (by simp);simpa using this
structure Q2{α:Type}(E G:List α->List Nat)(ok:Nat->α->Prop)(B:List Nat)(p:Nat)(C:List Nat)(q cn:Nat)(l:List α):Prop where
 le:l.length<=cn
 Sn:tw ok l
 st:ai B p (E l)
 sc:ai C q (G l)
 JJ:∀L:List α,L.length=cn->tw ok L->ai B p (E L)->ai C q (G L)->∃m,L=l++m
def Q2.zero{α:Type}{E G:List α->List Nat}{ok:Nat->α->Prop}{B C:List Nat}{p q cn:Nat}(b:E []=[])(h1:G []=[]):Q2 E G ok B p C q cn []:=
 ⟨VB _,λd c=>by simp at c,by rw[b];exact nl _ _,by rw[h1];exact nl _ _,λa _ _ _ _=>⟨a,rfl⟩⟩
def Q2.next{α:Type}{E G:List α->List Nat}{ok:Nat->α->Prop}{e g:List α->α->List Nat}{B C:List Nat}{p q cn:Nat}{l:List α}(h:Q2 E G ok B p C q cn l)(c:∀l x,E (l++[x])=E l++e l x)(d:∀l x,G (l++[x])=G l++g l x)(k:l.length<cn)
 (L:List α) (hL:L.length=cn) (f:tw ok L) (b:ai B p (E L)) (hc:ai C q (G L)):∃x m,L=(l++[x])++m/\ok l.length x/\ai B (p+(E l).length) (e l x)/\ai C (q+(G l).length) (g l x):=by
 obtain⟨m,rfl⟩:=h.JJ L hL f b hc;cases m with
 |nil=>simp at hL;omega
 |cons x a=>
  obtain⟨n,i⟩:=zK c (l++[x]) a;obtain⟨o,j⟩:=zK d (l++[x]) a;refine⟨x,a,by simp,f.at,?_,?_⟩
  ·rw[show l++x::a=l++[x]++a by simp,i,c,Vu,ap,ap] at b;exact b.2.1
  ·rw[show l++x::a=l++[x]++a by simp,j,d,Vu,ap,ap] at hc;exact hc.2.1
def Q2.more{α:Type}{E G:List α->List Nat}{ok:Nat->α->Prop}{e g:List α->α->List Nat}{B C:List Nat}{p q cn:Nat}{l:List α}(h:Q2 E G ok B p C q cn l)(b:∀l x,E (l++[x])=E l++e l x)(c:∀l x,G (l++[x])=G l++g l x)(o:l.length<cn)
 {x:α} (v:ok l.length x) (s:ai B (p+(E l).length) (e l x)) (hc:ai C (q+(G l).length) (g l x)) (u:∀y,ok l.length y->ai B (p+(E l).length) (e l y)->ai C (q+(G l).length) (g l y)->y=x):Q2 E G ok B p C q cn (l++[x]):=by
 refine⟨by simp;omega,h.Sn.snoc v,by rw[b,ap];exact⟨h.st,s⟩,by rw[c,ap];exact⟨h.sc,hc⟩,?_⟩;intro d k r t n;obtain⟨y,m,a,f,i,j⟩:=h.next b c o d k r t n;rw[u y f i j] at a;exact⟨m,a⟩
def Q2.fail{α:Type}{E G:List α->List Nat}{ok:Nat->α->Prop}{e g:List α->α->List Nat}{B C:List Nat}{p q cn:Nat}{l:List α}(h:Q2 E G ok B p C q cn l)(d:∀l x,E (l++[x])=E l++e l x)(f:∀l x,G (l++[x])=G l++g l x)(j:l.length<cn)
 (o:∀y,ok l.length y->ai B (p+(E l).length) (e l y)->¬ai C (q+(G l).length) (g l y)) (L:List α) (hL:L.length=cn) (k:tw ok L) (n:ai B p (E L)):¬ai C q (G L):=by
 intro i;obtain⟨y,m,r,a,b,c⟩:=h.next d f j L hL k n i;exact o y a b c
def Q2.done{α:Type}{E G:List α->List Nat}{ok:Nat->α->Prop}{B C:List Nat}{p q cn:Nat}{l:List α}(h:Q2 E G ok B p C q cn l)(f:¬l.length<cn):
 l.length=cn/\(∀L:List α,L.length=cn->tw ok L->ai B p (E L)->ai C q (G L)->L=l):=by
 have d:l.length=cn:=by have:=h.le;omega
 refine⟨d,?_⟩;intro L a b e c;obtain⟨m,rfl⟩:=h.JJ L a b e c;rw[U8] at a;have:m=[]:=Xn.1 (by omega);rw[this];simp
structure jJ(r q:Nat)(w w':F):Prop where
 os:w'.os=w.os
 tape:w'.tape=w.tape
 output:w'.output=w.output
 size:w.heap.size<=w'.heap.size
 block:∀i,i<w.heap.size->i≠r->i≠q->w'.heap[i]? =w.heap[i]?
def jJ.refl(r q:Nat)(w:F):jJ r q w w:=⟨rfl,rfl,rfl,U7 _,λ_ _ _ _=>rfl⟩
def jJ.trans{r q:Nat}{w e f:F}(h:jJ r q w e)(k:jJ r q e f):jJ r q w f:=
 ⟨k.os.trans h.os,k.tape.trans h.tape,k.output.trans h.output,Vm h.size k.size,λd c a b=>(k.block d (U9 c h.size) a b).trans (h.block d c a b)⟩
def jJ.jm{r q:Nat}{w a:F}(h:Kp r w a):jJ r q w a:=⟨h.os,h.tape,h.output,h.size,λe d c _=>XI h e d (λb=>c (by cases b;rfl))⟩
def jJ.EP{r q:Nat}{w a:F}(h:Kp q w a):jJ r q w a:=⟨h.os,h.tape,h.output,h.size,λe d _ c=>XI h e d (λb=>c (by cases b;rfl))⟩
def jJ.cr{r q:Nat}{w a:F}(h:aQ w a):jJ r q w a:=⟨h.os,h.tape,h.output,h.size,λc b _ _=>h.block c b⟩
def jJ.alloc{r q:Nat}{w a:F}(h:jJ r q w a)(o:Obj):jJ r q w (a.alloc o):=h.trans (jJ.jm (Kp.alloc (Kp.refl r a) o))
def jJ.grown{r q:Nat}{w d e:F}{c:Option Nat}(h:jJ r q w d)(k:d.grownBy e c)(l:∀g,c=I g->w.heap.size<=g):jJ r q w e:=
 ⟨k.os.trans h.os,k.tape.trans h.tape,k.output.trans h.output,Vm h.size k.size,λa b i j=>(k.block a (U9 b h.size) (λf=>by have:=l a f.symm;omega)).trans (h.block a b i j)⟩
def jJ.keep{r q:Nat}{w a:F}(k:jJ r q w a){i:Nat}{o:Obj}(h:w.heap[i]? =I o)(h1:i≠r)(b:i≠q):a.heap[i]? =I o:=by
 rw[k.block i (Va h) h1 b];exact h
def jJ.own{r q:Nat}{w d:F}{base e c n:Nat}{v:U}{f:List U}(k:jJ r q w d)(h:w.ownsRow base e c v n f)(p:r<base)(o:q<base):d.ownsRow base e c v n f:=by
 refine⟨h.1,?_⟩;rcases h.2 with l|⟨a,g,i,rfl,j,b,m⟩
 ·exact .inl l
 ·refine .inr ⟨a,g,i,rfl,j,?_,m⟩;rw[k.block a (Va b) (by omega) (by omega)];exact b
def L9 (cs:List bQ)(l:List j8)(c:j8):List Nat:=aH c.text.size++cw (cs.getD l.length ⟨⟨#[]⟩,0⟩).kind c.eU
def wV (cs:List bQ)(l:List j8):List Nat:=eY cs l l.length
def uR(cs:List bQ)(l:List j8)(c:j8):wV cs (l++[c])=wV cs l++L9 cs l c:=by
 unfold wV;rw[U8,List.length_singleton,v8];have b:eY cs (l++[c]) l.length=eY cs l l.length:=by
  unfold eY;refine yA (λe a=>?_);have a:=WK.1 a;unfold sq;rw[Vk,Wx a,<-Vk]
 have d:sq cs (l++[c]) l.length=L9 cs l c:=by
  unfold sq L9;rw[Vk (l:=l++[c]),Wb (U7 _)];simp
 rw[b,d]
structure Gh(cs:List bQ)(i:Nat)(c:j8):Prop where
 n:c.text.size<2147483648
 b:Ma (cs.getD i ⟨⟨#[]⟩,0⟩).kind c.eU
structure eL(cs:List bQ)(b:Bd):Prop where
 lo:1<=b.rows
 hi:b.rows<=100
 len:b.chunks.length=cs.length
 each:tw (Gh cs) b.chunks
def J2{k:Int}(l:k=1\/k=2\/k=3){B:List Nat}{p:Nat}{b b':lZ}(h:Ma k b)(d:Ma k b')(c:ai B p (cw k b))(a:ai B p (cw k b')):b=b':=by
 have m:∀{b b':lZ},b=cK->b'.there=Z->ai B p (cw k b)->ai B p (cw k b')->False:=by
  rintro b b' rfl w c a;unfold cw at a;rw[if_pos w] at a;have:=iD (show ai B p [0] from c) (ap.1 a).1 Y;simp at this
 rcases h with h|⟨e,r,t,x⟩<;>rcases d with d|⟨f,s,u,y⟩
 ·rw[h,d]
 ·exact(m h f c a).elim
 ·exact(m d e a c).elim
 ·unfold cw at c a;rw[if_pos e] at c;rw[if_pos f] at a;obtain⟨n,i⟩:=ap.1 (ap.1 c).2;obtain⟨o,q⟩:=ap.1 (ap.1 a).2;have g:=mA l r s n o;rw[g] at i;have j:=mA l t u i q;obtain⟨z,C,v⟩:=b;obtain⟨A,D,E⟩:=b';simp only at e f g j;rw[e,f,g,j]
def RQ{cs:List bQ}{l:List j8}(n:(cs.getD l.length ⟨⟨#[]⟩,0⟩).kind=1\/(cs.getD l.length ⟨⟨#[]⟩,0⟩).kind=2\/(cs.getD l.length ⟨⟨#[]⟩,0⟩).kind=3){B C:List Nat}{p q:Nat}{x y:j8}(g:Gh cs l.length x)(h:Gh cs l.length y)(e:ai B p (L9 cs l x))(f:ai B p (L9 cs l y))(hc:ai C q (bytesOf x.text))(m:ai C q (bytesOf y.text)):y=x:=by
 unfold L9 at e f;obtain⟨i,j⟩:=ap.1 e;obtain⟨k,a⟩:=ap.1 f;have b:=ct (by have:=h.n;omega) (by have:=g.n;omega) k i;rw[b] at a;have c:=J2 n h.b g.b a j;have d:=nK (iD m hc (by rw[ak,ak,b]));obtain⟨o,s⟩:=x;obtain⟨r,t⟩:=y;simp only at c d;rw[c,d]
def Cd.cS{w:F}{base:Nat}{v:U}{l:List bQ}(h:w.ownsRow base 51 2 v l.length (ij l)):Cd w v l:=by
 rcases h.2 with⟨rfl,g⟩|⟨c,f,j,rfl,k,o,i,m,n,p⟩
 ·have:l=[]:=List.eq_nil_of_length_eq_zero g;subst this;exact⟨K,0,0,0,rfl,U7 _,⟨λh=>by simp at h,λh=>by simp at h,λb h=>by simp at h,λb h=>by simp at h⟩⟩
 ·have e:=h.cells (g:=c) Y;refine⟨I ⟨c,0,K⟩,c,0,f,rfl,i,⟨λ_=>rfl,λ_=>(h.lt c Y).2,λb d=>?_,λb d=>?_⟩⟩
  ·have:=e _ _ (mg (λa:bQ=>[Value.string a.name,Xm .i64 a.kind]) 2 (λ_=>rfl) l b d 0 _ Y);simpa [WZ] using this
  ·have:=e _ _ (mg (λa:bQ=>[Value.string a.name,Xm .i64 a.kind]) 2 (λ_=>rfl) l b d 1 _ Y);simpa [WZ] using this
def gh (bs:List Bd):Nat:=(bs.map λa=>a.rows).sum
def Hy(bs:List Bd)(b:Bd):gh (bs++[b])=gh bs+b.rows:=by simp[gh]
def Hz(bs:List Bd)(k:Nat)(h:k<bs.length):gh (bs.take (k+1))=gh (bs.take k)+bs[k].rows:=by
 rw[Vh h,Hy]
def Fh(bs:List Bd)(h:∀b∈bs,b.rows<=100):gh bs<=bs.length*100:=by
 induction bs with
 |nil=>simp[gh]
 |cons b g d=>
  have f:=h b (by simp);have a:=d (λe c=>h e (by simp[c]));simp[gh] at a ⊢;omega
def zB(bs:List Bd)(h:∀b∈bs,1<=b.rows):bs.length<=gh bs:=by
 induction bs with
 |nil=>simp[gh]
 |cons b g d=>
  have f:=h b (by simp);have a:=d (λe c=>h e (by simp[c]));simp[gh] at a ⊢;omega
def AW{P:Vb}(w:F)(e z ty f:Vc)(g o c k:Nat)(a:VI)(d y s:Nat)(b:Array U)(t:Vc)(cs:List U)(i:XX)
 (x:P.underlying e=I (.slice f)) (n:P.info? f=I i) (q:i.size=s) (m:w.heap[g]? =I (.cells b t (0,0))) (p:cs.length=Nat.min d c*s)
 (r:∀j v,cs[j]? =I v->w.cell? (a.add j)=I v) (l:o+cs.length<=b.size) (h1:∀v∈cs,v.oneCell'=Z):
 (Yx #[e,z] ty #[.slice (I ⟨g,o,K⟩) c k,.slice (I a) d y]).run P w= .ok (goInt (Nat.min d c)) (w.setRow g (b.toList.take o++cs++b.toList.drop (o+cs.length)).toArray):=by
 have h:=run_loadCells_list (P:=P) w a cs r;have u:=run_storeCells_at P g o t cs 0 b w m (by simpa using l) h1;rw[p] at h;simp[Yx,X5 x,YO,XP,sizeOf,Yc,n,q,h,u]
def sZ{P:Vb}(w:F)(e o ty f:Vc)(d a:Option VI)(c h g n:Nat)(i:XX)(m:P.underlying e=I (.slice f))(j:P.info? f=I i)(l:Nat.min g c=0):
 (Yx #[e,o] ty #[.slice d c h,.slice a g n]).run P w= .ok (goInt 0) w:=by
 have k:∀(b:VI),(loadCells b 0).run P w= .ok #[] w:=λb=>by simpa using run_loadCells_list (P:=P) w b [] (by simp)
 cases d<;>cases a<;>simp[Yx,X5 m,YO,XP,sizeOf,Yc,j,l,storeCells,k]
def zeroV:aC:=⟨U5,0,⟨#[]⟩⟩
def IJ(L:List aC):∀(j:Nat) (v:aC),j<L.length->(((az L).set (j*3) (.bool v.null)).set (j*3+1) (.int .i64 v.n)).set (j*3+2) (.string v.s)=az (L.set j v):=by
 induction L with
 |nil=>intro j v a;simp at a
 |cons d c b=>
  intro j v a;cases j with
  |zero=>simp[nR]
  |succ j=>
   have:=b j v (by simpa using a);rw[Vz,nR,nR,<-this];rw[show(j+1)*3=j*3+1+1+1 by omega];simp[Vz]
def Af(l:List aC):∀v∈az l,v.oneCell'=Z:=by
 intro v a;unfold az at a;obtain⟨c,_,b⟩:=List.mem_flatMap.1 a;exact fU c v b
def KI(n:Nat):(YH (WV (.agg #[.bool U5,.int .i64 0,.string ⟨#[]⟩])) (n*3)).toList=az (VP n zeroV):=by
 apply List.ext_getElem?;intro b;by_cases c:b<n*3
 ·obtain⟨a,h,g⟩:∃a,a<n/\(b=a*3\/b=a*3+1\/b=a*3+2):=⟨b/3,by omega,by omega⟩;obtain⟨d,e,f⟩:=gP (VP n zeroV) a (by simpa using h);rw[List.getElem_replicate] at d e f;rcases g with rfl|rfl|rfl
  ·rw[d];simp[YH,WV,zeroV,c]
  ·rw[e];simp[YH,WV,zeroV,c,show(a*3+1)%3=1 by omega]
  ·rw[f];simp[YH,WV,zeroV,c,show(a*3+2)%3=2 by omega]
 ·rw[XK (by simp[size_madeCells];omega),XK (by rw[fH];simp;omega)]
def Ak{w:F}{base g n:Nat}{a:List U}(h:w.heap[g]? =I (.cells a.toArray 54 (0,0)))(b:a.length=n*3)(c:base<=g)(d:n<=Vp):
 w.ownsRow base 54 3 (.slice (I ⟨g,0,K⟩) n n) n a:=
 ⟨b,.inr ⟨g,n,a.toArray,rfl,c,h,U7 _,d,by simp[b],by simp;exact VJ (by omega)⟩⟩
def Ad{w:F}{base g n:Nat}{b:List U}(h:w.ownsRow base 54 3 (.slice (I ⟨g,0,K⟩) n n) n b):w.heap[g]? =I (.cells b.toArray 54 (0,0)):=by
 rcases h.2 with⟨a,_⟩|⟨j,i,c,a,_,d,_,_,e,f⟩
 ·simp at a
 ·simp only[V7,VY,Xk,and_true,true_and] at a;obtain⟨rfl,rfl⟩:=a;rw[d];have:c.toList=b:=by rw[<-f];exact(VJ (by simp[e])).symm
  rw[<-this]
def Ax(a b:List bQ):ij (a++b)=ij a++ij b:=by simp[ij]
def Bj(l:List bQ)(j:Nat)(h:j<l.length):(ij l)[j*2]? =I (.string l[j].name)/\(ij l)[j*2+1]? =I (.int .i64 l[j].kind):=
 ⟨mg _ 2 (λ_=>rfl) l j h 0 _ Y,mg _ 2 (λ_=>rfl) l j h 1 _ Y⟩
def av.Sb:((ax U1).info? 51).map (λi=>(i.zero,i.size,i.bytes))=I (I (.agg #[.string ⟨#[]⟩,.int .i64 0]),2,24):=by kernel_rfl
def DN (y:bQ×Int):List Nat:=aH y.1.name.size++(bytesOf y.1.name++[byteOf y.1.kind,byteOf y.2])
def rY (l:List (bQ×Int)):List Nat:=l.flatMap DN
def rE(l:List (bQ×Int))(y:bQ×Int):rY (l++[y])=rY l++DN y:=by
 unfold rY;rw[Wi,Wd]
def Qj(y:bQ×Int):1<=(DN y).length:=by unfold DN;simp;omega
def NK(l:List (bQ×Int)):l.length<=(rY l).length:=by
 induction l with
 |nil=>simp
 |cons b c a=>
  have:=Qj b;unfold rY at a ⊢;rw[Xq,U8,WS];omega
structure Gl(y:bQ×Int):Prop where
 n:y.1.name.size<2147483648
 k0:0<=y.1.kind
 k1:y.1.kind<256
 e0:0<=y.2
 e1:y.2<256
def Bb{x:Int}(a:0<=x)(h1:x<256):(byteOf x:Int)=x:=by unfold byteOf;omega
def CQ{B:List Nat}{p v:Nat}{y:bQ×Int}(b:Gl y)(c:v<2147483648)(a:ai B p (aH v))(h:ai B p (DN y)):y.1.name.size=v:=by
 unfold DN at h;exact ct (by have:=b.n;omega) (by omega) (ap.1 h).1 a
def CR{B:List Nat}{p v:Nat}{x:ByteArray}{y:bQ×Int}(i:Gl y)(f:v<2147483648)(d:ai B p (aH v))(g:x.size=v)(e:ai B (p+(aH v).length) (bytesOf x))(h:ai B p (DN y)):y.1.name=x/\ai B (p+(aH v).length+v) [byteOf y.1.kind,byteOf y.2]:=by
 have a:=CQ i f d h;unfold DN at h;obtain⟨c,b⟩:=ap.1 (ap.1 h).2;rw[a] at c b;have:=nK (iD c e (by rw[ak,ak,a,g]));rw[ak,a] at b;exact⟨this,b⟩
def Sv{B:List Nat}{p v e b:Nat}{x:ByteArray}{y:bQ×Int}(a:Gl y)(r:v<2147483648)(m:ai B p (aH v))(s:x.size=v)(n:ai B (p+(aH v).length) (bytesOf x))(o:ai B (p+(aH v).length+v) [e])(q:ai B (p+(aH v).length+v+1) [b])(h:ai B p (DN y)):y=(⟨x,(e:Int)⟩,(b:Int)):=by
 obtain⟨i,j⟩:=CR a r m s n h;obtain⟨k,l⟩:=eS.1 j;have f:byteOf y.1.kind=e:=by have:=k.symm.trans (dA.1 o);simpa using this
 have g:byteOf y.2=b:=by have:=(dA.1 l).symm.trans (dA.1 q);simpa using this
 have c:=Bb a.k0 a.k1;have d:=Bb a.e0 a.e1;obtain⟨⟨w,u⟩,t⟩:=y;simp only at i f g c d;rw[f] at c;rw[g] at d;rw[i,c,d]
def KV{B:List Nat}{p v b a:Nat}{x:ByteArray}(f:ai B p (aH v))(c:x.size=v)(g:ai B (p+(aH v).length) (bytesOf x))(h:ai B (p+(aH v).length+v) [b])(i:ai B (p+(aH v).length+v+1) [a])(h1:b<256)(j:a<256):ai B p (DN (⟨x,(b:Int)⟩,(a:Int)))/\(DN (⟨x,(b:Int)⟩,(a:Int))).length=(aH v).length+v+1+1:=by
 have d:byteOf (b:Int)=b:=by unfold byteOf;omega
 have e:byteOf (a:Int)=a:=by unfold byteOf;omega
 unfold DN;simp only[d,e,c];refine⟨ap.2 ⟨f,ap.2 ⟨g,?_⟩⟩,by simp[ak,c];omega⟩;rw[ak,c];exact eS.2 ⟨dA.1 h,i⟩
def om (l:List (bQ×Int)):Prop:=mF (l.map Vy)/\nU (l.map Vy) (l.map WD)
def om.each{l:List (bQ×Int)}(h:om l):(∀y∈l,Gl y)/\l.length<2147483648:=by
 obtain⟨⟨j,e,f⟩,k,g⟩:=h;refine⟨λy i=>?_,by simp at e;omega⟩;obtain⟨a,b,rfl⟩:=WN i;have d:=(f a (by simpa using b)).1;have c:=g a (by simpa using b);simp only[YR,pX,gC,Vr,decide_eq_true_eq] at d;rw[show(l.map WD).getD a 0=l[a].2 by simp[b]] at c;simp only[YR,bw,gC,Bool.or_eq_true,Vr,decide_eq_true_eq,beq_iff_eq] at c;exact⟨by omega,by omega,by omega,by omega,by omega⟩
def za (l:List (bQ×Int)):List Nat:=aH l.length++rY l
def Cut (s:ByteArray)(C a:List Nat):Prop:=s.size<=65536/\bytesOf s=dQ++(C++(a++(iJ a.length++dQ)))
def Cut.len{s:ByteArray}{C a:List Nat}(h:Cut s C a):s.size=C.length+a.length+12:=by
 have:=congrArg Ym h.2;rw[ak] at this;simp[dQ,iJ] at this;omega
def Nt{a b:Nat}(c:a<=65536)(d:b<=65536)(h:iJ a=iJ b):a=b:=by
 unfold iJ at h;simp at h;omega
def Cut.JJ{s:ByteArray}{C a b F':List Nat}(h:Cut s C a)(c:Cut s b F'):C=b/\a=F':=by
 have l:=h.len;have m:=c.len;have k:=h.1;have d:=h.2.symm.trans c.2;have e:=List.append_cancel_left d;have f:(C++a)++(iJ a.length++dQ)=(b++F')++(iJ F'.length++dQ):=by rw[Vu,Vu];exact e
 obtain⟨g,i⟩:=List.append_inj' f (by simp[iJ]);have j:=Nt (by omega) (by omega) (List.append_cancel_right i);exact List.append_inj' g j
def ri (l:List (bQ×Int))(bs:List Bd):List Nat:=za l++(aH bs.length++cX (l.map Vy) bs)
structure xu(l:List (bQ×Int))(bs:List Bd):Prop where
 pl:om l
 cj:∀b∈bs,eL (l.map Vy) b
 rows:gh bs<=2000
def gQ (s:ByteArray)(l:List (bQ×Int))(bs:List Bd):Prop:=xu l bs/\Cut s (bO bs) (ri l bs)
def J9(l:List (bQ×Int)):∀n,n<=l.length->jd (l.map Vy) (l.map WD) n=rY (l.take n):=by
 intro n
 induction n with
 |zero=>intro _;simp[jd,rY]
 |succ n c=>
  intro d;rw[yl,c (by omega),Vh (by omega),rE];congr 1;unfold Cw DN;have a:(l.map Vy).getD n ⟨⟨#[]⟩,0⟩=l[n].1:=by rw[Vk,Vf (by rw[VQ];omega)];simp
  have b:(l.map WD).getD n 0=l[n].2:=by rw[Vk,Vf (by rw[VQ];omega)];simp
  rw[a,b]
def M7(l:List (bQ×Int))(bs:List Bd):jO (l.map Vy) (l.map WD) bs=ri l bs:=by
 unfold jO ri za;rw[J9 l _ (by simp),VQ,Wh,Vu]
structure mE(w W:F)(g r q n:Nat)(kv:U)(l:List j8):Prop where
 res:W.heap[w.heap.size]? =I (.cells #[.int .i64 0,.slice K 0 0] 98 (0,0))
 box:W.heap[g]? =I (.cells #[.int .i64 (n:Int),kv] 98 (0,0))
 own:W.ownsRow w.heap.size 102 8 kv l.length (ei l)
 kp:jJ r q w W
def mE.step{w a b:F}{g r q n:Nat}{c:U}{l:List j8}(h:mE w a g r q n c l)(e:r<w.heap.size)(d:q<w.heap.size)(f:w.heap.size<g)(k:jJ r q a b):mE w b g r q n c l:=
 ⟨k.keep h.res (by omega) (by omega),k.keep h.box (by omega) (by omega),k.own h.own e d,h.kp.trans k⟩
def mE.below{w b c:F}{g r q n:Nat}{d:U}{l:List j8}(h:mE w b g r q n d l)(a:aQ b c):mE w c g r q n d l:=
 ⟨(a.block _ (Va h.res)).trans h.res,(a.block _ (Va h.box)).trans h.box,aR h.own a,h.kp.trans (jJ.cr a)⟩
def mE.cells{w a:F}{g r q n:Nat}{c:U}{l:List j8}(h:mE w a g r q n c l):
 a.cell? ⟨g,0,K⟩=I (.int .i64 (n:Int))/\a.cell? ⟨g,1,K⟩=I c/\a.frozen? ⟨g,1,K⟩=U5:=by
 have b:=h.box;exact⟨by simp[Ve,b],by simp[Ve,b],by simp[VW,b]⟩
def mE.kept{w c a:F}{g r q n:Nat}{b f:U}{l:List j8}(h:mE w c g r q n b l)(e:aY c a b f):
 a.cell? ⟨g,1,K⟩=I b/\a.frozen? ⟨g,1,K⟩=U5:=by
 have d:=(e.gZ.block _ (Va h.box) (bh h.own h.box (by decide))).trans h.box;exact⟨by simp[Ve,d],by simp[VW,d]⟩
def mE.lT{w e b:F}{g r q n:Nat}{k a:U}{l d:List j8}(h:mE w e g r q n k l)(t:w.heap.size<g)(c:aY e b k a)(j:b.ownsRow w.heap.size 102 8 a d.length (ei d)):
 mE w (b.setCell ⟨g,1,K⟩ a) g r q n a d:=by
 have o:=(c.gZ.block _ (Va h.res) (bh h.own h.res (by decide))).trans h.res;have i:=(c.gZ.block _ (Va h.box) (bh h.own h.box (by decide))).trans h.box;have p:=Vl b g 1 _ _ a i;refine⟨?_,p,?_,?_⟩
 ·rw[Vj _ _ _ _ (by simp;omega)];exact o
 ·exact j.kept (aL b _ 1 a) (.inr (bh j i (by decide)).symm)
 ·exact(h.kp.grown c.gZ (λf s=>(h.own.lt f s).1)).grown (aL b g 1 a) (λf m=>by cases m;omega)
def mE.reader{w a b:F}{g r q n:Nat}{d e:U}{l:List j8}(h:mE w a g r q n d l)(k:w.heap.size<g)(j:aY a b d e){i:Nat}{o:Obj}(m:i<w.heap.size)(c:a.heap[i]? =I o):(b.setCell ⟨g,1,K⟩ e).heap[i]? =I o:=by
 rw[Vj _ _ _ _ (by simp;omega),j.gZ.block i (Va c) (λf=>by have:=(h.own.lt i f.symm).1;omega)];exact c
def Ti (cs:List bQ)(w:F)(r p:Nat)(s:ByteArray)(q t:Nat)(z:ByteArray)(e:X6)(w':F):Prop:=
 jJ r q w w'/\((∃(a:Bd) (c:U),e= .returned (.agg #[.int .i64 (a.rows:Int),c])/\eL cs a/\ai (bytesOf s) p (eB cs a)/\p+(eB cs a).length<=s.size/\w'.heap[r]? =I (bY s (p+(eB cs a).length))/\ai (bytesOf z) t (b9 a.chunks)/\t+(b9 a.chunks).length<=z.size/\w'.heap[q]? =I (bY z (t+(b9 a.chunks).length))/\
  w'.ownsRow w.heap.size 102 8 c a.chunks.length (ei a.chunks)/\(∀b,eL cs b->ai (bytesOf s) p (eB cs b)->ai (bytesOf z) t (b9 b.chunks)->b=a))\/
  (∃m,e= .panicked (ez m)/\∀a,eL cs a->ai (bytesOf s) p (eB cs a)->¬ai (bytesOf z) t (b9 a.chunks)))
def Km(co z:Option VI)(cn v y x base:Nat)(s:U)(L:List (Bd×U))(w:F)(m:iY w base s L)(ab:L.length<=65536)(M:∀b∈L.map Vy,b.rows<=100):
 bK 72 #[.agg #[.slice co cn v,.slice z y x,s]] w λe w'=>e= .returned (.int .i64 (gh (L.map Vy):Int))/\aQ w w':=by
 have C:∀p∈L,∃h g d,p.2= .slice h g d:=λp I=>by
  obtain⟨h,d,A⟩:=cF (m.each p I);exact⟨h,_,d,A⟩
 obtain⟨R,Q,D⟩:=cF m.own;have n:=Ry.cS rf m.own;subst D;obtain⟨P,j,k,V,E,n⟩:=n;cases E;have i:=af n;have u:=af C;have r:=af M;go_enter av.func72,Tryz.ntmps72
 go_wp2_with fail
 go_loopw [3,9] (λg o wr=>∃a:Nat,a<=L.length/\o= .int .i64 (a:Int)/\g= .int .i64 (gh ((L.map Vy).take a):Int)/\aQ w wr) (λ_ o _=>L.length-(V3 o).toNat)
 case atStart=>exact⟨0,VB _,rfl,rfl,(Vi _ _).alloc (U7 _) _⟩
 case round=>
  obtain⟨a,aa,rfl,rfl,c⟩:=hrel;have q:=af c;have N:=c.size;by_cases f:a<L.length
  ·have H:a<(L.map Vy).length:=by rw[VQ];exact f
   have l:X (gh ((L.map Vy).take (a+1))=gh ((L.map Vy).take a)+L[a].1.rows):=by
    show _=_;rw[Hz _ _ H];simp
   have ae:gh ((L.map Vy).take a)<=65536*100:=by
    have W:=Fh ((L.map Vy).take a) (λb c=>r.o b (List.mem_of_mem_take c));have B:((L.map Vy).take a).length<=65536:=by simp;omega
    have Z:=Nat.mul_le_mul_right 100 B;omega
   have ad:L[a].1.rows<=100:=r.o _ (Wu.2 ⟨L[a],Vn f,rfl⟩);obtain⟨h,g,d,J⟩:=u.o L[a] (Vn f);have G:=i.o.addr (by omega);subst G;have t:=i.o.lt (by omega);have S:cD wr j (k+a*2) (.int .i64 (L[a].1.rows:Int)):=(c.cell (p:=⟨j,k+a*2,K⟩) t).trans (i.o.c a f 0 _ Y);have T:cD wr j (k+a*2+1) (.slice h g d):=(c.cell (p:=⟨j,k+a*2+1,K⟩) t).trans (by rw[<-J];exact i.o.c a f 1 _ Y);generalize L[a].1.rows=al at*;generalize gh ((L.map Vy).take a)=O at*
   go_wp2_with fail
   go_roundw
   case rel=>exact⟨a+1,by omega,by go_num,by rw[l.o];go_num,q.o.alloc N _⟩
   case measure=>simp[V3];omega
  ·obtain rfl:a=L.length:=by omega
   have l:X ((L.map Vy).take L.length=L.map Vy):=by show _=_;rw[<-VQ (f:=Vy),Wh]
   go_wp2;go_ret;exact⟨by first|rfl|(rw[l.o];rfl),q.o⟩
def Rs{n:Nat}(h:n<256):Wj (n:Int)=(n:Int)/\ZA.wrap (n:Int)=(n:Int):=by
 constructor
 ·unfold Wj;omega
 ·rw[IntKind.wrap_i64];omega
def Tj (w:F)(r p:Nat)(s:ByteArray)(e:X6)(w':F):Prop:=
 Kp r w w'/\((∃(a:List (bQ×Int)) (c d:U),e= .returned (.tuple #[c,d])/\om a/\ai (bytesOf s) p (za a)/\p+(za a).length<=s.size/\w'.heap[r]? =I (bY s (p+(za a).length))/\w'.ownsRow w.heap.size 51 2 c a.length (ij (a.map Vy))/\w'.ownsRow w.heap.size 3 1 d a.length (bq (a.map WD))/\(∀b,om b->ai (bytesOf s) p (za b)->b=a))\/
  (∃f,e= .panicked (ez f)/\∀a,om a->¬ai (bytesOf s) p (za a)))
def wZ(r p:Nat)(s:ByteArray)(w:F)(gf:s.size<=65536)(fd:p<=s.size)(h:w.heap[r]? =I (bY s p)):
 bK 69 #[(aP r)] w (Tj w r p s):=by
 obtain⟨f3,e1,f0,f1,f2⟩:=Wo av.Sb;obtain⟨f4,fe,fv,fx,fz⟩:=Wo av.EF;have y:=Va h;have N:s.size<=Vp:=by unfold Vp;omega
 have d1:=af h;go_enter av.func69,Tryz.ntmps69
 go_wp2_with fail
 refine(jF r p s _ N fd d1.o).mono ?_;rintro d gn ⟨cf,⟨B,rfl,e7,fg,cp,ch⟩|⟨u,rfl,o⟩⟩;rotate_left
 ·have a0:X (∀a,om a->¬ai (bytesOf s) p (za a)):=λa e2 c=>o _ e2.each.2 (ap.1 c).1;have aw:=af cf;go_wp2;exact⟨rfl,aw.o,.inr ⟨u,rfl,a0.o⟩⟩
 ·have a6:=af fg;have g:=af e7;obtain⟨z,c0⟩:∃z,z=p+(aH B).length:=⟨_,rfl⟩;have a3:=af c0;rw[<-c0] at cp ch;have d2:=af ch;have aw:=af cf;have gg:(B:Int)<2147483648:=by omega
  go_wp2_with fail
  go_loopw [2,3,7] (λec ef bj wr=>∃a:List (bQ×Int),bj= .int .i64 (a.length:Int)/\A8 rY Gl (bytesOf s) z B a/\z+(rY a).length<=s.size/\wr.heap[r]? =I (bY s (z+(rY a).length))/\wr.ownsRow w.heap.size 51 2 ec a.length (ij (a.map Vy))/\wr.ownsRow w.heap.size 3 1 ef a.length (bq (a.map WD))/\Kp r w wr) (λ_ _ bj _=>B-(V3 bj).toNat)
  case atStart=>exact⟨[],rfl,A8.zero Y,by simpa [rY] using cp,by simpa [rY] using d2.o,Xj _ _ _ _,Xj _ _ _ _,aw.o⟩
  case round=>
   obtain⟨a,rfl,ck,bi,eo,e9,fa,en⟩:=hrel;have U:=af ck;have T:=af eo;have au:=af en;have R:=af e9;have S:=af fa;have cu:a.length<=65536:=by have:=NK a;omega
   have gb:=ck.le;obtain⟨m,c1⟩:∃m,m=z+(rY a).length:=⟨_,rfl⟩;have H:=af c1;rw[<-c1] at bi T;by_cases be:a.length<B
   ·have P:X ((∀e,Gl e->¬ai (bytesOf s) m (DN e))->∀b,om b->¬ai (bytesOf s) p (za b)):=λA b f c=>by
     obtain⟨L,x⟩:=ap.1 c;have M:=ct (by have:=f.each.2;omega) (by omega) L a6.o;rw[M] at x;refine U.o.fail (e:=λ_ e=>DN e) rE be (λe j=>?_) b M f.each.1 (by rw[a3.o];exact x);rw[<-H.o];exact A e j
    go_wp2_with fail
    refine(jF r m s _ N bi T.o).mono ?_;rintro d gq ⟨W,⟨v,rfl,ft,fi,cs,ci⟩|⟨u,rfl,o⟩⟩;rotate_left
    ·have a0:=P.o (λe j c=>o _ j.n (ap.1 c).1);have g:=af a0;have Q:=af (au.o.trans W);go_wp2;exact⟨rfl,Q.o,.inr ⟨u,rfl,g.o⟩⟩
    ·have D:=af ft;have C:=af fi;have fu:v<=2147483648:=by omega
     have Q:=af (au.o.trans W);have dn:=af (W.own R.o y);have du:=af (W.own S.o y);obtain⟨t,c2⟩:∃t,t=m+(aH v).length:=⟨_,rfl⟩;have i:=af c2;rw[<-c2] at cs ci;have d3:=af ci
     go_wp2_with fail
     refine(B0 r t v s _ N cs fu d3.o).mono ?_;rintro d gr ⟨aa,⟨k,rfl,fB,fk,e3,eq⟩|⟨u,rfl,o⟩⟩;rotate_left
     ·have g:X (∀b,om b->¬ai (bytesOf s) p (za b)):=P.o (λe j c=>o (bytesOf e.1.name) (by rw[ak];exact CQ j D.o C.o c) (by unfold DN at c;rw[CQ j D.o C.o (by unfold DN;exact c)] at c;rw[i.o];exact(ap.1 (ap.1 c).2).1));have E:=af (Q.o.trans aa);go_wp2;exact⟨rfl,E.o,.inr ⟨u,rfl,g.o⟩⟩
     ·have V:=af fk;have J:=af fB;have dc:=af (Q.o.trans aa);have dp:=af (aa.own dn.o y);have dv:=af (aa.own du.o y);have b2:=af eq;have fA:k.size<=65536:=by omega
      have c9:X (∀l,bK 46 #[.string k] l λd O=>d= .returned (.string k)/\aQ l O):=λl=>yg k l fA
      go_upto_region 4 with(go_at_call 46;refine(c9.o _).mono ?_;rintro d f6 ⟨rfl,ae⟩)
      have bs:=af (dc.o.trans (Kp.cr ae));have dq:=af (aR dp.o ae);have dC:=af (aR dv.o ae);have d4:X (f6.heap[r]? =I (bY s (t+v))):=(ae.block _ (Va b2.o)).trans b2.o
      go_wp2_with fail
      refine(Bc r (t+v) s _ N e3 d4.o).mono ?_;rintro d c4 ⟨ab,⟨q,rfl,co,fl,e4,er⟩|⟨u,rfl,o⟩⟩;rotate_left
      ·have g:X (∀b,om b->¬ai (bytesOf s) p (za b)):=P.o (λe j c=>o _ (dA.2 (eS.1 (by have:=(CR j D.o C.o J.o (by rw[<-i.o];exact V.o) c).2;rw[<-i.o] at this;exact this)).1));have E:=af (bs.o.trans ab);go_wp2;exact⟨rfl,E.o,.inr ⟨u,rfl,g.o⟩⟩
      ·have b4:=af fl;have bt:=af (bs.o.trans ab);have cx:=ab.own dq.o y;have a1:=af cx;have b0:=af (ab.own dC.o y);have d5:=af er;have gi:=bt.o.size;have gl:=(Rs co).2;have bA:=af co;have G:=af cu;have df:=af e4
       go_upto_region 5 with(at_builtin;refine wpList_append_lies _ Y _ _ 52 Y w.heap.size 51 f3 _ 2 24 av.underlying52 e1 f0 f1 f2 Y (by decide) _ a.length _ Y (cx.alloc _) ⟨c4.heap.size,0,K⟩ 1 1 [.string k,.int .i64 (q:Int)] Y Y (JH c4 _ _ _) (by intro f5 A;simp at A;rcases A with rfl|rfl<;>rfl) (by decide) (by have:=G.o;unfold Vp;omega) (by have:=G.o;omega) (by simp;omega) _ Y ?_;intro eh b7 bk fb eQ et gc)
       have bc:=aY.lU (n:=a.length+1) (cap:=b7) eQ et;have bu:X (Kp r w bk):=bt.o.grown bc.gZ (λa9 bb=>(a1.o.lt a9 bb).1);have d6:X (bk.heap[r]? =I (bY s (t+v+1))):=(bc.gZ.block r (by omega) (λd=>by have:=(a1.o.lt r d.symm).1;omega)).trans d5.o;have dr:=af fb;have dD:X (bk.ownsRow w.heap.size 3 1 u3 a.length (bq (a.map WD))):=fh b0.o bc (qo b0.o a1.o (by decide));generalize VR (I ⟨eh,0,K⟩) (a.length+1) b7=ee at*
       go_wp2_with fail
       refine(Bc r (t+v+1) s _ N df.o d6.o).mono ?_;rintro d c5 ⟨ad,⟨n,rfl,cn,fm,e5,es⟩|⟨u,rfl,o⟩⟩;rotate_left
       ·have g:X (∀b,om b->¬ai (bytesOf s) p (za b)):=P.o (λe j c=>o _ (by have:=(CR j D.o C.o J.o (by rw[<-i.o];exact V.o) c).2;rw[<-i.o] at this;exact(eS.1 this).2));have E:=af (bu.o.trans ad);go_wp2;exact⟨rfl,E.o,.inr ⟨u,rfl,g.o⟩⟩
       ·have b5:=af fm;have bv:=af (bu.o.trans ad);have bB:=af (ad.own dr.o y);have cB:=ad.own dD.o y;have a2:=af cB;have d7:=af es;have gj:=bv.o.size;have f9:=(Rs cn).2;have br:=af cn;have dk:=af e5
        go_upto_region 6 with(at_builtin;refine wpList_append_lies _ Y _ _ 22 Y w.heap.size 3 f4 _ 1 8 av.underlying22 fe fv fx fz Y (by decide) _ a.length _ Y (cB.alloc _) ⟨c5.heap.size,0,K⟩ 1 1 [.int .i64 (n:Int)] Y Y (jS c5 _ _) (by intro f5 A;simp at A;subst A;rfl) (by decide) (by have:=G.o;unfold Vp;omega) (by have:=G.o;omega) (by simp;omega) _ Y ?_;intro cc a8 am cR e0 eA ge)
        have bd:=aY.lU (n:=a.length+1) (cap:=a8) e0 eA;have dd:X (Kp r w am):=bv.o.grown bd.gZ (λa9 bb=>(a2.o.lt a9 bb).1);have d8:X (am.heap[r]? =I (bY s (t+v+1+1))):=(bd.gZ.block r (by omega) (λd=>by have:=(a2.o.lt r d.symm).1;omega)).trans d7.o;have dE:X (am.ownsRow w.heap.size 3 1 (.slice (I ⟨cc,0,K⟩) (a.length+1) a8) (a++[((⟨k,(q:Int)⟩:bQ),(n:Int))]).length (bq ((a++[((⟨k,(q:Int)⟩:bQ),(n:Int))]).map WD))):=by
         show World.ownsRow _ _ _ _ _ _ _;rw[U8,V1];unfold bq at cR ⊢;rw[V1];exact cR
        have ds:X (am.ownsRow w.heap.size 51 2 ee (a++[((⟨k,(q:Int)⟩:bQ),(n:Int))]).length (ij ((a++[((⟨k,(q:Int)⟩:bQ),(n:Int))]).map Vy))):=by
         have:=fh bB.o bd (qo bB.o a2.o (by decide));show World.ownsRow _ _ _ _ _ _ _;rw[U8,V1,Ax];exact this
        have c3:=KV C.o J.o (by rw[<-i.o];exact V.o) (by rw[<-i.o];exact b4.o) (by rw[<-i.o];exact b5.o) bA.o br.o;have dl:X (A8 rY Gl (bytesOf s) z B (a++[((⟨k,(q:Int)⟩:bQ),(n:Int))])):=U.o.more (e:=λ_ e=>DN e) rE be ⟨by have:=J.o;have:=D.o;show k.size<_;omega,by show(0:Int)<=(q:Int);omega,by have:=bA.o;show(q:Int)<256;omega,by show(0:Int)<=(n:Int);omega,by have:=br.o;show(n:Int)<256;omega⟩ (by rw[<-H.o];exact c3.1) (λe j c=>by
         rw[<-H.o] at c;exact Sv j D.o C.o J.o (by rw[<-i.o];exact V.o) (by rw[<-i.o];exact b4.o) (by rw[<-i.o];exact b5.o) c)
        have b1:X (z+(rY (a++[((⟨k,(q:Int)⟩:bQ),(n:Int))])).length=t+v+1+1):=by
         show _=_;have L:=H.o;have x:=i.o;rw[rE,U8,c3.2];omega
        generalize VR (I ⟨cc,0,K⟩) (a.length+1) a8=f8 at*;have cu:=G.o
        go_wp2_with fail
        go_roundw
        case rel=>exact⟨_,by rw[U8];go_num,dl.o,by rw[b1.o];exact dk.o,by rw[b1.o];exact d8.o,ds.o,dE.o,dd.o⟩
        case measure=>simp[V3];omega
   ·have ar:=U.o.done be;have a7:X (∀b,om b->ai (bytesOf s) p (za b)->b=a):=λb f c=>by
     obtain⟨L,x⟩:=ap.1 c;have M:=ct (by have:=f.each.2;omega) (by omega) L a6.o;rw[M,<-a3.o] at x;exact ar.2 b M f.each.1 x
    have a4:X (p+(za a).length=m/\ai (bytesOf s) p (za a)):=by
     have L:=H.o;have x:=a3.o;have cd:=ar.1;refine⟨by unfold za;rw[U8,cd];omega,?_⟩;unfold za;rw[cd];exact ap.2 ⟨a6.o,by rw[<-x];exact U.o.st⟩
    have dT:=af bi;obtain⟨b8,aG,rfl⟩:=cF R.o;obtain⟨cb,ca,rfl⟩:=cF S.o;have bo:X (Cd wr (.slice b8 a.length aG) (a.map Vy)):=Cd.cS (by rw[VQ];exact R.o);have db:X (uv wr (.slice cb a.length ca) (a.map WD)):=uv.cS (by rw[VQ];exact S.o);have cv:(a.map Vy).length<=Vp:=by rw[VQ];unfold Vp;omega
    have e6:(a.map WD).length<=Vp:=by rw[VQ];unfold Vp;omega
    have c7:=af (mL (a.map Vy) _ wr cv bo.o);have c8:X (∀l,aQ wr l->bK 33 #[.slice cb a.length ca,.slice b8 a.length aG] l λd O=>∃b6,d= .returned (.bool b6)/\(b6=Z↔nU (a.map Vy) (a.map WD))/\aQ l O):=λl cl=>ou (a.map Vy) (a.map WD) _ _ l cv e6 (bo.o.below cl) (db.o.lower cl);have e8:B=a.length:=ar.1.symm;subst e8
    go_wp2_with fail
    refine c7.o.mono ?_;rintro d c6 ⟨d9,rfl,el,ba⟩;have bx:=af (au.o.trans (Kp.cr ba));have a5:X (c6.heap[r]? =I (bY s m)):=(ba.block r (Va T.o)).trans T.o;have ao:=af ba;have bl:=af el;cases d9
    ·have g:X (∀b,om b->¬ai (bytesOf s) p (za b)):=λb f c=>by
      have:=a7.o b f c;rw[this] at f;exact absurd (bl.o.2 f.1) (by simp)
     go_wp2_with (go_at_call 73;refine(bU r m s _ a5.o).mono ?_;rintro d O ⟨rfl,rfl⟩)
     exact⟨rfl,bx.o,.inr ⟨_,rfl,g.o⟩⟩
    ·have da:=af (bl.o.1 Y)
     go_wp2_with fail
     refine(c8.o c6 ao.o).mono ?_;rintro d f7 ⟨eb,rfl,em,al⟩;have bz:=af (bx.o.trans (Kp.cr al));have b3:X (f7.heap[r]? =I (bY s m)):=(al.block r (Va a5.o)).trans a5.o;have dt:=af (aR (aR R.o ao.o) al);have dO:=af (aR (aR S.o ao.o) al);have bm:=af em;cases eb
     ·have g:X (∀b,om b->¬ai (bytesOf s) p (za b)):=λb f c=>by
       have:=a7.o b f c;rw[this] at f;exact absurd (bm.o.2 f.2) (by simp)
      go_wp2_with (go_at_call 73;refine(bU r m s _ b3.o).mono ?_;rintro d O ⟨rfl,rfl⟩)
      exact⟨rfl,bz.o,.inr ⟨_,rfl,g.o⟩⟩
     ·have d0:X (om a):=⟨da.o,bm.o.1 Y⟩;go_wp2
      go_ret2
      exact⟨bz.o,.inl ⟨a,_,_,rfl,d0.o,a4.o.2,by rw[a4.o.1];exact dT.o,by rw[a4.o.1];exact b3.o,dt.o,dO.o,a7.o⟩⟩
def ML{b:F}{base n cap:Nat}{co:Option VI}{cs:List bQ}(h:b.ownsRow base 51 2 (.slice co n cap) cs.length (ij cs))(m:0<cs.length):∃g,co=I ⟨g,0,K⟩/\base<=g/\g<b.heap.size/\Cb b co g 0 cs:=by
 rcases h.2 with⟨f,o⟩|⟨g,k,l,f,j,i,r,p,q,s⟩
 ·omega
 ·cases f;have e:=h.cells (g:=g) Y;refine⟨g,rfl,j,Va i,⟨λ_=>rfl,λ_=>Va i,λd c=>?_,λd c=>?_⟩⟩
  ·have:=e _ _ (mg (λa:bQ=>[Value.string a.name,Xm .i64 a.kind]) 2 (λ_=>rfl) cs d c 0 _ Y);simpa [WZ] using this
  ·have:=e _ _ (mg (λa:bQ=>[Value.string a.name,Xm .i64 a.kind]) 2 (λ_=>rfl) cs d c 1 _ Y);simpa [WZ] using this
def CZ(cs:List bQ)(dv:U)(r p q t base:Nat)(s z:ByteArray)(w:F)(g4:r≠q)(g1:s.size<=65536)(g6:z.size<=65536)(f5:p<=s.size)(f6:t<=z.size)(h:w.heap[r]? =I (bY s p))(k:w.heap[q]? =I (bY z t))(fx:r<base)(fz:q<base)
 (cd:w.ownsRow base 51 2 dv cs.length (ij cs)) (gW:cs.length<=8) (d5:∀i (h:i<cs.length),cs[i].kind=1\/cs[i].kind=2\/cs[i].kind=3):
 bK 71 #[(aP r),(aP q),dv] w (Ti cs w r p s q t z):=by
 obtain⟨gc,f1,f7,f8,f9⟩:=Wo av.Jg;have a8:r<w.heap.size:=Va h;have a7:q<w.heap.size:=Va k;have ch:s.size<=Vp:=by unfold Vp;omega
 have gb:z.size<=Vp:=by unfold Vp;omega
 have fa:=af d5;obtain⟨ft,aG,rfl⟩:=cF cd;have e4:=af cd;have dc:X ((w.alloc (.cells #[.int .i64 0,.slice K 0 0] 98)).heap[r]? =I (bY s p)):=by
  show _=_;rw[VH _ _ r a8];exact h
 have c6:X ((w.alloc (.cells #[.int .i64 0,.slice K 0 0] 98)).heap[q]? =I (bY z t)):=by
  show _=_;rw[VH _ _ q a7];exact k
 have bs:X (jJ r q w (w.alloc (.cells #[.int .i64 0,.slice K 0 0] 98))):=(jJ.refl r q w).alloc _;clear h k cd d5;go_enter av.func71,Tryz.ntmps71
 go_wp2_with fail
 refine(jF r p s _ ch f5 dc.o).mono ?_;rintro P E ⟨ab,⟨c,rfl,ee,em,d8,dE⟩|⟨m,rfl,C⟩⟩;rotate_left
 ·have G:X (∀b,eL cs b->ai (bytesOf s) p (eB cs b)->¬ai (bytesOf z) t (b9 b.chunks)):=λb x ad=>(C _ (by have:=x.hi;omega) (ap.1 ad).1).elim;have e6:X (jJ r q w E):=bs.o.trans (jJ.jm ab);clear C ab;go_wp2;exact⟨rfl,e6.o,.inr ⟨m,rfl,G.o⟩⟩
 ·have dC:E.heap[q]? =I (bY z t):=Kp.block ab c6.o (by omega);have f:mE w (E.alloc (.cells #[.int .i64 (c:Int),.slice K 0 0] 98)) E.heap.size r q c (.slice K 0 0) []:=by
   refine⟨?_,bC E _,Xj _ _ _ _,(bs.o.trans (jJ.jm ab)).alloc _⟩;have:=Kp.block ab (Xf w (.cells #[.int .i64 0,.slice K 0 0] 98)) (by omega);exact alloc_old _ (by simpa using Va this) this
  have a1:w.heap.size<E.heap.size:=by have:=ab.size;simp at this;omega
  have ca:(E.alloc (.cells #[.int .i64 (c:Int),.slice K 0 0] 98)).heap[r]? =I (bY s (p+(aH c).length)):=by rw[VH _ _ r (by omega)];exact dE
  have dD:(E.alloc (.cells #[.int .i64 (c:Int),.slice K 0 0] 98)).heap[q]? =I (bY z t):=by rw[VH _ _ q (by omega)];exact dC
  go_upto_region 2 with fail
  generalize E.alloc (.cells #[.int .i64 (c:Int),.slice K 0 0] 98)=gn at*;generalize E.heap.size=j at*;clear ab dE dC dc c6 bs;clear E;obtain⟨M,ck⟩:∃M,M=p+(aH c).length:=⟨_,rfl⟩;have bt:=af ck;rw[<-ck] at ca d8;have bd:=af em;have bc:=af ca;have c7:=af dD;have R:=af f;obtain⟨bk,ba,cp⟩:=f.cells;clear em ck ca dD f;by_cases d4:1<=c/\c<=100;rotate_left
  ·have G:X (∀b,eL cs b->ai (bytesOf s) p (eB cs b)->¬ai (bytesOf z) t (b9 b.chunks)):=λb x ad=>by
    have:=ct (by have:=x.hi;omega) (by omega) (ap.1 ad).1 bd.o;have T:=x.lo;have k:=x.hi;omega
   by_cases gy:c<1
   ·have cf:decide ((c:Int)<1)=Z:=by simp;omega
    go_wp2_with (go_at_call 73;refine(bU r M s _ bc.o).mono ?_;rintro P gj ⟨rfl,rfl⟩)
    exact⟨rfl,R.o.kp,.inr ⟨_,rfl,G.o⟩⟩
   ·have cf:decide ((c:Int)<1)=U5:=by simp;omega
    have d2:decide (100<(c:Int))=Z:=by simp;omega
    go_wp2_with (go_at_call 73;refine(bU r M s _ bc.o).mono ?_;rintro P gj ⟨rfl,rfl⟩)
    exact⟨rfl,R.o.kp,.inr ⟨_,rfl,G.o⟩⟩
  ·have cf:decide ((c:Int)<1)=U5:=by simp;omega
   have d2:decide (100<(c:Int))=U5:=by simp;omega
   have c1:=af d4;have c5:=af ee
   go_upto_region 4 with fail
   clear cf d2 d4 ee bk ba cp
   go_wp2_with fail
   go_loopw [26] (λi wr=>∃(a:List j8) (e:U),i= .int .i64 (a.length:Int)/\Q2 (wV cs) b9 (Gh cs) (bytesOf s) M (bytesOf z) t cs.length a/\mE w wr j r q c e a/\M+(wV cs a).length<=s.size/\wr.heap[r]? =I (bY s (M+(wV cs a).length))/\t+(b9 a).length<=z.size/\wr.heap[q]? =I (bY z (t+(b9 a).length))) (λi _=>cs.length-(V3 i).toNat)
   case atStart=>exact⟨[],_,rfl,Q2.zero Y Y,R.o,by simpa [wV,eY] using d8,by simpa [wV,eY] using bc.o,by simpa [b9] using f6,by simpa [b9] using c7.o⟩
   case round=>
    clear R bc c7;obtain⟨a,e,rfl,b5,f,el,b7,co,b6⟩:=hrel;have ao:=af b5;have R:=af f;obtain⟨D,cl⟩:∃D,D=M+(wV cs a).length:=⟨_,rfl⟩;obtain⟨N,a9⟩:∃N,N=t+(b9 a).length:=⟨_,rfl⟩;have a3:=af cl;have ar:=af a9;rw[<-cl] at el b7;rw[<-a9] at co b6;have bz:=af b7;have bv:=af b6;have f3:a.length<=cs.length:=b5.le;have g5:w.heap.size<=wr.heap.size:=f.kp.size;have cR:X (wr.ownsRow base 51 2 (.slice ft cs.length aG) cs.length (ij cs)):=f.kp.own e4.o fx fz;clear b5 cl a9 b7 b6;by_cases V:a.length<cs.length
    ·have br:X ((∀O,Gh cs a.length O->ai (bytesOf s) D (L9 cs a O)->¬ai (bytesOf z) N (bytesOf O.text))->∀b,eL cs b->ai (bytesOf s) p (eB cs b)->¬ai (bytesOf z) t (b9 b.chunks)):=λa9 b x ad a5=>by
      obtain⟨T,k⟩:=ap.1 ad;have a6:=ct (by have:=x.hi;omega) (by have:=c5.o;omega) T bd.o;rw[a6,<-bt.o] at k;refine ao.o.fail (e:=L9 cs) (g:=λ_ d=>bytesOf d.text) (uR cs) tf V (λO L l Q=>?_) b.chunks x.len x.each k a5;rw[<-a3.o] at l;rw[<-ar.o] at Q;exact a9 O L l Q
     obtain⟨gt,f0,fA,fB,cc⟩:=ML cR.o (by omega);subst f0;have eA:=cc.c0 a.length V;have eQ:=cc.c1 a.length V;simp only[VV] at eA eQ;have c2:X (cs[a.length].kind=1\/cs[a.length].kind=2\/cs[a.length].kind=3):=fa.o a.length V;have am:X (cs.getD a.length ⟨⟨#[]⟩,0⟩=cs[a.length]):=by show _=_;rw[Vk,Vf V];rfl
     clear cc f cR fA fB;generalize a5:cs[a.length]=d at*;clear a5
     go_upto_region 7 with fail
     have b0:X (mE w (wr.alloc (.cells #[.string d.name,.int .i64 d.kind] 51)) j r q c e a):=R.o.below ((Vi _ _).alloc (U7 _) _);have dk:X ((wr.alloc (.cells #[.string d.name,.int .i64 d.kind] 51)).heap[r]? =I (bY s D)):=by show _=_;rw[VH _ _ r (by omega)];exact bz.o
     have c8:X ((wr.alloc (.cells #[.string d.name,.int .i64 d.kind] 51)).heap[q]? =I (bY z N)):=by show _=_;rw[VH _ _ q (by omega)];exact bv.o
     have ds:X ((wr.alloc (.cells #[.string d.name,.int .i64 d.kind] 51)).heap[wr.heap.size]? =I (.cells #[.string d.name,.int .i64 d.kind] 51 (0,0))):=bC wr _;have g0:j<wr.heap.size:=Va R.o.box;generalize wr.alloc (.cells #[.string d.name,.int .i64 d.kind] 51)=gr at*;generalize wr.heap.size=u at*;clear eA eQ R bz bv;clear wr
     go_wp2_with fail
     refine(jF r D s _ ch el dk.o).mono ?_;rintro P bl ⟨aw,⟨v,rfl,er,en,d9,b8⟩|⟨m,rfl,C⟩⟩;rotate_left
     ·have G:X (∀b,eL cs b->ai (bytesOf s) p (eB cs b)->¬ai (bytesOf z) t (b9 b.chunks)):=br.o (λO L l Q=>C _ L.n (ap.1 l).1);have e7:X (jJ r q w bl):=b0.o.kp.trans (jJ.jm aw);clear C aw;go_wp2;exact⟨rfl,e7.o,.inr ⟨m,rfl,G.o⟩⟩
     ·have b2:=af er;have bB:=af en;have es:v<=2147483648:=by omega
      have b1:X (mE w bl j r q c e a):=b0.o.step a8 a7 a1 (jJ.jm aw);have c9:X (bl.heap[q]? =I (bY z N)):=Kp.block aw c8.o (by omega);have dt:X (bl.heap[u]? =I (.cells #[.string d.name,.int .i64 d.kind] 51 (0,0))):=Kp.block aw ds.o (by omega);obtain⟨ae,cn⟩:∃ae,ae=D+(aH v).length:=⟨_,rfl⟩;have bu:=af cn;rw[<-cn] at d9 b8;have dd:=af b8;clear en cn aw b8 b0 dk c8 ds er
      go_wp2_with fail
      refine(B0 q N v z _ gb co es c9.o).mono ?_;rintro P n ⟨a0,⟨g,rfl,et,eo,eb,dO⟩|⟨m,rfl,C⟩⟩;rotate_left
      ·have G:X (∀b,eL cs b->ai (bytesOf s) p (eB cs b)->¬ai (bytesOf z) t (b9 b.chunks)):=br.o (λO L l Q=>C (bytesOf O.text) (by rw[ak];exact ct (by have:=L.n;omega) (by have:=b2.o;omega) (ap.1 l).1 bB.o) Q);have e8:X (jJ r q w n):=b1.o.kp.trans (jJ.EP a0);clear C a0;go_wp2;exact⟨rfl,e8.o,.inr ⟨m,rfl,G.o⟩⟩
      ·have dp:=af eo;have bi:=af et;have be:X (mE w n j r q c e a):=b1.o.step a8 a7 a1 (jJ.EP a0);have b3:X (n.heap[u]? =I (.cells #[.string d.name,.int .i64 d.kind] 51 (0,0))):=Kp.block a0 dt.o (by omega);have dl:X (n.heap[r]? =I (bY s ae)):=Kp.block a0 dd.o (by omega);have da:=af dO;have fd:=af eb;have df:X (bK 87 #[(aP r),.int .i64 d.kind] n.drew (IY n.drew r ae s d.kind)):=zq d.kind c2.o r ae s n.drew ch d9 dl.o;clear eo et a0 dO b1 dt dd c9 eb es;obtain⟨bk,ba,cp⟩:=be.o.cells;have e0:n.cell? ⟨u,1,K⟩=I (.int .i64 d.kind):=by have:=b3.o;simp[Ve,this]
       have e3:=af c2.o
       go_upto_region 8 with fail
       refine Un.open_ (λy=>y.cell? ⟨j,1,K⟩=I e/\y.cell? ⟨u,1,K⟩=I (.int .i64 d.kind)) 11 (λ_ _ _ _ _ h=>h) λg3=>?_;have a4:(λy=>y.cell? ⟨j,1,K⟩=I e/\y.cell? ⟨u,1,K⟩=I (.int .i64 d.kind)) n.drew:=⟨ba,e0⟩;refine Un.pk 0 ?_
       try simp only[WH,Vq,VD,Vz]
       refine Un.ld [11] 1 ?_
       try simp only[WH,Vq,VD,Vz]
       refine Un.pk 2 ?_
       try simp only[WH,Vq,VD,Vz]
       refine Un.pk 3 ?_
       try simp only[WH,Vq,VD,Vz]
       refine Un.pk 4 ?_
       try simp only[WH,Vq,VD,Vz]
       refine Un.ld [11] 5 ?_
       try simp only[WH,Vq,VD,Vz]
       refine Un.on 6 λW B=>?_;go_simp;go_at_call 87;refine df.o.mono ?_;rintro P o ⟨J,⟨b,rfl,d1,eq,ec,dT⟩|⟨m,rfl,C⟩⟩;rotate_left
       ·have J:=(Kp.cr (r:=r) ((Vi n.heap.size n).drew)).trans J;have G:X (∀b,eL cs b->ai (bytesOf s) p (eB cs b)->¬ai (bytesOf z) t (b9 b.chunks)):=br.o (λO L l Q=>by
         unfold L9 at l;obtain⟨bj,du⟩:=ap.1 l;have fu:=ct (by have:=L.n;omega) (by have:=b2.o;omega) bj bB.o;rw[fu,am.o,<-bu.o] at du;have x:=L.b;rw[am.o] at x;exact C _ x du)
        have e9:X (jJ r q w o):=be.o.kp.trans (jJ.jm J);clear C J;exact⟨rfl,e9.o,.inr ⟨m,rfl,G.o⟩⟩
       ·have J:=(Kp.cr (r:=r) ((Vi n.heap.size n).drew)).trans J;unfold Gy;have H:X (mE w o j r q c e a):=be.o.step a8 a7 a1 (jJ.jm J);have dn:=af dT;have db:X (o.heap[q]? =I (bY z (N+v))):=Kp.block J da.o (by omega);have au:X (o.heap[u]? =I (.cells #[.string d.name,.int .i64 d.kind] 51 (0,0))):=Kp.block J b3.o (by omega);have e2:=af d1;have fk:=af eq;have fe:=af ec;obtain⟨-,cu,-⟩:=H.o.cells;have bm:o.cell? ⟨u,1,K⟩=I (.int .i64 d.kind):=by have:=au.o;simp[Ve,this]
        refine B.o _ _ (λ_=>⟨cu,bm⟩) ?_;clear B W a4 J dT d1 eq ec bk ba cp e0 be b3 dl da df
        try simp only[WH,Vq,VD,Vz]
        have a4:(λy=>y.cell? ⟨j,1,K⟩=I e/\y.cell? ⟨u,1,K⟩=I (.int .i64 d.kind)) o:=⟨cu,bm⟩;refine Un.pk 7 ?_
        try simp only[WH,Vq,VD,Vz]
        refine Un.on 8 λW B=>?_;go_simp;have dr:X (mE w (o.alloc (.cells (dF ⟨g,b⟩).toArray 102)) j r q c e a):=H.o.below ((Vi _ _).alloc (U7 _) _);have e1:(o.alloc (.cells (dF ⟨g,b⟩).toArray 102)).cell? ⟨u,1,K⟩=I (.int .i64 d.kind):=(((Vi o.heap.size o).alloc (U7 _) _).cell (p:=⟨u,1,K⟩) (Va au.o)).trans bm;refine B.o _ _ (λ_=>⟨dr.o.cells.2.1,e1⟩) ?_;clear B W a4
        try simp only[WH,Vq,VD,Vz]
        refine Un.one (i:=9) (by kernel_rfl) Y (λW B=>?_);have eh:=H.o.own;have g7:w.heap.size<=o.heap.size:=H.o.kp.size;refine step_append_lies _ (by rfl) _ _ 96 (by rfl) w.heap.size 102 gc _ 8 88 av.underlying96 f1 f7 f8 f9 Y (by decide) e a.length _ (by rfl) (eh.alloc _) ⟨o.heap.size,0,K⟩ 1 1 (dF ⟨g,b⟩) (by rfl) Y (yt o ⟨g,b⟩ _) (uV _) (by decide) (by unfold Vp;omega) (by omega) (by simp;omega) _ Y ?_;intro A S al ci d3 d0 f4;have a2:=aY.lU (n:=a.length+1) (cap:=S) d3 d0;have ef:al.ownsRow w.heap.size 102 8 (.slice (I ⟨A,0,K⟩) (a.length+1) S) (a++[(⟨g,b⟩:j8)]).length (ei (a++[(⟨g,b⟩:j8)])):=by
         unfold ei at ci ⊢;rw[Wi,Wd,U8];exact ci
        have e5:X (mE w (al.setCell ⟨j,1,K⟩ (.slice (I ⟨A,0,K⟩) (a.length+1) S)) j r q c (.slice (I ⟨A,0,K⟩) (a.length+1) S) (a++[(⟨g,b⟩:j8)])):=H.o.lT a1 a2 ef;have bA:X ((al.setCell ⟨j,1,K⟩ (.slice (I ⟨A,0,K⟩) (a.length+1) S)).heap[r]? =I (bY s (ae+(cw d.kind b).length))):=H.o.reader a1 a2 a8 dn.o;have bx:X ((al.setCell ⟨j,1,K⟩ (.slice (I ⟨A,0,K⟩) (a.length+1) S)).heap[q]? =I (bY z (N+v))):=H.o.reader a1 a2 a7 db.o;obtain⟨cv,gl⟩:=H.o.kept a2;have cx:al.cell? ⟨u,1,K⟩=I (.int .i64 d.kind):=by
         have:=(a2.gZ.block _ (Va au.o) (bh H.o.own au.o (by decide))).trans au.o;simp[Ve,this]
        refine B.o _ _ (λ_=>⟨cv,cx⟩) ?_;clear B W eh ci d3 d0 f4 ef a2
        try simp only[WH,Vq,VD,Vz]
        have a4:(λy=>y.cell? ⟨j,1,K⟩=I e/\y.cell? ⟨u,1,K⟩=I (.int .i64 d.kind)) al:=⟨cv,cx⟩;refine Un.pk 10 ?_
        try simp only[WH,Vq,VD,Vz]
        refine Un.on 11 λW B=>?_;go_simp;refine B.o _ _ (λh=>absurd h (by decide)) ?_;clear B W a4 cv gl cx cu bm e1;refine Un.done (by kernel_rfl) ?_ _
        try simp only[WH,Vq,VD,Vz]
        clear H dr dn db au;generalize al.setCell ⟨j,1,K⟩ (.slice (I ⟨A,0,K⟩) (a.length+1) S)=gq at*;generalize VR (I ⟨A,0,K⟩) (a.length+1) S=g8 at*;have cB:X (Gh cs a.length ⟨g,b⟩):=⟨by have:=bi.o;have:=b2.o;show g.size<_;omega,by rw[am.o];exact e2.o⟩;have dq:X (ai (bytesOf s) D (L9 cs a ⟨g,b⟩)):=by
         show ai _ _ (aH g.size++cw (cs.getD a.length ⟨⟨#[]⟩,0⟩).kind b);rw[bi.o,am.o];exact ap.2 ⟨bB.o,by rw[<-bu.o];exact fk.o⟩
        have c3:X (M+(wV cs (a++[(⟨g,b⟩:j8)])).length=ae+(cw d.kind b).length):=by
         show _=_;rw[uR,U8];have T:(L9 cs a ⟨g,b⟩).length=(aH v).length+(cw d.kind b).length:=by
          show(aH g.size++cw (cs.getD a.length ⟨⟨#[]⟩,0⟩).kind b).length=_;rw[bi.o,am.o,U8]
         have k:=a3.o;have l:=bu.o;omega
        have c4:X (t+(b9 (a++[(⟨g,b⟩:j8)])).length=N+v):=by
         show _=_;rw[tf,U8,ak];have T:=ar.o;have k:=bi.o;simp only;omega
        have fg:X (Q2 (wV cs) b9 (Gh cs) (bytesOf s) M (bytesOf z) t cs.length (a++[(⟨g,b⟩:j8)])):=by
         refine ao.o.more (e:=L9 cs) (g:=λ_ d=>bytesOf d.text) (uR cs) tf V cB.o (by rw[<-a3.o];exact dq.o) (by rw[<-ar.o];exact dp.o) (λO L l Q=>?_);rw[<-a3.o] at l;rw[<-ar.o] at Q;exact RQ (by rw[am.o];exact e3.o) cB.o L dq.o l dp.o Q
        go_wp2_with fail
        go_roundw
        case rel=>exact⟨a++[(⟨g,b⟩:j8)],_,by rw[U8];go_num,fg.o,e5.o,by rw[c3.o];exact fe.o,by rw[c3.o];exact bA.o,by rw[c4.o];exact fd.o,by rw[c4.o];exact bx.o⟩
        case measure=>simp[V3];omega
    ·have bb:=ao.o.done V;obtain⟨gf,ge,d6⟩:=cF f.own;rw[bb.1] at d6;subst d6;generalize f2:VR gf cs.length ge=e at f;obtain⟨bk,ba,-⟩:=f.cells;have T:=Vl wr w.heap.size 0 _ _ (.int .i64 (c:Int)) f.res;have k:=Vl _ w.heap.size 1 _ _ e T;have fi:X (((wr.setCell ⟨w.heap.size,0,K⟩ (.int .i64 (c:Int))).setCell ⟨w.heap.size,1,K⟩ e).ownsRow w.heap.size 102 8 e a.length (ei a)):=by
      have bj:=f.own.kept (aL wr w.heap.size 0 (.int .i64 (c:Int))) (.inr (bh f.own f.res (by decide)).symm);exact bj.kept (aL _ w.heap.size 1 e) (.inr (bh bj T (by decide)).symm)
     have fb:X (jJ r q w ((wr.setCell ⟨w.heap.size,0,K⟩ (.int .i64 (c:Int))).setCell ⟨w.heap.size,1,K⟩ e)):=(f.kp.grown (aL wr w.heap.size 0 _) (λfv P=>by cases P;exact U7 _)).grown (aL _ w.heap.size 1 _) (λfv P=>by cases P;exact U7 _);have bA:X (((wr.setCell ⟨w.heap.size,0,K⟩ (.int .i64 (c:Int))).setCell ⟨w.heap.size,1,K⟩ e).heap[r]? =I (bY s D)):=by
      show _=_;rw[Vj _ _ _ _ (by simp;omega),Vj _ _ _ _ (by simp;omega)];exact bz.o
     have bx:X (((wr.setCell ⟨w.heap.size,0,K⟩ (.int .i64 (c:Int))).setCell ⟨w.heap.size,1,K⟩ e).heap[q]? =I (bY z N)):=by
      show _=_;rw[Vj _ _ _ _ (by simp;omega),Vj _ _ _ _ (by simp;omega)];exact bv.o
     have g9:wr.cell? ⟨w.heap.size,0,K⟩=I (.int .i64 0):=by have:=f.res;simp[Ve,this]
     have ha:wr.cell? ⟨w.heap.size,1,K⟩=I (.slice K 0 0):=by have:=f.res;simp[Ve,this]
     have gv:wr.frozen? ⟨w.heap.size,0,K⟩=U5:=by have:=f.res;simp[VW,this]
     have gx:wr.frozen? ⟨w.heap.size,1,K⟩=U5:=by have:=f.res;simp[VW,this]
     have gg:((wr.setCell ⟨w.heap.size,0,K⟩ (.int .i64 (c:Int))).setCell ⟨w.heap.size,1,K⟩ e).cell? ⟨w.heap.size,0,K⟩=I (.int .i64 (c:Int)):=by simp[Ve,k]
     have gi:((wr.setCell ⟨w.heap.size,0,K⟩ (.int .i64 (c:Int))).setCell ⟨w.heap.size,1,K⟩ e).cell? ⟨w.heap.size,1,K⟩=I e:=by simp[Ve,k]
     have bo:X ((eB cs ⟨c,a⟩).length+p=D/\ai (bytesOf s) p (eB cs ⟨c,a⟩)):=by
      have b4:=bt.o;have A:=a3.o;refine⟨by show(aH c++wV cs a).length+p=D;rw[U8];omega,?_⟩;exact ap.2 ⟨bd.o,by rw[<-b4];exact ao.o.st⟩
     have fm:X (∀aa,eL cs aa->ai (bytesOf s) p (eB cs aa)->ai (bytesOf z) t (b9 aa.chunks)->aa=⟨c,a⟩):=λaa cb ad a5=>by
      obtain⟨b4,A⟩:=ap.1 ad;have a6:=ct (by have:=cb.hi;omega) (by have:=c5.o;omega) b4 bd.o;rw[a6,<-bt.o] at A;have d7:=bb.2 aa.chunks cb.len cb.each A a5;obtain⟨gs,b⟩:=aa;simp only at a6 d7;rw[a6,d7]
     have c0:X (eL cs ⟨c,a⟩):=⟨c1.o.1,c1.o.2,bb.1,ao.o.Sn⟩;have fl:=af ao.o.sc;clear T k f bb f3 V;subst f2;have g2:a.length=cs.length:=c0.o.len;go_wp2;simp[Xw,V0,Tryz.results71,go_sem,gg,gi]
     trace_state
     exact⟨fb.o,.inl ⟨⟨c,a⟩,_,rfl,c0.o,bo.o.2,by have:=bo.o.1;omega,by have:=bo.o.1;rw[show p+(eB cs ⟨c,a⟩).length=D by omega];exact bA.o,fl.o,by rw[<-ar.o];exact co,by rw[<-ar.o];exact bx.o,fi.o,fm.o⟩⟩
structure lO(w W:F)(g r q:Nat)(l:List (bQ×Int))(co eo:Option VI)(cc ec:Nat)(bv:U)(L:List (Bd×U)):Prop where
 res:W.heap[w.heap.size]? =I (.cells #[.slice K 0 0,.slice K 0 0,.slice K 0 0] 66 (0,0))
 box:W.heap[g]? =I (.cells #[.slice co l.length cc,.slice eo l.length ec,bv] 66 (0,0))
 ah:W.ownsRow w.heap.size 51 2 (.slice co l.length cc) l.length (ij (l.map Vy))
 n5:W.ownsRow w.heap.size 3 1 (.slice eo l.length ec) l.length (bq (l.map WD))
 cj:iY W w.heap.size bv L
 kp:jJ r q w W
def lO.step{w c d:F}{g r q:Nat}{l:List (bQ×Int)}{co j:Option VI}{f i:Nat}{e:U}{L:List (Bd×U)}(h:lO w c g r q l co j f i e L)(b:r<w.heap.size)(a:q<w.heap.size)(o:w.heap.size<g)(k:jJ r q c d):lO w d g r q l co j f i e L:=
 ⟨k.keep h.res (by omega) (by omega),k.keep h.box (by omega) (by omega),k.own h.ah b a,k.own h.n5 b a,⟨k.own h.cj.own b a,λn m=>k.own (h.cj.each n m) b a⟩,h.kp.trans k⟩
def lO.below{w b c:F}{g r q:Nat}{l:List (bQ×Int)}{co i:Option VI}{e f:Nat}{d:U}{L:List (Bd×U)}(h:lO w b g r q l co i e f d L)(a:aQ b c):lO w c g r q l co i e f d L:=
 ⟨(a.block _ (Va h.res)).trans h.res,(a.block _ (Va h.box)).trans h.box,aR h.ah a,aR h.n5 a,h.cj.below a,h.kp.trans (jJ.cr a)⟩
def lO.cells{w a:F}{g r q:Nat}{l:List (bQ×Int)}{co f:Option VI}{d e:Nat}{c:U}{L:List (Bd×U)}(h:lO w a g r q l co f d e c L):
 a.cell? ⟨g,0,K⟩=I (.slice co l.length d)/\a.cell? ⟨g,1,K⟩=I (.slice f l.length e)/\a.cell? ⟨g,2,K⟩=I c/\a.frozen? ⟨g,2,K⟩=U5:=by
 have b:=h.box;exact⟨by simp[Ve,b],by simp[Ve,b],by simp[Ve,b],by simp[VW,b]⟩
def lO.kept{w c a:F}{g r q:Nat}{l:List (bQ×Int)}{co j:Option VI}{f i:Nat}{b e:U}{L:List (Bd×U)}(h:lO w c g r q l co j f i b L)(k:aY c a b e):
 a.cell? ⟨g,2,K⟩=I b/\a.frozen? ⟨g,2,K⟩=U5:=by
 have d:=(k.gZ.block _ (Va h.box) (bh h.cj.own h.box (by decide))).trans h.box;exact⟨by simp[Ve,d],by simp[VW,d]⟩
def lO.lT{w i c:F}{g r q:Nat}{l:List (bQ×Int)}{co p:Option VI}{n o:Nat}{j a:U}{L:List (Bd×U)}(h:lO w i g r q l co p n o j L)(A:w.heap.size<g)(d:aY i c j a){b:Bd}{f:U}(y:i.ownsRow w.heap.size 102 8 f b.chunks.length (ei b.chunks))
 (z:c.ownsRow w.heap.size 98 2 a (L++[(b,f)]).length (nZ (L++[(b,f)]))):lO w (c.setCell ⟨g,2,K⟩ a) g r q l co p n o a (L++[(b,f)]):=by
 have u:=(d.gZ.block _ (Va h.res) (bh h.cj.own h.res (by decide))).trans h.res;have e:=(d.gZ.block _ (Va h.box) (bh h.cj.own h.box (by decide))).trans h.box;have v:=Vl c g 2 _ _ a e;have k:=fh h.ah d (qo h.ah h.cj.own (by decide));have m:=fh h.n5 d (qo h.n5 h.cj.own (by decide));refine⟨?_,v,k.kept (aL c _ 2 a) (.inr (bh k e (by decide)).symm),m.kept (aL c _ 2 a) (.inr (bh m e (by decide)).symm),(h.cj.snoc d y z).put e (by decide) (by decide) _ _,?_⟩
 ·rw[Vj _ _ _ _ (by simp;omega)];exact u
 ·exact(h.kp.grown d.gZ (λs x=>(h.cj.own.lt s x).1)).grown (aL c g 2 a) (λs t=>by cases t;omega)
def lO.reader{w a b:F}{g r q:Nat}{l:List (bQ×Int)}{co m:Option VI}{f k:Nat}{c d:U}{L:List (Bd×U)}(h:lO w a g r q l co m f k c L)(p:w.heap.size<g)(n:aY a b c d){i:Nat}{o:Obj}(s:i<w.heap.size)(e:a.heap[i]? =I o):(b.setCell ⟨g,2,K⟩ d).heap[i]? =I o:=by
 rw[Vj _ _ _ _ (by simp;omega),n.gZ.block i (Va e) (λj=>by have:=(h.cj.own.lt i j.symm).1;omega)];exact e
def zZ{B a:List Nat}(h:ai B 0 a)(c:B.length<=a.length):B=a:=by
 have b:a <+:B:=by simpa [ai] using h
 exact(b.eq_of_length_le c).symm
def uJ(cs:List bQ)(bs:List Bd)(b:Bd):cX cs (bs++[b])=cX cs bs++eB cs b:=by
 unfold cX;rw[Wi,Wd]
def JX(cs:List bQ)(b:Bd):1<=(eB cs b).length:=by unfold eB;rw[U8];have:=FZ b.rows;omega
def JY(cs:List bQ)(bs:List Bd):bs.length<=(cX cs bs).length:=by
 induction bs with
 |nil=>simp
 |cons a c b=>
  have:=JX cs a;unfold cX at b ⊢;rw[Xq,U8,WS];omega
def Ro{cs:List bQ}{bs:List Bd}(h:∀b∈bs,eL cs b):tw (λ_=>eL cs) bs:=λc a=>h _ (Vn a)
def R7{cs:List bQ}{bs:List Bd}(h:tw (λ_=>eL cs) bs):∀b∈bs,eL cs b:=λb a=>by
 obtain⟨d,c,rfl⟩:=WN a;exact h d c
def Np{l:List (bQ×Int)}(h:om l):∀i (h:i<(l.map Vy).length),(l.map Vy)[i].kind=1\/(l.map Vy)[i].kind=2\/(l.map Vy)[i].kind=3:=by
 intro i a;have:=(h.1.2.2 i a).1;simp only[pX,gC,Vr,decide_eq_true_eq] at this;omega
def Tk (w:F)(r:Nat)(s:ByteArray)(q:Nat)(z:ByteArray)(e:X6)(w':F):Prop:=
 jJ r q w w'/\((∃(a:List (bQ×Int)) (b:List Bd) (f:List (Bd×U)) (i k:Option VI) (h j:Nat) (g:U),e= .returned (.agg #[.slice i a.length h,.slice k a.length j,g])/\xu a b/\f.map Vy=b/\ai (bytesOf s) 0 (ri a b)/\(ri a b).length<=s.size/\w'.heap[r]? =I (bY s (ri a b).length)/\bytesOf z=bO b/\
  w'.ownsRow w.heap.size 51 2 (.slice i a.length h) a.length (ij (a.map Vy))/\w'.ownsRow w.heap.size 3 1 (.slice k a.length j) a.length (bq (a.map WD))/\iY w' w.heap.size g f/\(∀d c,xu d c->ai (bytesOf s) 0 (ri d c)->bytesOf z=bO c->d=a/\c=b))\/
  (∃m,e= .panicked (ez m)/\∀a b,xu a b->ai (bytesOf s) 0 (ri a b)->bytesOf z≠bO b))
def zv(r q:Nat)(s z:ByteArray)(w:F)(f3:r≠q)(c7:s.size<=65536)(gf:z.size<=65536)(h:w.heap[r]? =I (bY s 0))(o:w.heap[q]? =I (bY z 0)):
 bK 44 #[(aP r),(aP q)] w (Tk w r s q z):=by
 obtain⟨gg,fu,gb,gc,ge⟩:=Wo av.Nh;have a6:r<w.heap.size:=Va h;have a5:q<w.heap.size:=Va o;have fA:s.size<=Vp:=by unfold Vp;omega
 have dk:z.size<=Vp:=by unfold Vp;omega
 have er:X ((w.alloc (.cells #[aM,aM,aM] 66)).heap[r]? =I (bY s 0)):=by
  show _=_;rw[VH _ _ r a6];exact h
 have el:X ((w.alloc (.cells #[aM,aM,aM] 66)).heap[q]? =I (bY z 0)):=by
  show _=_;rw[VH _ _ q a5];exact o
 have b6:X (jJ r q w (w.alloc (.cells #[aM,aM,aM] 66))):=(jJ.refl r q w).alloc _;go_enter av.func44,Tryz.ntmps44
 go_wp2_with fail
 refine(wZ r 0 s _ c7 (VB _) er.o).mono ?_;rintro p H ⟨a2,⟨a,gr,gs,rfl,au,f4,c5,cx,c0,c3,f8⟩|⟨m,rfl,a4⟩⟩;rotate_left
 ·have L:X (∀a b,xu a b->ai (bytesOf s) 0 (ri a b)->bytesOf z≠bO b):=λa b k E=>(a4 a k.pl (ap.1 E).1).elim;have d2:X (jJ r q w H):=b6.o.trans (jJ.jm a2);go_wp2;exact⟨rfl,d2.o,.inr ⟨m,rfl,L.o⟩⟩
 ·obtain⟨d,e,rfl⟩:=cF c0;obtain⟨f,g,rfl⟩:=cF c3;have fa:H.heap[q]? =I (bY z 0):=Kp.block a2 el.o (by omega);have R:lO w (H.alloc (.cells #[.slice d a.length e,.slice f a.length g,aM] 66)) H.heap.size r q a d f e g aM []:=by
   refine⟨?_,bC H _,(bE c0 (by simp)).alloc _,(bE c3 (by simp)).alloc _,⟨Xj _ _ _ _,λg8 f2=>by simp at f2⟩,(b6.o.trans (jJ.jm a2)).alloc _⟩;have:=Kp.block a2 (Xf w (.cells #[aM,aM,aM] 66)) (by omega);exact alloc_old _ (by simpa using Va this) this
  have a3:w.heap.size<H.heap.size:=by have:=a2.size;simp at this;omega
  obtain⟨N,da⟩:∃N,N=(za a).length:=⟨_,rfl⟩;rw[VV,<-da] at c5 cx;have bj:X (N=(za a).length):=da;have e2:X (ai (bytesOf s) 0 (za a)):=f4;have cb:X (om a):=au;have ci:X (∀j,om j->ai (bytesOf s) 0 (za j)->j=a):=f8;have fg:(H.alloc (.cells #[.slice d a.length e,.slice f a.length g,aM] 66)).heap[r]? =I (bY s N):=by rw[VH _ _ r (by omega)];exact cx
  have fd:(H.alloc (.cells #[.slice d a.length e,.slice f a.length g,aM] 66)).heap[q]? =I (bY z 0):=by rw[VH _ _ q (by omega)];exact fa
  have fx:a.length<=8:=by have:=au.1.2.1;simpa using this
  have dD:X ((a.map Vy).length<=8):=by show _<=_;simpa using fx
  go_upto_region 3 with fail
  generalize H.alloc (.cells #[.slice d a.length e,.slice f a.length g,aM] 66)=bt at*;generalize H.heap.size=x at*;have e0:X (bt.heap[r]? =I (bY s N)):=fg;have en:X (bt.heap[q]? =I (bY z 0)):=fd;have T:X (lO w bt x r q a d f e g aM []):=R
  go_wp2_with fail
  refine(jF r N s _ fA c5 e0.o).mono ?_;rintro p bb ⟨bz,⟨t,rfl,fB,f5,c6,cB⟩|⟨m,rfl,a4⟩⟩;rotate_left
  ·have L:X (∀a b,xu a b->ai (bytesOf s) 0 (ri a b)->bytesOf z≠bO b):=λj b k E _=>by
    obtain⟨A,o⟩:=ap.1 E;obtain rfl:=ci.o j k.pl A;rw[VV,<-bj.o] at o;refine a4 _ ?_ (ap.1 o).1;have B:=zB b (λc aa=>(k.cj c aa).lo);have:=k.rows;omega
   have d3:X (jJ r q w bb):=T.o.kp.trans (jJ.jm bz);go_wp2;exact⟨rfl,d3.o,.inr ⟨m,rfl,L.o⟩⟩
  ·have e5:X (lO w bb x r q a d f e g aM []):=T.o.step a6 a5 a3 (jJ.jm bz);have eo:X (bb.heap[q]? =I (bY z 0)):=Kp.block bz en.o (by omega);obtain⟨C,db⟩:∃C,C=N+(aH t).length:=⟨_,rfl⟩;have ca:X (C=N+(aH t).length):=db;rw[<-db] at c6 cB;have e1:X (bb.heap[r]? =I (bY s C)):=cB;have ch:X (ai (bytesOf s) N (aH t)):=f5;have ec:X (t<2147483648):=fB;have g3:(t:Int)<2147483648:=by omega
   have b5:X (∀j n,xu j n->ai (bytesOf s) 0 (ri j n)->j=a/\n.length=t/\ai (bytesOf s) C (cX (a.map Vy) n)):=λj n k E=>by
    obtain⟨A,o⟩:=ap.1 E;obtain rfl:=ci.o j k.pl A;rw[VV,<-bj.o] at o;obtain⟨B,Q⟩:=ap.1 o;have bx:=zB n (λc aa=>(k.cj c aa).lo);have gW:=k.rows;have c1:=ct (by omega) (by have:=ec.o;omega) B ch.o;rw[c1,<-ca.o] at Q;exact⟨rfl,c1,Q⟩
   go_wp2_with fail
   go_loopw [18] (λb3 wr=>∃(b:List Bd) (l:List (Bd×U)) (i:U),b3= .int .i64 (b.length:Int)/\l.map Vy=b/\Q2 (cX (a.map Vy)) bO (λ_=>eL (a.map Vy)) (bytesOf s) C (bytesOf z) 0 t b/\lO w wr x r q a d f e g i l/\C+(cX (a.map Vy) b).length<=s.size/\wr.heap[r]? =I (bY s (C+(cX (a.map Vy) b).length))/\(bO b).length<=z.size/\wr.heap[q]? =I (bY z (bO b).length)) (λb3 _=>t-(V3 b3).toNat)
   case atStart=>exact⟨[],[],_,rfl,rfl,Q2.zero Y Y,e5.o,by simpa [cX] using c6,by simpa [cX] using e1.o,by simp[bO],by simpa [bO] using eo.o⟩
   case round=>
    obtain⟨b,l,i,rfl,cp,cs,R,au,cv,df,cu⟩:=hrel;have am:X (Q2 (cX (a.map Vy)) bO (λ_=>eL (a.map Vy)) (bytesOf s) C (bytesOf z) 0 t b):=cs;have T:X (lO w wr x r q a d f e g i l):=R;have a7:X (l.map Vy=b):=cp;have bi:X (l.length=b.length):=by show _=_;rw[<-cp,VQ]
    have cR:b.length<=65536:=by have:=JY (a.map Vy) b;omega
    obtain⟨u,dc⟩:∃u,u=C+(cX (a.map Vy) b).length:=⟨_,rfl⟩;obtain⟨v,ab⟩:∃v,v=(bO b).length:=⟨_,rfl⟩;have a0:X (u=C+(cX (a.map Vy) b).length):=dc;have ao:X (v=(bO b).length):=ab;rw[<-dc] at au cv;rw[<-ab] at df cu;have bl:X (wr.heap[r]? =I (bY s u)):=cv;have bk:X (wr.heap[q]? =I (bY z v)):=cu;have g1:b.length<=t:=cs.le;have f7:w.heap.size<=wr.heap.size:=R.kp.size;by_cases b0:b.length<t
    ·have dT:X ((∀y,eL (a.map Vy) y->ai (bytesOf s) u (eB (a.map Vy) y)->¬ai (bytesOf z) v (b9 y.chunks))->∀a b,xu a b->ai (bytesOf s) 0 (ri a b)->bytesOf z≠bO b):=λab j n k E S=>by
      obtain⟨A,o,B⟩:=b5.o j n k E;rw[A] at k;refine am.o.fail (e:=λ_ y=>eB (a.map Vy) y) (g:=λ_ y=>b9 y.chunks) (uJ _) sO b0 (λy b2 Q bx=>?_) n o (Ro k.cj) B (eN S.symm);rw[<-a0.o] at Q;rw[VV,<-ao.o] at bx;exact ab y b2 Q bx
     have eA:X (bK 71 #[(aP r),(aP q),.slice d a.length e] wr.drew (Ti (a.map Vy) wr.drew r u s q v z)):=CZ (a.map Vy) _ r u q v w.heap.size s z wr.drew f3 c7 gf au df bl.o bk.o a6 a5 (by rw[VQ];exact(aR T.o.ah ((Vi wr.heap.size wr).drew))) dD.o (Np cb.o);obtain⟨dp,dq,b4,dr⟩:=R.cells
     go_upto_region 5 with fail
     refine Un.open_ (λV=>cD V x 2 i) 9 (λ_ _ _ _ _ h=>h) λg4=>?_;have co:(λV=>cD V x 2 i) wr.drew:=b4;refine Un.pk 0 ?_
     try simp only[WH,Vq,VD,Vz]
     refine Un.ld [9] 1 ?_
     try simp only[WH,Vq,VD,Vz]
     refine Un.pk 2 ?_
     try simp only[WH,Vq,VD,Vz]
     refine Un.pk 3 ?_
     try simp only[WH,Vq,VD,Vz]
     refine Un.pk 4 ?_
     try simp only[WH,Vq,VD,Vz]
     refine Un.on 5 λbs W=>?_;go_simp;go_at_call 71;refine eA.o.mono ?_;rintro p J ⟨ar,⟨c,g7,rfl,fk,f6,fv,fe,fl,fz,fb,c4,f9⟩|⟨m,rfl,a4⟩⟩;rotate_left
     ·have ar:=(jJ.cr (r:=r) (q:=q) ((Vi wr.heap.size wr).drew)).trans ar;have L:X (∀a b,xu a b->ai (bytesOf s) 0 (ri a b)->bytesOf z≠bO b):=dT.o a4;have d4:X (jJ r q w J):=T.o.kp.trans ar;exact⟨rfl,d4.o,.inr ⟨m,rfl,L.o⟩⟩
     ·have ar:=(jJ.cr (r:=r) (q:=q) ((Vi wr.heap.size wr).drew)).trans ar;obtain⟨ae,ad,rfl⟩:=cF c4;have O:X (lO w J x r q a d f e g i l):=T.o.step a6 a5 a3 ar;have d6:X (J.ownsRow w.heap.size 102 8 (.slice ae c.chunks.length ad) c.chunks.length (ei c.chunks)):=bE c4 (by simpa using f7);have dv:X (eL (a.map Vy) c):=fk;have e3:X (ai (bytesOf s) u (eB (a.map Vy) c)):=f6;have d7:X (u+(eB (a.map Vy) c).length<=s.size):=fv;have es:X (J.heap[r]? =I (bY s (u+(eB (a.map Vy) c).length))):=fe;have dC:X (ai (bytesOf z) v (b9 c.chunks)):=fl;have d8:X (v+(b9 c.chunks).length<=z.size):=fz;have em:X (J.heap[q]? =I (bY z (v+(b9 c.chunks).length))):=fb;have e7:X (∀a8,eL (a.map Vy) a8->ai (bytesOf s) u (eB (a.map Vy) a8)->ai (bytesOf z) v (b9 a8.chunks)->a8=c):=f9;have dt:=O.o.cells.2.2.1;refine W.o _ _ (λ_=>dt) ?_
      try simp only[WH,Vq,VD,Vz]
      have co:(λV=>cD V x 2 i) J:=dt;refine Un.on 6 λbs W=>?_;go_simp;have e6:X (lO w (J.alloc (.cells (oD (c,.slice ae c.chunks.length ad)).toArray 98)) x r q a d f e g i l):=O.o.below ((Vi _ _).alloc (U7 _) _);refine W.o _ _ (λ_=>e6.o.cells.2.2.1) ?_
      try simp only[WH,Vq,VD,Vz]
      refine Un.one (i:=7) (by kernel_rfl) Y (λbs W=>?_);have c8:=O.o.cj.own;rw[bi.o] at c8;have g6:w.heap.size<=J.heap.size:=O.o.kp.size;refine step_append_lies _ (by rfl) _ _ 64 (by rfl) w.heap.size 98 gg _ 2 32 av.underlying64 fu gb gc ge Y (by decide) i b.length _ (by rfl) (c8.alloc _) ⟨J.heap.size,0,K⟩ 1 1 (oD (c,.slice ae c.chunks.length ad)) (by rfl) Y (JG J _ _ _) (by intro v ab;simp[oD] at ab;rcases ab with rfl|rfl<;>rfl) (by decide) (by unfold Vp;omega) (by omega) (by simp;omega) _ Y ?_;intro M P aw c9 ft fi g2;have a9:=aY.lU (n:=b.length+1) (cap:=P) ft fi;have f1:aw.ownsRow w.heap.size 98 2 (.slice (I ⟨M,0,K⟩) (b.length+1) P) (l++[(c,VR ae c.chunks.length ad)]).length (nZ (l++[(c,VR ae c.chunks.length ad)])):=by
       unfold nZ at c9 ⊢;rw[Wi,Wd,U8,bi.o];exact c9
      have d0:X (lO w (aw.setCell ⟨x,2,K⟩ (.slice (I ⟨M,0,K⟩) (b.length+1) P)) x r q a d f e g (.slice (I ⟨M,0,K⟩) (b.length+1) P) (l++[(c,VR ae c.chunks.length ad)])):=O.o.lT a3 a9 d6.o f1;have bm:X ((aw.setCell ⟨x,2,K⟩ (.slice (I ⟨M,0,K⟩) (b.length+1) P)).heap[r]? =I (bY s (u+(eB (a.map Vy) c).length))):=O.o.reader a3 a9 a6 es.o;have eq:X ((aw.setCell ⟨x,2,K⟩ (.slice (I ⟨M,0,K⟩) (b.length+1) P)).heap[q]? =I (bY z (v+(b9 c.chunks).length))):=O.o.reader a3 a9 a5 em.o;obtain⟨du,hc⟩:=O.o.kept a9;refine W.o _ _ (λ_=>du) ?_
      try simp only[WH,Vq,VD,Vz]
      have co:(λV=>cD V x 2 i) aw:=du;refine Un.pk 8 ?_
      try simp only[WH,Vq,VD,Vz]
      refine Un.on 9 λbs W=>?_;go_simp;refine W.o _ _ (λh=>absurd h (by decide)) ?_;refine Un.done (by kernel_rfl) ?_ _
      try simp only[WH,Vq,VD,Vz]
      generalize aw.setCell ⟨x,2,K⟩ (.slice (I ⟨M,0,K⟩) (b.length+1) P)=gn at*;generalize VR (I ⟨M,0,K⟩) (b.length+1) P=gq at*;have b7:X (C+(cX (a.map Vy) (b++[c])).length=u+(eB (a.map Vy) c).length):=by
       show _=_;rw[uJ,U8];have B:=a0.o;omega
      have b8:X ((bO (b++[c])).length=v+(b9 c.chunks).length):=by
       show _=_;rw[sO,U8,ao.o]
      have eb:X (Q2 (cX (a.map Vy)) bO (λ_=>eL (a.map Vy)) (bytesOf s) C (bytesOf z) 0 t (b++[c])):=by
       refine am.o.more (e:=λ_ y=>eB (a.map Vy) y) (g:=λ_ y=>b9 y.chunks) (uJ _) sO b0 dv.o (by rw[<-a0.o];exact e3.o) (by rw[VV,<-ao.o];exact dC.o) (λy b2 B Q=>?_);rw[<-a0.o] at B;rw[VV,<-ao.o] at Q;exact e7.o y b2 B Q
      have d9:X ((l++[(c,VR ae c.chunks.length ad)]).map Vy=b++[c]):=by show _=_;rw[V1,a7.o];rfl
      go_wp2_with fail
      go_roundw
      case rel=>exact⟨b++[c],_,_,by rw[U8];go_num,d9.o,eb.o,d0.o,by rw[b7.o];exact d7.o,by rw[b7.o];exact bm.o,by rw[b8.o];exact d8.o,by rw[b8.o];exact eq.o⟩
      case measure=>simp[V3];omega
    ·have bc:=am.o.done b0;have dE:X (b.length=t):=bc.1;have dO:X (∀a1:List Bd,a1.length=t->tw (λ_=>eL (a.map Vy)) a1->ai (bytesOf s) C (cX (a.map Vy) a1)->ai (bytesOf z) 0 (bO a1)->a1=b):=bc.2;have f0:t=b.length:=bc.1.symm;have be:X (∀c∈b,eL (a.map Vy) c):=R7 am.o.Sn;have br:X (∀j n,xu j n->ai (bytesOf s) 0 (ri j n)->bytesOf z=bO n->j=a/\n=b):=λj n k E S=>by
      obtain⟨A,o,B⟩:=b5.o j n k E;rw[A] at k;exact⟨A,dO.o n o (Ro k.cj) B (eN S.symm)⟩
     have cf:X (bK 72 #[.agg #[.slice d a.length e,.slice f a.length g,i]] wr λp ba=>p= .returned (.int .i64 (gh (l.map Vy):Int))/\aQ wr ba):=Km d f _ _ _ _ w.heap.size i l wr R.cj (by rw[bi.o];exact cR) (by rw[a7.o];exact λc aa=>(be.o c aa).hi);rw[a7.o] at cf;have g5:gh b<=6553600:=by have:=Fh b (λc aa=>(be.o c aa).hi);have:=Nat.mul_le_mul_right 100 cR;omega
     have bd:X ((ri a b).length=u/\ai (bytesOf s) 0 (ri a b)):=by
      have e9:=bj.o;have M:=ca.o;have gy:=a0.o;unfold ri;rw[dE.o];refine⟨by rw[U8,U8];omega,?_⟩;exact ap.2 ⟨e2.o,by rw[VV,<-e9];exact ap.2 ⟨ch.o,by rw[<-M];exact am.o.st⟩⟩
     have e4:X (ai (bytesOf z) 0 (bO b)):=am.o.sc;obtain⟨bv,bu,bB⟩:=cF R.cj.own;subst bB;obtain⟨dp,dq,b4,dr⟩:=R.cells;subst f0
     go_wp2_with fail
     refine cf.o.mono ?_;rintro p al ⟨rfl,bA⟩;have bo:X (lO w al x r q a d f e g (.slice bv l.length bu) l):=T.o.below bA;have cd:X (al.heap[r]? =I (bY s u)):=(bA.block r (Va bl.o)).trans bl.o;have cc:X (al.heap[q]? =I (bY z v)):=(bA.block q (Va bk.o)).trans bk.o;by_cases g0:2000<gh b
     ·have fm:decide ((2000:Int)<(gh b:Int))=Z:=by simp;omega
      have L:X (∀a b,xu a b->ai (bytesOf s) 0 (ri a b)->bytesOf z≠bO b):=λj n k E S=>by
       obtain⟨A,o⟩:=br.o j n k E S;have:=k.rows;rw[o] at this;omega
      go_wp2_with (go_at_call 73;refine(bU r u s _ cd.o).mono ?_;rintro p ba ⟨rfl,rfl⟩)
      exact⟨rfl,bo.o.kp,.inr ⟨_,rfl,L.o⟩⟩
     ·have fm:decide ((2000:Int)<(gh b:Int))=U5:=by simp;omega
      have eQ:X (gh b<=2000):=by show _<=_;omega
      by_cases c2:v<z.size
      ·have L:X (∀a b,xu a b->ai (bytesOf s) 0 (ri a b)->bytesOf z≠bO b):=λj n k E S=>by
        obtain⟨A,o⟩:=br.o j n k E S;have B:=congrArg Ym S;rw[ak,o,<-ao.o] at B;omega
       go_wp2_with (go_at_call 68;refine(CA q v z _ dk c2 cc.o).mono ?_;rintro p ba ⟨rfl,m,rfl⟩)
       exact⟨rfl,bo.o.kp.trans (jJ.jm ((Kp.refl r al).drewN _)),.inr ⟨_,rfl,L.o⟩⟩
      ·have e8:X (bytesOf z=bO b):=by
        show _=_;refine(zZ e4.o ?_);rw[ak,<-ao.o];omega
       have d1:X (xu a b):=⟨cb.o,be.o,eQ.o⟩
       go_upto_region 10 with(go_at_call 68;refine(GQ q v z _ dk c2 cc.o).mono ?_;rintro p ba ⟨rfl,m,rfl⟩)
       have D:lO w (al.drewN m) x r q a d f e g (.slice bv l.length bu) l:=bo.o.below (below_drewN (Vi _ _) _);have et:X ((al.drewN m).heap[r]? =I (bY s u)):=cd.o;generalize al.drewN m=G at*;generalize bB:VR bv l.length bu=i at D;obtain⟨dp,dq,b4,dr⟩:=D.cells;obtain⟨g9,ha,hb⟩:=bW D.res;have gt:G.frozen? ⟨w.heap.size,0,K⟩=U5:=by have:=D.res;simp[VW,this]
       have gv:G.frozen? ⟨w.heap.size,1,K⟩=U5:=by have:=D.res;simp[VW,this]
       have gx:G.frozen? ⟨w.heap.size,2,K⟩=U5:=by have:=D.res;simp[VW,this]
       have A:=Vl G w.heap.size 0 _ _ (.slice d a.length e) D.res;have o:=Vl _ w.heap.size 1 _ _ (.slice f a.length g) A;have B:=Vl _ w.heap.size 2 _ _ i o;obtain⟨gi,gj,gl⟩:=bW (show _=I (Obj.cells #[.slice d a.length e,.slice f a.length g,i] 66 (0,0)) from B);have ee:X (iY (((G.setCell ⟨w.heap.size,0,K⟩ (.slice d a.length e)).setCell ⟨w.heap.size,1,K⟩ (.slice f a.length g)).setCell ⟨w.heap.size,2,K⟩ i) w.heap.size i l):=
        ((D.cj.put D.res (by decide) (by decide) _ _).put A (by decide) (by decide) _ _).put o (by decide) (by decide) _ _
       have dn:∀{q:U} {t p dl:Nat} {ds:List U},p≠66->G.ownsRow w.heap.size p dl q t ds->(((G.setCell ⟨w.heap.size,0,K⟩ (.slice d a.length e)).setCell ⟨w.heap.size,1,K⟩ (.slice f a.length g)).setCell ⟨w.heap.size,2,K⟩ i).ownsRow w.heap.size p dl q t ds:=λb1 dd=>by
        have ck:=dd.kept (aL G w.heap.size 0 (.slice d a.length e)) (.inr (bh dd D.res b1.symm).symm);have cl:=ck.kept (aL _ w.heap.size 1 (.slice f a.length g)) (.inr (bh ck A b1.symm).symm);exact cl.kept (aL _ w.heap.size 2 i) (.inr (bh cl o b1.symm).symm)
       have ef:X ((((G.setCell ⟨w.heap.size,0,K⟩ (.slice d a.length e)).setCell ⟨w.heap.size,1,K⟩ (.slice f a.length g)).setCell ⟨w.heap.size,2,K⟩ i).ownsRow w.heap.size 51 2 (.slice d a.length e) a.length (ij (a.map Vy))):=dn (by decide) D.ah;have eh:X ((((G.setCell ⟨w.heap.size,0,K⟩ (.slice d a.length e)).setCell ⟨w.heap.size,1,K⟩ (.slice f a.length g)).setCell ⟨w.heap.size,2,K⟩ i).ownsRow w.heap.size 3 1 (.slice f a.length g) a.length (bq (a.map WD))):=dn (by decide) D.n5;have d5:X (jJ r q w (((G.setCell ⟨w.heap.size,0,K⟩ (.slice d a.length e)).setCell ⟨w.heap.size,1,K⟩ (.slice f a.length g)).setCell ⟨w.heap.size,2,K⟩ i)):=((D.kp.grown (aL G w.heap.size 0 _) (λcn p=>by cases p;exact U7 _)).grown (aL _ w.heap.size 1 _) (λcn p=>by cases p;exact U7 _)).grown (aL _ w.heap.size 2 _) (λcn p=>by cases p;exact U7 _);have bm:X ((((G.setCell ⟨w.heap.size,0,K⟩ (.slice d a.length e)).setCell ⟨w.heap.size,1,K⟩ (.slice f a.length g)).setCell ⟨w.heap.size,2,K⟩ i).heap[r]? =I (bY s u)):=by
        show _=_;rw[Vj _ _ _ _ (by simp;omega),Vj _ _ _ _ (by simp;omega),Vj _ _ _ _ (by simp;omega)];exact et.o
       subst bB;go_wp2;simp[Xw,V0,Tryz.results44,go_sem,gi,gj,gl];exact⟨d5.o,.inl ⟨a,b,l,d,f,e,g,_,rfl,d1.o,a7.o,bd.o.2,by rw[bd.o.1];exact au,by rw[bd.o.1];exact bm.o,e8.o,ef.o,eh.o,ee.o,br.o⟩⟩
def o8:Array U:= #[aM,aM,aM]
def fT{w:F}{g:Nat}{a b c:U}{t:Vc}(h:w.heap[g]? =I (.cells #[a,b,c] t (0,0))):(w.cell? ⟨g,0,K⟩=I a/\w.cell? ⟨g,1,K⟩=I b/\w.cell? ⟨g,2,K⟩=I c)/\(w.frozen? ⟨g,0,K⟩=U5/\w.frozen? ⟨g,1,K⟩=U5/\w.frozen? ⟨g,2,K⟩=U5):=by
 refine⟨⟨?_,?_,?_⟩,?_,?_,?_⟩<;>simp[Ve,VW,h]
def gT (w:F)(g:Nat)(a b c:U):F:=((w.setCell ⟨g,0,K⟩ a).setCell ⟨g,1,K⟩ b).setCell ⟨g,2,K⟩ c
def rG{w:F}{g:Nat}{a b c:U}{t:Vc}(x y z:U)(h:w.heap[g]? =I (.cells #[a,b,c] t (0,0))):(gT w g x y z).heap[g]? =I (.cells #[x,y,z] t (0,0)):=by
 have d:=Vl w g 0 _ _ x h;have e:=Vl _ g 1 _ _ y d;exact Vl _ g 2 _ _ z e
def kJ{w:F}{g i:Nat}(x y z:U)(h:i≠g):(gT w g x y z).heap[i]? =w.heap[i]? :=by
 unfold gT;rw[Vj _ _ _ _ (by simp;omega),Vj _ _ _ _ (by simp;omega),Vj _ _ _ _ (by simp;omega)]
def m8{w w0:F}{g n:Nat}(x y z:U)(h:Below n w0 w)(b:n<=w0.heap.size)(a:n<=g):Below n w0 (gT w g x y z):=
 cH (cH (cH h b a _ _) b a _ _) b a _ _
def uN(b a:Nat)(x y z v:U)(u:Vc)(h:U)(g:List PanicEntry)(w:F)(r:b≠a)(hL:w.heap[b]? =I (.cells #[x,y,z] 66 (0,0)))(f:w.heap[a]? =I (.cells #[v] 4 (0,0))):
 CallsD (ax U1) 67 #[(aP b),(aP a)] (.panicking ({v:=.iface u h,recovered:=U5}::g)) w λe G w'=>
  e= .returned (.tuple #[])/\G= .panicking ({v:=.iface u h,recovered:=Z}::g)/\w'=(gT (w.alloc (.cells o8 66)) b aM aM aM).setCell ⟨a,0,K⟩ (.bool U5):=by
 have q:=Va hL;have p:=Va f;have n:(w.alloc (.cells o8 66)).heap[b]? =I (.cells #[x,y,z] 66 (0,0)):=by rw[VH _ _ b q];exact hL
 have l:(w.alloc (.cells o8 66)).heap[a]? =I (.cells #[v] 4 (0,0)):=by rw[VH _ _ a p];exact f
 have o:(w.alloc (.cells o8 66)).heap[w.heap.size]? =I (.cells #[aM,aM,aM] 66 (0,0)):=bC w _;refine callsD_of_wpS av.func67 Y λJ H s=>?_;apply wpS_seq;apply wpS_region;simp[wpOpsS,go_sem,recoverD,s,Tryz.ntmps67,Exit.thenS];refine wpS_cond (t:=Z) (by simp[Act.eval,V8]) ?_;simp only[if_true];apply wpS_seq;apply wpS_region;simp[wpOpsS,go_sem,Exit.thenS];apply wpS_region;obtain⟨⟨C,D,E⟩,-⟩:=fT o;obtain⟨⟨t,A,B⟩,i,j,k⟩:=fT n;have m:(gT (w.alloc (.cells o8 66)) b aM aM aM).heap[a]? =I (.cells #[v] 4 (0,0)):=by rw[kJ _ _ _ r.symm];exact l
 obtain⟨c,d⟩:=dy m;unfold gT at c d ⊢;unfold o8 at*;simp[wpOpsS,go_sem,C,D,E,t,A,B,i,j,k,c,d,bodyPostS,V0,Tryz.results67]
def Ea(d c:VI)(w:F):
 CallsD (ax U1) 67 #[.pointer (I d),.pointer (I c)] .returning w λe f w'=>e= .returned (.tuple #[])/\f= .returning/\w'=w:=by
 refine callsD_of_wpS av.func67 Y λa g b=>?_;apply wpS_seq;apply wpS_region;simp[wpOpsS,go_sem,recoverD,b,Tryz.ntmps67,Exit.thenS];refine wpS_cond (t:=U5) (by simp[Act.eval,V8]) ?_;simp only[Vv,if_false];refine wpS_of_wp (wp_skip ?_);cases a;simp_all [bodyPostS,V0,Tryz.results67]
def Ns{r q:Nat}{w d e:F}(h:Kp r w d)(k:jJ r q d e)(g:w.heap.size<=q):Kp r w e:=
 ⟨k.os.trans h.os,k.tape.trans h.tape,k.output.trans h.output,Vm (Kp.size h) k.size,λc a b=>(k.block c (U9 a (Kp.size h)) (λf=>b (by rw[f])) (by omega)).trans (XI h c a b)⟩
structure dh(W:F)(base:Nat)(l:List (bQ×Int))(L:List (Bd×U))(a b c:U):Prop where
 ah:W.ownsRow base 51 2 a l.length (ij (l.map Vy))
 n5:W.ownsRow base 3 1 b l.length (bq (l.map WD))
 cj:iY W base c L
def dh.below{e f:F}{base:Nat}{l:List (bQ×Int)}{L:List (Bd×U)}{a b c:U}(h:dh e base l L a b c)(d:aQ e f):dh f base l L a b c:=⟨aR h.ah d,aR h.n5 d,h.cj.below d⟩
def dh.base{e:F}{base f:Nat}{l:List (bQ×Int)}{L:List (Bd×U)}{a b c:U}(h:dh e base l L a b c)(d:f<=base):dh e f l L a b c:=⟨bE h.ah d,bE h.n5 d,⟨bE h.cj.own d,λi g=>bE (h.cj.each i g) d⟩⟩
def dh.put{d:F}{base:Nat}{l:List (bQ×Int)}{L:List (Bd×U)}{a b c:U}(h:dh d base l L a b c){g:Nat}{cs:Array U}{t:Vc}(f:d.heap[g]? =I (.cells cs t (0,0)))(e:t=66\/t=4\/t=9)(o:Nat)(u:U):dh (d.setCell ⟨g,o,K⟩ u) base l L a b c:=by
 have i:t≠51:=by rcases e with rfl|rfl|rfl<;>decide
 have j:t≠3:=by rcases e with rfl|rfl|rfl<;>decide
 have k:t≠98:=by rcases e with rfl|rfl|rfl<;>decide
 have m:t≠102:=by rcases e with rfl|rfl|rfl<;>decide
 exact⟨h.ah.kept (aL d g o u) (.inr (bh h.ah f i).symm),h.n5.kept (aL d g o u) (.inr (bh h.n5 f j).symm),h.cj.put f k m o u⟩
def dh.gT{d:F}{base:Nat}{l:List (bQ×Int)}{L:List (Bd×U)}{a b c:U}(h:dh d base l L a b c){g:Nat}{x y z:U}(i j m:U)(f:d.heap[g]? =I (.cells #[x,y,z] 66 (0,0))):dh (Ec.gT d g i j m) base l L a b c:=by
 have e:=Vl d g 0 _ _ i f;have k:=Vl _ g 1 _ _ j e;exact((h.put f (.inl Y) _ _).put e (.inl Y) _ _).put k (.inl Y) _ _
def dh.M9{i:F}{base:Nat}{l:List (bQ×Int)}{L:List (Bd×U)}{a b c:U}(h:dh i base l L a b c):∃d ac f e co g,a= .slice d l.length ac/\b= .slice f l.length e/\c= .slice co L.length g:=by
 obtain⟨d,ac,j⟩:=cF h.ah;obtain⟨f,e,k⟩:=cF h.n5;obtain⟨co,g,m⟩:=cF h.cj.own;exact⟨d,ac,f,e,co,g,j,k,m⟩
def UN (w:F)(r:Nat)(s z:ByteArray)(e:X6)(w':F):Prop:=
 Kp r w w'/\((∃(b:List (bQ×Int)) (a:List Bd) (f:List (Bd×U)) (g h i:U),e= .returned (.agg #[g,h,i])/\xu b a/\f.map Vy=a/\ai (bytesOf s) 0 (ri b a)/\(ri b a).length<=s.size/\w'.heap[r]? =I (bY s (ri b a).length)/\bytesOf z=bO a/\dh w' w.heap.size b f g h i/\(∀d c,xu d c->ai (bytesOf s) 0 (ri d c)->bytesOf z=bO c->d=b/\c=a))\/
  (∃m,e= .panicked (ez m)/\∀b a,xu b a->ai (bytesOf s) 0 (ri b a)->bytesOf z≠bO a))
def KU(r cb:Nat)(s z:ByteArray)(w:F)(a2:s.size<=65536)(C:z.size<=65536)(h:w.heap[r]? =I (bY s 0))(B:w.heap[cb]? =I (.cells #[.string z] 9 (0,0))):
 bK 43 #[(aP r),(aP cb)] w (UN w r s z):=by
 have a7:r<w.heap.size:=Va h;have aw:cb<w.heap.size:=Va B;have be:(w.alloc (.cells #[aM,aM,aM] 66)).cell? ⟨cb,0,K⟩=I (.string z):=(dy (t:=9) (by rw[VH _ _ cb aw];exact B)).1;have H:X (∀n,bK 46 #[.string z] n λc bd=>c= .returned (.string z)/\aQ n bd):=λn=>yg z n C;have u:X ((w.alloc (.cells #[aM,aM,aM] 66)).heap[r]? =I (bY s 0)):=by
  show _=_;rw[VH _ _ r a7];exact h
 have v:X ((w.alloc (.cells #[aM,aM,aM] 66)).heap[w.heap.size]? =I (.cells #[aM,aM,aM] 66 (0,0))):=bC w _;have M:X (Kp r w (w.alloc (.cells #[aM,aM,aM] 66))):=(Kp.refl r w).alloc _;go_enter av.func43,Tryz.ntmps43
 go_wp2_with fail
 refine(H.o _).mono ?_;rintro c b ⟨rfl,q⟩;have U:X (b.heap[r]? =I (bY s 0)):=(q.block r (Va u.o)).trans u.o;have x:X (b.heap[w.heap.size]? =I (.cells #[aM,aM,aM] 66 (0,0))):=(q.block _ (Va v.o)).trans v.o;have N:X (Kp r w b):=M.o.trans (Kp.cr q)
 go_wp2_with fail
 refine(n7 z _).mono ?_;rintro c bl ⟨rfl,rfl⟩;have ba:w.heap.size<b.heap.size:=Va x.o;have V:X ((b.alloc (bY z 0)).heap[r]? =I (bY s 0)):=by show _=_;rw[VH _ _ r (by omega)];exact U.o
 have T:X ((b.alloc (bY z 0)).heap[b.heap.size]? =I (bY z 0)):=bC b _;have aa:X ((b.alloc (bY z 0)).heap[w.heap.size]? =I (.cells #[aM,aM,aM] 66 (0,0))):=by show _=_;rw[VH _ _ _ ba];exact x.o
 have t:X (Kp r w (b.alloc (bY z 0))):=N.o.alloc _;have a9:w.heap.size<=(b.alloc (bY z 0)).heap.size:=by simp;omega
 generalize b.alloc (bY z 0)=ae at*;generalize b.heap.size=bc at*
 go_wp2_with fail
 refine(zv r bc s z ae (by omega) a2 C V.o T.o).mono ?_;rintro c e ⟨o,⟨a,y,d,g,j,f,i,al,rfl,a0,ao,a8,a1,ar,au,a5,a6,a4,bb⟩|⟨m,rfl,a3⟩⟩;rotate_left
 ·have S:=af a3;have O:X (Kp r w e):=Ns t.o o (by omega);go_wp2;exact⟨rfl,O.o,.inr ⟨m,rfl,S.o⟩⟩
 ·have am:Kp r w e:=Ns t.o o (by omega);have p:e.heap[w.heap.size]? =I (.cells #[aM,aM,aM] 66 (0,0)):=o.keep aa.o (by omega) (by omega);have hF:dh e w.heap.size a d (.slice g a.length f) (.slice j a.length i) al:=(dh.mk a5 a6 a4).base a9;obtain⟨-,-,-,-,l,k,-,-,rfl⟩:=hF.M9;have J:X (dh (gT e w.heap.size (.slice g a.length f) (.slice j a.length i) (.slice l d.length k)) w.heap.size a d (.slice g a.length f) (.slice j a.length i) (.slice l d.length k)):=hF.gT _ _ _ p;have W:X ((gT e w.heap.size (.slice g a.length f) (.slice j a.length i) (.slice l d.length k)).heap[r]? =I (bY s (ri a y).length)):=by show _=_;rw[kJ _ _ _ (by omega)];exact ar
  have P:X (Kp r w (gT e w.heap.size (.slice g a.length f) (.slice j a.length i) (.slice l d.length k))):=((am.grown (aL _ w.heap.size 0 _) (λA c=>by cases c;exact U7 _)).grown (aL _ w.heap.size 1 _) (λA c=>by cases c;exact U7 _)).grown (aL _ w.heap.size 2 _) (λA c=>by cases c;exact U7 _);have ab:X ((gT e w.heap.size (.slice g a.length f) (.slice j a.length i) (.slice l d.length k)).heap[w.heap.size]? =I (.cells #[.slice g a.length f,.slice j a.length i,.slice l d.length k] 66 (0,0))):=rG _ _ _ p;obtain⟨⟨bm,bo,br⟩,bi,bj,bk⟩:=fT p;have L:=af a0;have Q:=af ao;have Y:=af a8;have R:=af a1;have ad:=af au;have Z:=af bb;obtain⟨⟨D,E,G⟩,-⟩:=fT ab.o;unfold gT at D E G;go_wp2;simp[Xw,V0,Tryz.results43,go_sem,D,E,G];exact⟨P.o,.inl ⟨a,y,d,_,_,_,rfl,L.o,Q.o,Y.o,R.o,W.o,ad.o,J.o,Z.o⟩⟩
def wL(t:ByteArray):(t.toList==[83,84,82,65])=Z↔bytesOf t=[83,84,82,65]:=by
 rw[beq_iff_eq,ByteArray.toList_eq];unfold bytesOf;constructor
 ·intro d;rw[d];rfl
 ·intro d;have e:t.data.toList.map UInt8.toNat=[(83:UInt8),84,82,65].map UInt8.toNat:=by rw[d];rfl
  have g:∀(c a:List UInt8),c.map UInt8.toNat=a.map UInt8.toNat->c=a:=by
   intro c
   induction c with
   |nil=>intro a b;cases a with|nil=>rfl|cons _ _=>simp at b
   |cons j i f=>
    intro a b;cases a with
    |nil=>simp at b
    |cons k h=>
     simp only[Yy,Yl] at b;rw[UInt8.toNat_inj.1 b.1,f h b.2]
  exact g _ _ e
def Ql{s:ByteArray}(c:4<=s.size):bytesOf (s.extract 0 4)=[83,84,82,65]↔∃b,bytesOf s=[83,84,82,65]++b:=by
 rw[dm,List.drop_zero];constructor
 ·intro a;exact⟨(bytesOf s).drop 4,by rw[<-a];exact(X4 4 _).symm⟩
 ·rintro⟨b,a⟩;rw[a];simp
def QH{s:ByteArray}(d:4<=s.size):bytesOf (s.extract (s.size-4) s.size)=[83,84,82,65]↔∃b,bytesOf s=b++[83,84,82,65]:=by
 rw[dm];constructor
 ·intro a;refine⟨(bytesOf s).take (s.size-4),?_⟩;rw[<-a,VJ (l:=(bytesOf s).drop (s.size-4)) (by rw[Yd,ak];omega)];exact(X4 _ _).symm
 ·rintro⟨b,a⟩;have c:=congrArg Ym a;rw[ak] at c;simp at c;rw[a,show s.size-4=b.length by omega,List.drop_left];exact VJ (by simp;omega)
def AJ(s:ByteArray)(w:F)(f:s.size<=Vp):
 bK 101 #[.string s,.string ⟨#[83,84,82,65]⟩] w λe w'=>∃bb,e= .returned (.bool bb)/\(bb=Z↔4<=s.size/\∃c,bytesOf s=[83,84,82,65]++c)/\w'=w:=by
 unfold Vp at f;by_cases b:4<=s.size
 ·have d:decide ((4:Int)<=(s.size:Int))=Z:=by simp;omega
  have g:(4:Int)<=(s.size:Int):=by omega
  go_enter av.func101,Tryz.ntmps101;go_wp2;go_ret;exact⟨_,rfl,by rw[wL,Ql b];exact⟨λa=>⟨b,a⟩,λa=>a.2⟩,rfl⟩
 ·have d:decide ((4:Int)<=(s.size:Int))=U5:=by simp;omega
  go_enter av.func101,Tryz.ntmps101;go_wp2;go_ret;exact⟨U5,rfl,⟨λa=>(by simp at a),λa=>absurd a.1 b⟩,rfl⟩
def AM(s:ByteArray)(w:F)(f:s.size<=Vp):
 bK 102 #[.string s,.string ⟨#[83,84,82,65]⟩] w λe w'=>∃bb,e= .returned (.bool bb)/\(bb=Z↔4<=s.size/\∃c,bytesOf s=c++[83,84,82,65])/\w'=w:=by
 unfold Vp at f;by_cases b:4<=s.size
 ·have d:decide ((4:Int)<=(s.size:Int))=Z:=by simp;omega
  have g:(4:Int)<=(s.size:Int):=by omega
  have h:Wj ((s.size:Int)-4)=((s.size-4:Nat):Int):=by unfold Wj;omega
  have i:((s.size-4:Nat):Int)<=(s.size:Int):=by omega
  have j:((s.size:Int)-4).toNat=s.size-4:=by omega
  go_enter av.func102,Tryz.ntmps102;go_wp2;go_ret;exact⟨_,rfl,by rw[wL,QH b];exact⟨λa=>⟨b,a⟩,λa=>a.2⟩,rfl⟩
 ·have d:decide ((4:Int)<=(s.size:Int))=U5:=by simp;omega
  go_enter av.func102,Tryz.ntmps102;go_wp2;go_ret;exact⟨U5,rfl,⟨λa=>(by simp at a),λa=>absurd a.1 b⟩,rfl⟩
def Re (s:ByteArray)(e:X6):Prop:=∃(b:ByteArray) (a:Bool),e= .returned (.tuple #[.string b,.bool a])/\((a=Z/\bytesOf s=[83,84,82,65]++bytesOf b)\/(a=U5/\b=s/\∀c,bytesOf s≠[83,84,82,65]++c))
def Rg (s:ByteArray)(e:X6):Prop:=∃(b:ByteArray) (a:Bool),e= .returned (.tuple #[.string b,.bool a])/\((a=Z/\bytesOf s=bytesOf b++[83,84,82,65])\/(a=U5/\b=s/\∀c,bytesOf s≠c++[83,84,82,65]))
def xf(s:ByteArray)(w:F)(g:s.size<=Vp):
 bK 82 #[.string s,.string ⟨#[83,84,82,65]⟩] w λe w'=>Re s e/\w'=w:=by
 have k:=g;unfold Vp at k;go_enter av.func82,Tryz.ntmps82
 go_wp2_with fail
 refine(AJ s _ g).mono ?_;rintro e m ⟨j,rfl,a,rfl⟩;cases j
 ·have h:X (∀b,bytesOf s≠[83,84,82,65]++b):=λb c=>by
   have d:4<=s.size:=by
    have:=congrArg Ym c;rw[ak] at this;simp at this;omega
   exact absurd (a.2 ⟨d,b,c⟩) (by simp)
  clear a;go_wp2
  go_ret2
  exact⟨⟨s,U5,rfl,.inr ⟨rfl,rfl,h.o⟩⟩,rfl⟩
 ·have d:=(a.1 Y).1;have i:=af ((a.1 Y).2);have l:(4:Int)<=(s.size:Int):=by omega
  clear a;go_wp2
  go_ret2
  refine⟨⟨s.extract 4 s.size,Z,rfl,.inl ⟨rfl,?_⟩⟩,rfl⟩;obtain⟨b,f⟩:=i.o;rw[dm,f,VJ (by rw[Yd,<-f,ak];omega)];simp
def xg(s:ByteArray)(w:F)(h:s.size<=Vp):
 bK 83 #[.string s,.string ⟨#[83,84,82,65]⟩] w λe w'=>Rg s e/\w'=w:=by
 have l:=h;unfold Vp at l;go_enter av.func83,Tryz.ntmps83
 go_wp2_with fail
 refine(AM s _ h).mono ?_;rintro e q ⟨k,rfl,b,rfl⟩;cases k
 ·have i:X (∀a,bytesOf s≠a++[83,84,82,65]):=λa c=>by
   have d:4<=s.size:=by
    have:=congrArg Ym c;rw[ak] at this;simp at this;omega
   exact absurd (b.2 ⟨d,a,c⟩) (by simp)
  clear b;go_wp2
  go_ret2
  exact⟨⟨s,U5,rfl,.inr ⟨rfl,rfl,i.o⟩⟩,rfl⟩
 ·have d:=(b.1 Y).1;have j:=af ((b.1 Y).2);have m:(4:Int)<=(s.size:Int):=by omega
  have n:Wj ((s.size:Int)-4)=((s.size-4:Nat):Int):=by unfold Wj;omega
  have o:((s.size-4:Nat):Int)<=(s.size:Int):=by omega
  have p:((s.size:Int)-4).toNat=s.size-4:=by omega
  clear b;go_wp2
  go_ret2
  refine⟨⟨s.extract 0 (s.size-4),Z,rfl,.inl ⟨rfl,?_⟩⟩,rfl⟩;obtain⟨a,f⟩:=j.o;have g:=congrArg Ym f;rw[ak] at g;simp at g;rw[dm,f,List.drop_zero,show s.size-4-0=a.length by omega,List.take_left]
def AE(s:ByteArray)(w:F)(d:s.size<=Vp):
 bK 64 #[.string s,.string ⟨#[83,84,82,65]⟩] w λe w'=>Re s e/\w'=w:=by
 go_enter av.func64,Tryz.ntmps64
 go_wp2_with fail
 refine(xf s _ d).mono ?_;rintro e g ⟨⟨f,b,rfl,c⟩,rfl⟩;have a:=af c;go_wp2
 go_ret2
 exact⟨⟨f,b,rfl,a.o⟩,rfl⟩
def sb(s:ByteArray)(w:F)(d:s.size<=Vp):
 bK 65 #[.string s,.string ⟨#[83,84,82,65]⟩] w λe w'=>Rg s e/\w'=w:=by
 go_enter av.func65,Tryz.ntmps65
 go_wp2_with fail
 refine(xg s _ d).mono ?_;rintro e g ⟨⟨f,b,rfl,c⟩,rfl⟩;have a:=af c;go_wp2
 go_ret2
 exact⟨⟨f,b,rfl,a.o⟩,rfl⟩
def sS (s:ByteArray):Nat->Nat
 |0=>0
 |k+1=>sS s k+256^k*(bytesOf s).getD k 0
def tM(s:ByteArray)(k:Nat):(bytesOf s).getD k 0<256:=by
 by_cases a:k<s.size
 ·rw[Vk,tF s k a];exact s[k].toNat_lt
 ·rw[Vk,XK (by rw[ak];omega)];simp
theorem xD(s:ByteArray):∀k,sS s k<256^k
 |0=>by simp[sS]
 |k+1=>by
  have a:=xD s k;have b:=tM s k;have c:256^k*(bytesOf s).getD k 0<=256^k*255:=Nat.mul_le_mul_left _ (by omega);rw[sS,Nat.pow_succ];omega
def Sz(j:Nat):(256:Nat)^j=2^(8*j):=by rw[Nat.pow_mul]
def Qg(a c j:Nat)(e:j<=3)(b:a<256^j)(hc:c<256):bits .or .u64 (a:Int) (Xu.wrap ((c:Int)*2^(8*j)))=((a+256^j*c:Nat):Int):=by
 have i:(256:Nat)^3=16777216:=by decide
 have g:256^j<=256^3:=Nat.pow_le_pow_right (by omega) e;have k:2^(8*j)*c<18446744073709551616:=by
  rw[<-Sz];have:=Nat.mul_le_mul g (show c<=255 by omega);omega
 have d:(c:Int)*2^(8*j)=((2^(8*j)*c:Nat):Int):=by push_cast;rw[Int.mul_comm]
 have h:Xu.wrap ((c:Int)*2^(8*j))=((2^(8*j)*c:Nat):Int):=by rw[d,wrap_u64];omega
 have f:=(bits_nat .u64 64 (by decide) vO a (2^(8*j)*c) (by omega) (by omega)).2;rw[h,f,Nat.or_comm,<-Nat.two_pow_add_eq_or_of_lt (by rw[<-Sz];exact b) c,Nat.add_comm,Sz]
def zw(s:ByteArray)(w:F)(h:s.size=4):
 bK 66 #[.string s] w λe w'=>e= .returned (.int .u64 (sS s 4:Int))/\w'=w:=by
 go_enter av.func66,Tryz.ntmps66
 go_wp2_with fail
 go_loopw [3,5] (λg b wr=>∃a:Nat,a<=4/\b= .int .i64 (a:Int)/\g= .int .u64 (sS s a:Int)/\wr=w) (λ_ b _=>4-(V3 b).toNat)
 case atStart=>exact⟨0,by omega,rfl,rfl,rfl⟩
 case round=>
  obtain⟨a,i,rfl,rfl,rfl⟩:=hrel;by_cases k:a<4
  ·have f:a<s.size:=by omega
   have j:(a:Int)<(s.size:Int):=by omega
   have c:X (s[a].toNat=(bytesOf s).getD a 0):=by show _=_;rw[Vk,tF s a f];rfl
   have d:s[a].toNat<256:=s[a].toNat_lt;have l:=Qg (sS s a) s[a].toNat a (by omega) (xD s a) d;have m:Xu.wrap (s[a].toNat:Int)=(s[a].toNat:Int):=by rw[wrap_u64];omega
   go_wp2_with fail
   refine⟨⟨a+1,by omega,by go_num,?_,trivial⟩,by simp[V3];omega⟩;rw[sS,<-c.o]
   push_cast
   rfl
  ·obtain rfl:a=4:=by omega
   go_wp2;go_ret;exact⟨rfl,rfl⟩
def Bu(E:ByteArray)(h:E.size=4):iJ (sS E 4)=bytesOf E:=by
 have f:(bytesOf E).length=4:=by rw[ak,h]
 have b:=tM E 0;have c:=tM E 1;have d:=tM E 2;have e:=tM E 3;simp only[sS];generalize bytesOf E=a at*
 match a,f with
 | [g,i,j,k],_=>
  simp at b c d e;simp[iJ];omega
def KB(E:ByteArray)(n:Nat)(e:n<=65536)(h:bytesOf E=iJ n):sS E 4=n:=by
 have c:E.size=4:=by rw[<-ak,h];rfl
 have b:=Bu E c;have a:iJ (sS E 4)=iJ n:=by rw[b,h]
 have d:=xD E 4;unfold iJ at a;simp at a;have:(256:Nat)^4=4294967296:=by decide
 omega
def Uf (s:ByteArray)(e:X6):Prop:=
 (∃a b:ByteArray,e= .returned (.tuple #[.string a,.string b,.bool Z])/\Cut s (bytesOf a) (bytesOf b))\/(e= .returned (.tuple #[.string ⟨#[]⟩,.string ⟨#[]⟩,.bool U5])/\∀a b,¬Cut s a b)
def PC(s:ByteArray)(w:F)(v:s.size<=Vp):
 bK 41 #[.string s] w λe w'=>Uf s e/\aQ w w':=by
 have K:=v;unfold Vp at K;by_cases T:65536<s.size
 ·have H:decide ((65536:Int)<(s.size:Int))=Z:=by simp;omega
  have i:X (∀c a,¬Cut s c a):=λc a f=>by have:=f.1;omega
  go_enter av.func41,Tryz.ntmps41;go_wp2;simp[Xw,V0,Tryz.results41,go_sem];exact⟨.inr ⟨rfl,i.o⟩,Vi _ _⟩
 ·have H:decide ((65536:Int)<(s.size:Int))=U5:=by simp;omega
  go_enter av.func41,Tryz.ntmps41
  go_wp2_with fail
  refine(AE s _ v).mono ?_;rintro e a0 ⟨⟨o,D,rfl,n⟩,rfl⟩;rcases n with⟨rfl,n⟩|⟨rfl,rfl,n⟩;rotate_left
  ·have i:X (∀c a,¬Cut o c a):=λc a f=>n _ f.2;clear n
   go_wp2_with fail
   refine(sb o _ v).mono ?_;rintro e A ⟨⟨d,D,rfl,h⟩,rfl⟩;clear h;go_wp2;simp[Xw,V0,Tryz.results41,go_sem];exact⟨.inr ⟨rfl,i.o⟩,Vi _ _⟩
  ·have Y:o.size+4=s.size:=by
    have:=congrArg Ym n;rw[ak,U8,ak] at this;simp at this;omega
   have M:o.size<=Vp:=by unfold Vp;omega
   have r:=af n;clear n
   go_wp2_with fail
   refine(sb o _ M).mono ?_;rintro e A ⟨⟨d,D,rfl,h⟩,rfl⟩;rcases h with⟨rfl,h⟩|⟨rfl,rfl,h⟩;rotate_left
   ·have i:X (∀c a,¬Cut s c a):=λc a f=>by
     have j:=f.2;rw[r.o] at j;have l:=List.append_cancel_left (show[83,84,82,65]++bytesOf _=[83,84,82,65]++_ from j);exact h (c++(a++iJ a.length)) (by rw[l];simp[dQ])
    clear h;go_wp2;simp[Xw,V0,Tryz.results41,go_sem];exact⟨.inr ⟨rfl,i.o⟩,Vi _ _⟩
   ·have aa:d.size+4=o.size:=by
     have:=congrArg Ym h;rw[ak,U8,ak] at this;simp at this;omega
    have p:X (∀c a,Cut s c a->bytesOf d=c++(a++iJ a.length)):=λc a f=>by
     have j:=f.2;rw[r.o] at j;have l:=List.append_cancel_left (show[83,84,82,65]++bytesOf _=[83,84,82,65]++_ from j);rw[h] at l;have z:bytesOf d++[83,84,82,65]=(c++(a++iJ a.length))++[83,84,82,65]:=by rw[l];simp[dQ]
     exact List.append_cancel_right z
    have t:X (∀c a,bytesOf d=c++(a++iJ a.length)->Cut s c a):=λc a f=>by
     refine⟨by omega,?_⟩;rw[r.o,h,f];simp[dQ]
    clear h r;by_cases z:d.size<4
    ·have I:decide ((d.size:Int)-4<0)=Z:=by simp;omega
     have N:Wj ((d.size:Int)-4)=(d.size:Int)-4:=by unfold Wj;omega
     have i:X (∀c a,¬Cut s c a):=λc a f=>by
      have:=congrArg Ym (p.o c a f);rw[ak] at this;simp[iJ] at this;omega
     clear p t;go_wp2;simp[Xw,V0,Tryz.results41,go_sem];exact⟨.inr ⟨rfl,i.o⟩,Vi _ _⟩
    ·obtain⟨b,L⟩:∃b,d.size=b+4:=⟨d.size-4,by omega⟩;have I:decide ((b:Int)<0)=U5:=by simp
     have N:Wj ((d.size:Int)-4)=(b:Int):=by unfold Wj;omega
     have Q:(b:Int)<=(d.size:Int):=by omega
     have R:(d.size:Int)-4=(b:Int):=by omega
     obtain⟨g,u⟩:∃g,g=d.extract b (b+4):=⟨_,rfl⟩;have q:g.size=4:=by rw[u,ByteArray.size_extract];omega
     have y:X (bytesOf d=(bytesOf d).take b++bytesOf g):=by
      show _=_;rw[u,dm,VJ (l:=(bytesOf d).drop b) (by rw[Yd,ak];omega),X4]
     have C:X (bK 66 #[.string (d.extract b (b+4))] A λe w'=>e= .returned (.int .u64 (sS g 4:Int))/\w'=A):=by rw[<-u];exact zw g _ q
     have B:=af (Bu g q);have P:=af (xD g 4);have x:X (∀c a,Cut s c a->sS g 4=a.length/\a.length<=b):=λc a f=>by
      have E:=p.o c a f;have j:=y.o;have J:=congrArg Ym E;rw[ak] at J;simp[iJ] at J;have l:(bytesOf d).take b++bytesOf g=(c++a)++iJ a.length:=by rw[<-j,E,Vu]
      have G:=(List.append_inj' l (by rw[ak,q];rfl)).2;exact⟨KB g _ (by omega) G,by omega⟩
     clear u;generalize sS g 4=k at*
     go_wp2_with fail
     refine C.o.mono ?_;rintro e a1 ⟨rfl,rfl⟩;have au:Xu.wrap (b:Int)=(b:Int):=by rw[wrap_u64];omega
     have ad:=af L;have ab:=af q;have ao:b<=65536:=by omega
     have ae:X (s.size<=65536):=by show _<=_;omega
     have ar:(b:Int)<=(d.size:Int):=by omega
     clear C N R Q I Y aa M L q H K v T z;by_cases S:b<k
     ·have U:(b:Int)<(k:Int):=by omega
      have i:X (∀c a,¬Cut s c a):=λc a f=>by have:=x.o c a f;omega
      clear p t x;go_wp2;simp[Xw,V0,Tryz.results41,go_sem];exact⟨.inr ⟨rfl,i.o⟩,Vi _ _⟩
     ·have U:decide ((b:Int)<(k:Int))=U5:=by simp;omega
      obtain⟨m,W⟩:∃m,b=m+k:=⟨b-k,by omega⟩;have aw:(b:Int)-(k:Int)=(m:Int):=by omega
      have G:(m:Int)<=(b:Int):=by omega
      have al:(m:Int)<=(d.size:Int):=by omega
      have O:X (Cut s (bytesOf (d.extract 0 m)) (bytesOf (d.extract m b))):=by
       refine t.o _ _ ?_;have V:(bytesOf (d.extract m b)).length=k:=by rw[ak,ByteArray.size_extract];omega
       rw[V,B.o];have j:=y.o;rw[dm,dm,List.drop_zero,<-Vu];have l:((bytesOf d).take (m-0))++((bytesOf d).drop m).take (b-m)=(bytesOf d).take b:=by
        rw[show b=m+(b-m) by omega,List.take_add,show m+(b-m)-m=b-m by omega];rfl
       rw[l];exact j
      have am:k<=65536:=by omega
      clear p t x y B P W S
      go_upto_region 12 with fail
      go_quiet (fail)
      go_wp2;simp[Xw,V0,Tryz.results41,go_sem];exact⟨.inl ⟨_,_,rfl,O.o⟩,below_drewN (Vi _ _) _⟩
def UO (w:F)(s z:ByteArray)(e:X6)(w':F):Prop:=
 aQ w w'/\((∃(b:List (bQ×Int)) (a:List Bd) (f:List (Bd×U)) (g h i:U),e= .returned (.tuple #[.agg #[g,h,i],.bool Z])/\xu b a/\f.map Vy=a/\bytesOf s=ri b a/\bytesOf z=bO a/\dh w' w.heap.size b f g h i/\(∀d c,xu d c->bytesOf s=ri d c->bytesOf z=bO c->d=b/\c=a))\/
  (e= .returned (.tuple #[.agg #[aM,aM,aM],.bool U5])/\∀b a,xu b a->bytesOf s=ri b a->bytesOf z≠bO a))
def Bh{w w4:F}{x y z v:U}(q:Nat)(hL:w4.heap[w.heap.size]? =I (.cells #[x,y,z] 66 (0,0)))(a:w4.heap[w.heap.size+1]? =I (.cells #[v] 4 (0,0))):
 CallsD (ax U1) 67 #[(aP w.heap.size),(aP (w.heap.size+1))] (.panicking (ez q)) w4 λe b w'=>
  e= .returned (.tuple #[])/\b= .panicking [{v:=.iface 161 (.agg #[.int .i64 (q:Int)]),recovered:=Z}]/\w'=(gT (w4.alloc (.cells o8 66)) w.heap.size aM aM aM).setCell ⟨w.heap.size+1,0,K⟩ (.bool U5):=
 uN _ _ _ _ _ _ _ _ [] w4 (by omega) hL a
def tq{w w4:F}{x y z v:U}(a b c u:U)(hL:w4.heap[w.heap.size]? =I (.cells #[x,y,z] 66 (0,0)))(h:w4.heap[w.heap.size+1]? =I (.cells #[v] 4 (0,0)))(g:aQ w w4):
 let d:=(gT w4 w.heap.size a b c).setCell ⟨w.heap.size+1,0,K⟩ u
 (cD d w.heap.size 0 a/\cD d w.heap.size 1 b/\cD d w.heap.size 2 c)/\cD d (w.heap.size+1) 0 u/\aQ w d:=by
 have e:=rG a b c hL;have f:(gT w4 w.heap.size a b c).heap[w.heap.size+1]? =I (.cells #[v] 4 (0,0)):=by rw[kJ _ _ _ (by omega)];exact h
 refine⟨(fT (t:=66) (by rw[Vj _ _ _ _ (by simp)];exact e)).1,(dy (tT u f)).1,?_⟩;exact(m8 _ _ _ g (U7 _) (U7 _)).setCell (Nat.le_succ _) _
def IR(cb:Nat)(s z:ByteArray)(w:F)(b0:s.size<=65536)(b3:z.size<=65536)(ae:w.heap[cb]? =I (.cells #[.string z] 9 (0,0))):
 bK 42 #[.string s,.func (.func 43) #[] #[(aP cb)]] w (UO w s z):=by
 have bA:cb<w.heap.size:=Va ae;have am:s.size<=Vp:=by unfold Vp;omega
 have a0:=af ae;have cd:∀(V:Fn) (first S:Array U) (w:F),(Instr.makeFunc V first S).run (ax U1) w= .ok (.func V first S) w:=λ_ _ _ _=>rfl
 go_enter_defers av.func42,Tryz.ntmps42
 go_wp2_with (go_at_call 45;refine(n7 s _).mono ?_;rintro p ar ⟨rfl,rfl⟩)
 have ad:(((w.alloc (.cells #[aM,aM,aM] 66)).alloc (.cells #[.bool U5] 4)).alloc (bY s 0)).heap[w.heap.size]? =I (.cells #[aM,aM,aM] 66 (0,0)):=Dt _ _ _ _;have W:(((w.alloc (.cells #[aM,aM,aM] 66)).alloc (.cells #[.bool U5] 4)).alloc (bY s 0)).heap[w.heap.size+1]? =I (.cells #[.bool U5] 4 (0,0)):=Du _ _ _ _;have bu:(((w.alloc (.cells #[aM,aM,aM] 66)).alloc (.cells #[.bool U5] 4)).alloc (bY s 0)).heap[w.heap.size+1+1]? =I (bY s 0):=Dv _ _ _ _;have ca:(((w.alloc (.cells #[aM,aM,aM] 66)).alloc (.cells #[.bool U5] 4)).alloc (bY s 0)).heap.size=w.heap.size+3:=by simp
 have N:aQ w (((w.alloc (.cells #[aM,aM,aM] 66)).alloc (.cells #[.bool U5] 4)).alloc (bY s 0)):=(((Vi _ _).alloc (U7 _) _).alloc (by simp) _).alloc (by simp;omega) _;generalize (((w.alloc (.cells #[aM,aM,aM] 66)).alloc (.cells #[.bool U5] 4)).alloc (bY s 0))=a7 at*;refine(KU (w.heap.size+1+1) cb s z a7 b0 b3 bu ((N.block cb bA).trans a0.o)).mono ?_;rintro p h ⟨t,⟨a,i,b,a8,a9,ba,rfl,bB,bs,b1,cc,bv,bz,hF,b2⟩|⟨cf,rfl,bt⟩⟩
 ·have n:h.heap[w.heap.size]? =I (.cells #[aM,aM,aM] 66 (0,0)):=Kp.block t ad (by omega);have y:h.heap[w.heap.size+1]? =I (.cells #[.bool U5] 4 (0,0)):=Kp.block t W (by omega);have O:aQ w h:=N.trans ((t.below (by omega)).mono (by omega));have ab:dh h w.heap.size a b a8 a9 ba:=hF.base (by omega);obtain⟨c,ac,e,d,g,f,rfl,rfl,rfl⟩:=ab.M9;have Q:X (dh (gT h w.heap.size (.slice c a.length ac) (.slice e a.length d) (.slice g b.length f)) w.heap.size a b (.slice c a.length ac) (.slice e a.length d) (.slice g b.length f)):=ab.gT _ _ _ n;have br:(gT h w.heap.size (.slice c a.length ac) (.slice e a.length d) (.slice g b.length f)).heap[w.heap.size]? =I (.cells #[.slice c a.length ac,.slice e a.length d,.slice g b.length f] 66 (0,0)):=rG _ _ _ n;have bm:(gT h w.heap.size (.slice c a.length ac) (.slice e a.length d) (.slice g b.length f)).heap[w.heap.size+1]? =I (.cells #[.bool U5] 4 (0,0)):=by rw[kJ _ _ _ (by omega)];exact y
  have bx:(gT h w.heap.size (.slice c a.length ac) (.slice e a.length d) (.slice g b.length f)).heap[w.heap.size+1+1]? =I (bY s (ri a i).length):=by rw[kJ _ _ _ (by omega)];exact bv
  have bl:aQ w (gT h w.heap.size (.slice c a.length ac) (.slice e a.length d) (.slice g b.length f)):=m8 _ _ _ O (U7 _) (U7 _);obtain⟨⟨b4,b5,b6⟩,bc,u,v⟩:=fT n;have a3:=af bB;have a4:=af bs;have a5:=af b1;have a6:=af bz;have R:X (∀l j,xu l j->bytesOf s=ri l j->bytesOf z=bO j->l=a/\j=i):=λl j x q M=>b2 l j x (eN q.symm) M;have D:=af br;have C:=af bm;have B:=af bl;have G:=af bx
  go_upto_region 4 with fail
  unfold gT at Q D C B G;generalize ((h.setCell ⟨w.heap.size,0,K⟩ (.slice c a.length ac)).setCell ⟨w.heap.size,1,K⟩ (.slice e a.length d)).setCell ⟨w.heap.size,2,K⟩ (.slice g b.length f)=k at*;by_cases al:(ri a i).length<s.size
  ·have E:X (∀a i,xu a i->bytesOf s=ri a i->bytesOf z≠bO i):=λl j x q M=>by
    obtain⟨T,bb⟩:=R.o l j x q M;have:=congrArg Ym q;rw[ak,T,bb] at this;omega
   go_wp2_with (go_at_call 68;refine(CA (w.heap.size+1+1) _ s _ am al G.o).mono ?_;rintro p ar ⟨rfl,m,rfl⟩)
   have o:(k.drewN m).heap[w.heap.size]? =I (.cells #[.slice c a.length ac,.slice e a.length d,.slice g b.length f] 66 (0,0)):=D.o;have r:(k.drewN m).heap[w.heap.size+1]? =I (.cells #[.bool U5] 4 (0,0)):=C.o;have P:aQ w (k.drewN m):=below_drewN B.o m;generalize k.drewN m=A at*;obtain⟨⟨u,v,H⟩,J,L⟩:=tq aM aM aM (.bool U5) (w4:=A.alloc (.cells o8 66)) (by rw[VH _ _ _ (Va o)];exact o) (by rw[VH _ _ _ (Va r)];exact r) (P.alloc (by have:=Va o;omega) _);refine leaves_cons (f:=67) (args:= #[(aP w.heap.size),(aP (w.heap.size+1))]) (by simp) (by simp[go_sem]) ?_;refine(Bh _ o r).mono ?_;rintro p ao au ⟨rfl,rfl,rfl⟩;simp[Leaves,settle,V0,Tryz.results42,go_sem,u,v,H,J];exact⟨L,.inr ⟨rfl,E.o⟩⟩
  ·have a1:X (bytesOf s=ri a i):=zZ a5.o (by rw[ak];omega)
   go_upto_region 5 with(go_at_call 68;refine(GQ (w.heap.size+1+1) _ s _ am al G.o).mono ?_;rintro p ar ⟨rfl,m,rfl⟩)
   have o:(k.drewN m).heap[w.heap.size]? =I (.cells #[.slice c a.length ac,.slice e a.length d,.slice g b.length f] 66 (0,0)):=D.o;have r:(k.drewN m).heap[w.heap.size+1]? =I (.cells #[.bool U5] 4 (0,0)):=C.o;have P:aQ w (k.drewN m):=below_drewN B.o m;have bo:dh (k.drewN m) w.heap.size a b (.slice c a.length ac) (.slice e a.length d) (.slice g b.length f):=Q.o.below (below_drewN (Vi _ _) _);generalize k.drewN m=A at*;obtain⟨⟨bd,be,bi⟩,bj,bk⟩:=tq (.slice c a.length ac) (.slice e a.length d) (.slice g b.length f) (.bool Z) o r P;have aw:=af bk;have aa:(gT A w.heap.size (.slice c a.length ac) (.slice e a.length d) (.slice g b.length f)).heap[w.heap.size+1]? =I (.cells #[.bool U5] 4 (0,0)):=by rw[kJ _ _ _ (by omega)];exact r
   have a2:X (dh ((gT A w.heap.size (.slice c a.length ac) (.slice e a.length d) (.slice g b.length f)).setCell ⟨w.heap.size+1,0,K⟩ (.bool Z)) w.heap.size a b (.slice c a.length ac) (.slice e a.length d) (.slice g b.length f)):=(bo.gT _ _ _ o).put aa (.inr (.inl Y)) _ _;obtain⟨⟨b4,b5,b6⟩,bc,u,v⟩:=fT o;obtain⟨b8,T⟩:=dy aa;unfold gT at*;go_wp2;generalize (((A.setCell ⟨w.heap.size,0,K⟩ (.slice c a.length ac)).setCell ⟨w.heap.size,1,K⟩ (.slice e a.length d)).setCell ⟨w.heap.size,2,K⟩ (.slice g b.length f)).setCell ⟨w.heap.size+1,0,K⟩ (.bool Z)=b7 at*;refine leaves_cons (f:=67) (args:= #[(aP w.heap.size),(aP (w.heap.size+1))]) (by simp) (by simp[go_sem]) ?_;refine(Ea ⟨w.heap.size,0,K⟩ ⟨w.heap.size+1,0,K⟩ _).mono ?_;rintro p ao au ⟨rfl,rfl,rfl⟩;simp[Leaves,settle,V0,Tryz.results42,go_sem,bd,be,bi,bj];exact⟨aw.o,.inl ⟨a,i,b,_,_,_,rfl,a3.o,a4.o,a1.o,a6.o,a2.o,R.o⟩⟩
 ·have n:h.heap[w.heap.size]? =I (.cells #[aM,aM,aM] 66 (0,0)):=Kp.block t ad (by omega);have y:h.heap[w.heap.size+1]? =I (.cells #[.bool U5] 4 (0,0)):=Kp.block t W (by omega);have O:aQ w h:=N.trans ((t.below (by omega)).mono (by omega));have E:X (∀a i,xu a i->bytesOf s=ri a i->bytesOf z≠bO i):=λl j x q=>bt l j x (eN q.symm);obtain⟨⟨u,v,H⟩,J,L⟩:=tq aM aM aM (.bool U5) (w4:=h.alloc (.cells o8 66)) (by rw[VH _ _ _ (Va n)];exact n) (by rw[VH _ _ _ (Va y)];exact y) (O.alloc (by have:=Va n;omega) _);refine leaves_cons (f:=67) (args:= #[(aP w.heap.size),(aP (w.heap.size+1))]) (by simp) (by simp[go_sem]) ?_;refine(Bh _ n y).mono ?_;rintro p ao au ⟨rfl,rfl,rfl⟩;simp[Leaves,settle,V0,Tryz.results42,go_sem,u,v,H,J];exact⟨L,.inr ⟨rfl,E.o⟩⟩
def mM (v low:aC):Bool:= !low.null&&decide (jI v low<0)
def mJ (v high:aC):Bool:= !high.null&&decide (0<jI v high)
def vW(v low:aC)(w:F):bK 58 #[v.agg,low.agg] w λe w'=>e= .returned (.bool (mM v low))/\aQ w w':=by
 have g:=λi=>jC v low i;obtain⟨f,a,b⟩:=low;unfold aC.agg;have d:X (aQ w ((w.alloc (.cells (j9 v) 54)).alloc (.cells #[.bool f,.int .i64 a,.string b] 54))):=((Vi _ _).alloc (U7 _) _).alloc (by simp) _;cases f
 ·have c:mM v ⟨U5,a,b⟩=decide (jI v ⟨U5,a,b⟩<0):=by simp[mM]
  rw[c];go_enter av.func58,Tryz.ntmps58
  go_wp2_with (go_at_call 80;refine(g _).mono ?_;rintro e w' ⟨rfl,j⟩;have h:X (aQ w w'):=d.o.trans (j.mono (by simp;omega)))
  go_ret;exact⟨rfl,h.o⟩
 ·have c:mM v ⟨Z,a,b⟩=U5:=by simp[mM]
  rw[c];go_enter av.func58,Tryz.ntmps58;go_wp2;go_ret;exact⟨rfl,d.o⟩
def vV(v low:aC)(w:F):bK 59 #[v.agg,low.agg] w λe w'=>e= .returned (.bool (mJ v low))/\aQ w w':=by
 have g:=λi=>jC v low i;obtain⟨f,a,b⟩:=low;unfold aC.agg;have d:X (aQ w ((w.alloc (.cells (j9 v) 54)).alloc (.cells #[.bool f,.int .i64 a,.string b] 54))):=((Vi _ _).alloc (U7 _) _).alloc (by simp) _;cases f
 ·have c:mJ v ⟨U5,a,b⟩=decide (0<jI v ⟨U5,a,b⟩):=by simp[mJ]
  rw[c];go_enter av.func59,Tryz.ntmps59
  go_wp2_with (go_at_call 80;refine(g _).mono ?_;rintro e w' ⟨rfl,j⟩;have h:X (aQ w w'):=d.o.trans (j.mono (by simp;omega)))
  go_ret;exact⟨rfl,h.o⟩
 ·have c:mJ v ⟨Z,a,b⟩=U5:=by simp[mJ]
  rw[c];go_enter av.func59,Tryz.ntmps59;go_wp2;go_ret;exact⟨rfl,d.o⟩
def qv (a b c d e:U)(sk:Bool):U:=.agg #[a,b,c,d,e,.bool sk]
def AI(h:Option VI)(n cap:Nat)(b c d e:U)(sk:Bool)(k:Int)(w:F):bK 47 #[qv (.slice h n cap) b c d e sk,.int .i64 k] w λf w'=>f= .returned (.bool (decide (0<=k)&&decide (k<(n:Int))))/\aQ w w':=by
 unfold qv;have g:X (aQ w (w.alloc (.cells #[.slice h n cap,b,c,d,e,.bool sk] 68))):=(Vi _ _).alloc (U7 _) _;by_cases i:0<=k
 ·have a:decide (0<=k)=Z:=by simpa using i
  rw[a];go_enter av.func47,Tryz.ntmps47;go_wp2;go_ret;exact⟨rfl,g.o⟩
 ·have a:decide (0<=k)=U5:=by simpa using i
  rw[a];go_enter av.func47,Tryz.ntmps47;go_wp2;go_ret;exact⟨rfl,g.o⟩
structure bT where
 col:Int
 low:aC
 high:aC
def sU (x:bT):List U:=[.int .i64 x.col,.bool x.low.null,.int .i64 x.low.n,.string x.low.s,.bool x.high.null,.int .i64 x.high.n,.string x.high.s]
def gE (l:List bT):List U:=l.flatMap sU
structure dK(w:F)(ao:Option VI)(b off:Nat)(l:List bT):Prop where
 addr:0<l.length->ao=I ⟨b,off,K⟩
 lt:0<l.length->b<w.heap.size
 c0:∀j (h:j<l.length),w.cell? ⟨b,off+j*7,K⟩=I (.int .i64 l[j].col)
 c1:∀j (h:j<l.length),w.cell? ⟨b,off+j*7+1,K⟩=I (.bool l[j].low.null)
 c2:∀j (h:j<l.length),w.cell? ⟨b,off+j*7+2,K⟩=I (.int .i64 l[j].low.n)
 c3:∀j (h:j<l.length),w.cell? ⟨b,off+j*7+3,K⟩=I (.string l[j].low.s)
 c4:∀j (h:j<l.length),w.cell? ⟨b,off+j*7+4,K⟩=I (.bool l[j].high.null)
 c5:∀j (h:j<l.length),w.cell? ⟨b,off+j*7+5,K⟩=I (.int .i64 l[j].high.n)
 c6:∀j (h:j<l.length),w.cell? ⟨b,off+j*7+6,K⟩=I (.string l[j].high.s)
def dK.kept{w w':F}{f:Option VI}{b off:Nat}{l:List bT}(h:dK w f b off l)(j:w.heap.size<=w'.heap.size)(i:0<l.length->w'.heap[b]? =w.heap[b]?):dK w' f b off l:=by
 have d:∀a,a<l.length->∀e,w'.cell? ⟨b,e,K⟩=w.cell? ⟨b,e,K⟩:=λa c e=>by unfold Ve;rw[i (by omega)]
 exact⟨h.addr,λg=>U9 (h.lt g) j,λa c=>(d a c _).trans (h.c0 a c),λa c=>(d a c _).trans (h.c1 a c),λa c=>(d a c _).trans (h.c2 a c),λa c=>(d a c _).trans (h.c3 a c),λa c=>(d a c _).trans (h.c4 a c),λa c=>(d a c _).trans (h.c5 a c),λa c=>(d a c _).trans (h.c6 a c)⟩
def dK.below{w w':F}{a:Option VI}{b off:Nat}{l:List bT}(h:dK w a b off l)(c:aQ w w'):dK w' a b off l:=h.kept c.size λd=>c.block b (h.lt d)
theorem oK:∀(l:List bT) (j:Nat) (h:j<l.length) (i:Nat) (v:U),(sU l[j])[i]? =I v->(gE l)[j*7+i]? =I v
 | [],j,h,i,v,a=>by simp at h
 |x::l,0,h,i,v,a=>by
  simp only[List.getElem_cons_zero] at a;simp only[gE,Xq,Nat.zero_mul,VV];exact Wx (Vs.1 a).1▸a
 |x::l,j+1,h,i,v,a=>by
  simp only[List.getElem_cons_succ] at a;have:=oK l j (by simpa using h) i v a;have b:(j+1)*7+i=j*7+i+7:=by omega
  rw[b];simpa [gE,sU] using this
def sj(l:List bT):(gE l).length=l.length*7:=by
 induction l with
 |nil=>rfl
 |cons b l a=>simp only[gE,Xq,U8,WS,sU,Y1] at a ⊢;omega
def dK.EO{w:F}{b off:Nat}{l:List bT}(e:b<w.heap.size)(hc:∀i v,(gE l)[i]? =I v->w.cell? ⟨b,off+i,K⟩=I v):dK w (I ⟨b,off,K⟩) b off l:=by
 have d:∀a (c:a<l.length) i v,(sU l[a])[i]? =I v->cD w b (off+a*7+i) v:=λa c i v f=>by
  have:=hc _ _ (oK l a c i v f);rw[Nat.add_assoc];exact this
 exact⟨λ_=>rfl,λ_=>e,λa c=>d a c 0 _ Y,λa c=>d a c 1 _ Y,λa c=>d a c 2 _ Y,λa c=>d a c 3 _ Y,λa c=>d a c 4 _ Y,λa c=>d a c 5 _ Y,λa c=>d a c 6 _ Y⟩
structure tC(w:F)(lb m:Nat)(c:Int)(p:Nat)(v:aC):Prop where
 ex:∃j g n cap:Nat,c=(j:Int)/\j<m/\lb<w.heap.size/\w.cell? ⟨lb,j,K⟩=I (.slice (I ⟨g,0,K⟩) n cap)/\p<n/\g<w.heap.size/\w.cell? ⟨g,p*3,K⟩=I (.bool v.null)/\w.cell? ⟨g,p*3+1,K⟩=I (.int .i64 v.n)/\w.cell? ⟨g,p*3+2,K⟩=I (.string v.s)
def tC.below{w w':F}{lb m:Nat}{c:Int}{p:Nat}{v:aC}(h:tC w lb m c p v)(a:aQ w w'):tC w' lb m c p v:=by
 obtain⟨e,b,r,f,g,i,j,k,l,d,n,o,q⟩:=h.ex;have s:=a.size;exact⟨e,b,r,f,g,i,by omega,(a.cell (p:=⟨lb,e,K⟩) j).trans k,l,by omega,(a.cell (p:=⟨b,p*3,K⟩) d).trans n,(a.cell (p:=⟨b,p*3+1,K⟩) d).trans o,(a.cell (p:=⟨b,p*3+2,K⟩) d).trans q⟩
def AO (v:aC)(r:bT):Bool:= !(v.null||mM v r.low||mJ v r.high)
def jw(w:F)(o:Obj):(w.alloc o).heap[w.heap.size]? =I o:=by
 show(w.heap.push o)[w.heap.size]? =I o;simp
def kM{i:F}{g:Nat}{a b c d e f h:U}{t:Vc}(j:i.heap[g]? =I (.cells #[a,b,c,d,e,f,h] t (0,0))):i.cell? ⟨g,0,K⟩=I a/\i.cell? ⟨g,1,K⟩=I b/\i.cell? ⟨g,2,K⟩=I c/\i.cell? ⟨g,3,K⟩=I d/\i.cell? ⟨g,4,K⟩=I e/\i.cell? ⟨g,5,K⟩=I f/\i.cell? ⟨g,6,K⟩=I h:=by
 unfold Ve;simp[j]
def yP(rs:List bT)(val:Int->aC)(p lb m br:Nat)(a b c d:U)(ro:Option VI)(rb bF aK:Nat)(sk:Bool)(w:F)(bm:rs.length<=Vp)(q:dK w ro rb bF rs)(bk:∀r∈rs,tC w lb m r.col p (val r.col)):
 bK 62 #[qv a b c d (.slice ro rs.length aK) sk,.slice (I ⟨lb,0,K⟩) m br,.int .i64 (p:Int)] w λe w'=>∃bb,e= .returned (.bool bb)/\(bb=Z↔∀i (h:i<rs.length),AO (val rs[i].col) rs[i]=Z)/\aQ w w':=by
 unfold qv;unfold Vp at bm;have a6:=af q;have a4:=af bk;go_enter av.func62,Tryz.ntmps62
 go_wp2_with fail
 go_loopw [13] (λi wr=>∃g:Nat,g<=rs.length/\i= .int .i64 g/\(∀i (h:i<rs.length),i<g->AO (val rs[i].col) rs[i]=Z)/\aQ w wr) (λi _=>rs.length-(V3 i).toNat)
 case atStart=>exact⟨0,VB _,rfl,λcu _ h=>by omega,(Vi _ _).alloc (U7 _) _⟩
 case round=>
  obtain⟨g,ck,rfl,bi,J⟩:=hrel;have aa:=af bi;have ab:=af J;have bo:=J.size;by_cases u:g<rs.length
  ·have q:=a6.o.below J;obtain rfl:=q.addr (by omega);have bs:=q.c0 g u;have bt:=q.c1 g u;have bu:=q.c2 g u;have bv:=q.c3 g u;have bx:=q.c4 g u;have bz:=q.c5 g u;have bA:=q.c6 g u;obtain⟨C,P,cl,b7,ae,b8,a9,ba,ca,O,bc,bd,be⟩:=((a4.o rs[g] (Vn u)).below J).ex;have M:X (AO (val rs[g].col) rs[g]=U5->¬∀i (h:i<rs.length),AO (val rs[i].col) rs[i]=Z):=λh bj=>by
    have:=bj g u;rw[h] at this;cases this
   have a7:X (AO (val rs[g].col) rs[g]=Z->∀i (h:i<rs.length),i<g+1->AO (val rs[i].col) rs[i]=Z):=λh i bl ch=>by
    by_cases e:i=g
    ·subst e;exact h
    ·exact aa.o i bl (by omega)
   generalize rs[g]=a3 at*;generalize val a3.col=v at*;obtain⟨cv,l,k⟩:=a3;dsimp only at ae bs bt bu bv bx bz bA;subst ae
   go_upto_region 4 with fail
   have bB:=kM (jw wr (.cells #[.int .i64 (C:Int),.bool l.null,.int .i64 l.n,.string l.s,.bool k.null,.int .i64 k.n,.string k.s] 122));obtain⟨cn,b0,b1,b2,b3,b4,b5⟩:=bB;have n:aQ wr (wr.alloc (.cells #[.int .i64 (C:Int),.bool l.null,.int .i64 l.n,.string l.s,.bool k.null,.int .i64 k.n,.string k.s] 122)):=(Vi _ _).alloc (U7 _) _;have cb:=(n.cell (p:=⟨lb,C,K⟩) a9).trans ba;have cc:=(n.cell (p:=⟨P,p*3,K⟩) O).trans bc;have cd:=(n.cell (p:=⟨P,p*3+1,K⟩) O).trans bd;have cf:=(n.cell (p:=⟨P,p*3+2,K⟩) O).trans be;have ad:=af (ab.o.trans (n.mono bo));have E:wr.heap.size<(wr.alloc (.cells #[.int .i64 (C:Int),.bool l.null,.int .i64 l.n,.string l.s,.bool k.null,.int .i64 k.n,.string k.s] 122)).heap.size:=by simp
   generalize wr.alloc (.cells #[.int .i64 (C:Int),.bool l.null,.int .i64 l.n,.string l.s,.bool k.null,.int .i64 k.n,.string k.s] 122)=s at*;generalize wr.heap.size=j at*;have ci:(C:Int)<(m:Int):=by omega
   go_upto_region 5 with fail
   obtain⟨H,R,S⟩:=FT s (.bool v.null) (.int .i64 v.n) (.string v.s) 54;have n:aQ s (s.alloc (.cells (j9 v) 54)):=(Vi _ _).alloc (U7 _) _;have co:=(n.cell (p:=⟨j,1,K⟩) E).trans b0;have cp:=(n.cell (p:=⟨j,2,K⟩) E).trans b1;have cs:=(n.cell (p:=⟨j,3,K⟩) E).trans b2;have T:=(n.cell (p:=⟨j,4,K⟩) E).trans b3;have V:=(n.cell (p:=⟨j,5,K⟩) E).trans b4;have W:=(n.cell (p:=⟨j,6,K⟩) E).trans b5;have A:X (aQ w (s.alloc (.cells (j9 v) 54))):=ad.o.trans (n.mono (by have:=ad.o.size;omega));have x:j<(s.alloc (.cells (j9 v) 54)).heap.size:=by simp;omega
   have y:s.heap.size<(s.alloc (.cells (j9 v) 54)).heap.size:=by simp
   generalize s.alloc (.cells (j9 v) 54)=b6 at*;generalize s.heap.size=t at*;have z:=λN=>vW v l N;have D:=λN=>vV v k N;unfold aC.agg at z D;have o:AO v ⟨(C:Int),l,k⟩= !(v.null||mM v l||mJ v k):=rfl;cases ao:v.null
   ·rw[ao] at H z D o;cases am:mM v l
    ·rw[am] at z o;cases al:mJ v k
     ·rw[al] at D o;have a8:=af (a7.o o)
      go_wp2_with (first|(go_at_call 58;refine(z _).mono ?_;rintro e w' ⟨rfl,f⟩;have B:X (aQ w w'):=A.o.trans (f.mono (by have:=A.o.size;omega));have ar:=(f.cell (p:=⟨t,0,K⟩) y).trans H;have au:=(f.cell (p:=⟨t,1,K⟩) y).trans R;have aw:=(f.cell (p:=⟨t,2,K⟩) y).trans S;have a0:=(f.cell (p:=⟨j,4,K⟩) x).trans T;have a1:=(f.cell (p:=⟨j,5,K⟩) x).trans V;have a2:=(f.cell (p:=⟨j,6,K⟩) x).trans W)|(go_at_call 59;refine(D _).mono ?_;rintro e Y ⟨rfl,Q⟩;have L:X (aQ w Y):=B.o.trans (Q.mono (by have:=B.o.size;omega))))
      go_roundw
      case rel=>exact⟨g+1,by omega,by go_num,a8.o,L.o⟩
      case measure=>simp[V3];omega
     ·rw[al] at D o;have G:=af (M.o o)
      go_wp2_with (first|(go_at_call 58;refine(z _).mono ?_;rintro e w' ⟨rfl,f⟩;have B:X (aQ w w'):=A.o.trans (f.mono (by have:=A.o.size;omega));have ar:=(f.cell (p:=⟨t,0,K⟩) y).trans H;have au:=(f.cell (p:=⟨t,1,K⟩) y).trans R;have aw:=(f.cell (p:=⟨t,2,K⟩) y).trans S;have a0:=(f.cell (p:=⟨j,4,K⟩) x).trans T;have a1:=(f.cell (p:=⟨j,5,K⟩) x).trans V;have a2:=(f.cell (p:=⟨j,6,K⟩) x).trans W)|(go_at_call 59;refine(D _).mono ?_;rintro e Y ⟨rfl,Q⟩;have L:X (aQ w Y):=B.o.trans (Q.mono (by have:=B.o.size;omega))))
      go_ret;exact⟨U5,rfl,by simp only[Vv,false_iff];exact G.o,L.o⟩
    ·rw[am] at z o;have G:=af (M.o o)
     go_wp2_with (go_at_call 58;refine(z _).mono ?_;rintro e w' ⟨rfl,f⟩;have B:X (aQ w w'):=A.o.trans (f.mono (by have:=A.o.size;omega));have ar:=(f.cell (p:=⟨t,0,K⟩) y).trans H;have au:=(f.cell (p:=⟨t,1,K⟩) y).trans R;have aw:=(f.cell (p:=⟨t,2,K⟩) y).trans S;have a0:=(f.cell (p:=⟨j,4,K⟩) x).trans T;have a1:=(f.cell (p:=⟨j,5,K⟩) x).trans V;have a2:=(f.cell (p:=⟨j,6,K⟩) x).trans W)
     go_ret;exact⟨U5,rfl,by simp only[Vv,false_iff];exact G.o,B.o⟩
   ·rw[ao] at H o;have G:=af (M.o o);go_wp2;go_ret;exact⟨U5,rfl,by simp only[Vv,false_iff];exact G.o,A.o⟩
  ·have a5:X (∀i (h:i<rs.length),AO (val rs[i].col) rs[i]=Z):=λi h=>aa.o i h (by omega);go_wp2;go_ret;exact⟨Z,rfl,by simp only[true_iff];exact a5.o,ab.o⟩
def BM(ah:List Int)(val:Int->aC)(p lb m ae:Nat)(a b c f:U)(co:Option VI)(cb bH aG:Nat)(sk:Bool)(w:F)(a7:ah.length<=1000)(M:0<ah.length->co=I ⟨cb,bH,K⟩)(O:0<ah.length->cb<w.heap.size)(q:∀j,j<ah.length->cD w cb (bH+j) (.int .i64 (ah.getD j 0)))(P:∀k∈ah,tC w lb m k p (val k)):
 bK 63 #[qv a b c (.slice co ah.length aG) f sk,.slice (I ⟨lb,0,K⟩) m ae,.int .i64 (p:Int)] w λe w'=>aQ w w'/\∃v,e= .returned v/\w'.ownsRow w.heap.size 54 3 v ah.length (az (ah.map val)):=by
 unfold qv;obtain⟨u,r,Z,t,aa⟩:=Wo av.mW;have D:=af M;have G:=af O;have E:=af q;have C:=af P;have B:X (aQ w (w.alloc (.cells #[a,b,c,.slice co ah.length aG,f,.bool sk] 68))):=(Vi _ _).alloc (U7 _) _;have ba:(w.alloc (.cells #[a,b,c,.slice co ah.length aG,f,.bool sk] 68)).heap.size=w.heap.size+1:=by simp
 go_enter av.func63,Tryz.ntmps63
 go_wp2_with (at_make;refine wpList_make_own _ Y _ _ 55 Y (w.heap.size+1) 54 u _ 3 av.underlying55 r Z t .i64 .i64 _ ah.length Y Y Y (by rw[aa];omega) (by unfold Vp;omega) (by simp) ?_;intro y V S;have o:=(Vi (w.heap.size+1) (w.alloc (.cells #[a,b,c,.slice co ah.length aG,f,.bool sk] 68))).grown S (by simp) (by simp);have a9:cD y w.heap.size 3 (.slice co ah.length aG):=(o.cell (p:=⟨w.heap.size,3,K⟩) (by simp)).trans (by unfold Ve;rw[jw];rfl))
 have z:X (aQ w y):=B.o.trans (o.mono (by omega))
 go_loopw [7,17] (λad l wr=>∃k:Nat,k<=ah.length/\l= .int .i64 (k:Int)/\ad= .slice (I ⟨w.heap.size+1,0,K⟩) k ah.length/\wr.ownsRow (w.heap.size+1) 54 3 (.slice (I ⟨w.heap.size+1,0,K⟩) k ah.length) k (az ((ah.take k).map val))/\aQ w wr) (λ_ l _=>ah.length-(V3 l).toNat)
 case atStart=>exact⟨0,VB _,rfl,rfl,by simpa [az] using V,z.o⟩
 case round=>
  obtain⟨k,a6,rfl,rfl,h,d⟩:=hrel;have n:=af d;have W:=d.size;have a5:=(h.lt (w.heap.size+1) Y).2;by_cases g:k<ah.length
  ·obtain rfl:=D.o (by omega);have N:=G.o (by omega);have x:cD wr cb (bH+k) (.int .i64 (ah.getD k 0)):=(d.cell (p:=⟨cb,bH+k,K⟩) N).trans (E.o k g);have R:ah.getD k 0=ah[k]:=by rw[Vk,Vf g];rfl
   rw[R] at x;obtain⟨ab,L,al,ao,J,ar,au,aw,a0,a1,a2,a3,a4⟩:=((C.o ah[k] (Vn g)).below d).ex;have H:X (az ((ah.take k).map val)++[.bool (val ah[k]).null,.int .i64 (val ah[k]).n,.string (val ah[k]).s]=az ((ah.take (k+1)).map val)):=by
    show _=_;rw[Vh g,V1,Xz,ew]
   have q:(ab:Int)<(m:Int):=by omega
   have a8:(p:Int)<(al:Int):=by omega
   generalize bb:val ah[k]=i at*;rw[J] at x
   go_wp2_with (at_builtin;refine wpList_append_fits _ Y _ _ 55 Y (w.heap.size+1) 54 u 3 av.underlying55 r t (w.heap.size+1) k ah.length _ Y (h.alloc _) ⟨wr.heap.size,0,K⟩ 1 1 [.bool i.null,.int .i64 i.n,.string i.s] Y Y (by exact jj _ _ _ _ _) (fU i) (by omega) ?_;intro am s T)
   have A:X (aQ w am):=(n.o.alloc W _).grown T (by simp;omega) (by intro L Q;simp at Q;omega);rw[H.o] at s;go_wp2
   go_roundw
   case rel=>exact⟨k+1,by omega,by go_num,rfl,s,A.o⟩
   case measure=>simp[V3];omega
  ·obtain rfl:k=ah.length:=by omega
   rw[Wh] at h;go_wp2;go_ret;exact⟨n.o,_,rfl,bE h (by omega)⟩
def av.TH:((ax U1).info? 4).map (λi=>(i.zero,i.size,i.bytes))=I (I (.bool U5),1,1):=by kernel_rfl
def aI (n:Nat)(l:List Int):List Bool:=(VS n).map fun(a:Nat)=>l.any λb=>b==(a:Int)
def ya (l:List Bool):List U:=l.map XU
def kR(n:Nat)(l:List Int):(aI n l).length=n:=by simp[aI]
def vY(n:Nat)(l:List Int)(j:Nat):(ya (aI n l)).set j (.bool Z)=ya (aI n (l++[(j:Int)])):=by
 apply List.ext_getElem?;intro c;simp only[ya,aI,List.getElem?_set,VQ,List.length_range,List.getElem?_map,List.any_append];by_cases b:j=c
 ·subst b;by_cases a:j<n
  ·simp[a]
  ·simp[a]
 ·rcases WG c n with a|a
  ·have d:((j:Int)==(c:Int))=U5:=by simpa using λa=>b (by omega)
   simp[b,a,d]
  ·simp[b,a]
def Fg{a:F}{g:Nat}{b:List U}{t:Vc}(h:a.heap[g]? =I (.cells b.toArray t (0,0))){j:Nat}{v:U}(c:b[j]? =I v):a.cell? ⟨g,j,K⟩=I v/\a.frozen? ⟨g,j,K⟩=U5:=by
 constructor
 ·unfold Ve;simp only[h];simpa using c
 ·unfold VW;simp only[h];simp
def Jw{a:F}{g:Nat}{b:List U}{t:Vc}(h:a.heap[g]? =I (.cells b.toArray t (0,0)))(j:Nat)(v:U):(a.setCell ⟨g,j,K⟩ v).heap[g]? =I (.cells (b.set j v).toArray t (0,0)):=by
 have:=Vl a g j _ _ v h;rw[this];simp
def pN(n:Nat)(ah:List Int)(rs:List bT)(s:Option VI)(q:Nat)(b c:U)(co:Option VI)(cb bH aG:Nat)(ro:Option VI)(rb bF aK:Nat)(sk:Bool)(w:F)(bv:n<=1000)(bb:ah.length<=Vp)(bc:rs.length<=Vp)
 (W:0<ah.length->co=I ⟨cb,bH,K⟩) (ab:0<ah.length->cb<w.heap.size) (aa:∀j,j<ah.length->w.cell? ⟨cb,bH+j,K⟩=I (.int .i64 (ah.getD j 0))) (m:dK w ro rb bF rs) (al:∀k∈ah,0<=k/\k<(n:Int)) (am:∀r∈rs,0<=r.col/\r.col<(n:Int)):
 bK 37 #[qv (.slice s n q) b c (.slice co ah.length aG) (.slice ro rs.length aK) sk] w λe w'=>aQ w w'/\∃g,e= .returned (.slice (I ⟨g,0,K⟩) n n)/\w.heap.size<=g/\w'.heap[g]? =I (.cells (ya (aI n (ah++rs.map bT.col))).toArray 4 (0,0)):=by
 unfold qv;obtain⟨bm,a9,bj,bk,bl⟩:=Wo av.TH;unfold Vp at bb bc;have E:=af W;have H:=af ab;have G:=af aa;have A:=af m;have J:=af al;have z:=af am;have V:X (aQ w (w.alloc (.cells #[.slice s n q,b,c,.slice co ah.length aG,.slice ro rs.length aK,.bool sk] 68))):=(Vi _ _).alloc (U7 _) _;clear W ab aa m al am;go_enter av.func37,Tryz.ntmps37
 go_wp2_with (at_make;refine wpList_make_full _ Y _ _ 106 Y (w.heap.size+1) 4 bm (.bool U5) 1 av.underlying106 a9 bj bk .i64 .i64 _ _ n Y Y Y Y (by rw[bl];omega) (by unfold Vp;omega) (by simp) ?_;intro C B ae;have o:=(Vi (w.heap.size+1) (w.alloc (.cells #[.slice s n q,b,c,.slice co ah.length aG,.slice ro rs.length aK,.bool sk] 68))).grown ae (by simp) (by simp);have bd:C.cell? ⟨w.heap.size,3,K⟩=I (.slice co ah.length aG):=(o.cell (p:=⟨w.heap.size,3,K⟩) (by simp)).trans (by unfold Ve;rw[jw];rfl))
 have S:X (aQ w C):=V.o.trans (o.mono (by omega));have t:C.heap[w.heap.size]? =I (.cells #[.slice s n q,b,c,.slice co ah.length aG,.slice ro rs.length aK,.bool sk] 68 (0,0)):=(o.block w.heap.size (by omega)).trans (jw _ _);have p:X (C.heap[w.heap.size+1]? =I (.cells (ya (aI n [])).toArray 4 (0,0))):=by
  have e:(YH (XU U5).cells (n*1)).toList=ya (aI n []):=by
   show(YH #[.bool U5] (n*1)).toList=_;rw[toList_madeCells_one];refine List.ext_getElem (by simp[ya,kR]) λj bt bu=>?_;simp[ya,aI]
  rw[e] at B;have bi:(w.alloc (.cells #[.slice s n q,b,c,.slice co ah.length aG,.slice ro rs.length aK,.bool sk] 68)).heap.size=w.heap.size+1:=by simp
  rw[bi] at B;exact Av B
 have T:=af t;clear ae o V bd B t
 go_loopw [16] (λu wr=>∃k:Nat,k<=ah.length/\u= .int .i64 (k:Int)/\wr.heap[w.heap.size+1]? =I (.cells (ya (aI n (ah.take k))).toArray 4 (0,0))/\wr.heap[w.heap.size]? =I (.cells #[.slice s n q,b,c,.slice co ah.length aG,.slice ro rs.length aK,.bool sk] 68 (0,0))/\aQ w wr) (λu _=>ah.length-(V3 u).toNat)
 case atStart=>exact⟨0,VB _,rfl,p.o,T.o,S.o⟩
 case round=>
  clear p S T;obtain⟨k,ba,rfl,l,t,i⟩:=hrel;have y:=af i;have P:=i.size;by_cases h:k<ah.length
  ·obtain rfl:=E.o (by omega);have a7:=H.o (by omega);have R:wr.cell? ⟨cb,bH+k,K⟩=I (.int .i64 (ah.getD k 0)):=(i.cell (p:=⟨cb,bH+k,K⟩) a7).trans (G.o k h);have ad:ah.getD k 0=ah[k]:=by rw[Vk,Vf h];rfl
   rw[ad] at R;obtain⟨v,Q⟩:=J.o ah[k] (Vn h);obtain⟨a,x⟩:=XO v;rw[x] at R Q;have N:a<n:=by omega
   obtain⟨a5,a6⟩:=Fg l (j:=a) (v:=.bool ((ah.take k).any λk=>k==(a:Int))) (by simp[ya,aI,N]);have L:X ((wr.setCell ⟨w.heap.size+1,a,K⟩ (.bool Z)).heap[w.heap.size+1]? =I (.cells (ya (aI n (ah.take (k+1)))).toArray 4 (0,0))):=by
    show _=_;rw[Jw l,vY,Vh h,x]
   have a4:X ((wr.setCell ⟨w.heap.size+1,a,K⟩ (.bool Z)).heap[w.heap.size]? =I (.cells #[.slice s n q,b,c,.slice (I ⟨cb,bH,K⟩) ah.length aG,.slice ro rs.length aK,.bool sk] 68 (0,0))):=by
    show _=_;rw[Vj _ _ _ _ (by simp)];exact t
   have D:X (aQ w (wr.setCell ⟨w.heap.size+1,a,K⟩ (.bool Z))):=i.setCell (by show w.heap.size<=w.heap.size+1;omega) _;clear i ad v E H G J z A l t x;go_wp2
   go_roundw
   case rel=>exact⟨k+1,by omega,by go_num,L.o,a4.o,D.o⟩
   case measure=>simp[V3];omega
  ·obtain rfl:k=ah.length:=by omega
   rw[Wh] at l;have be:wr.cell? ⟨w.heap.size,4,K⟩=I (.slice ro rs.length aK):=by unfold Ve;rw[t];rfl
   have p:=af l;clear i l t E H G J
   go_wp2_with fail
   clear be
   go_loopw [27] (λu a3=>∃k:Nat,k<=rs.length/\u= .int .i64 (k:Int)/\a3.heap[w.heap.size+1]? =I (.cells (ya (aI n (ah++(rs.take k).map bT.col))).toArray 4 (0,0))/\aQ w a3) (λu _=>rs.length-(V3 u).toNat)
   case atStart=>exact⟨0,VB _,rfl,by simpa using p.o,y.o⟩
   case round=>
    clear p y P;obtain⟨k,ba,rfl,l,i⟩:=hrel;have y:=af i;have P:=i.size;by_cases h:k<rs.length
    ·have m:=A.o.below i;obtain rfl:=m.addr (by omega);have ao:=m.c0 k h;have ar:=m.c1 k h;have au:=m.c2 k h;have aw:=m.c3 k h;have a0:=m.c4 k h;have a1:=m.c5 k h;have a2:=m.c6 k h;obtain⟨v,Q⟩:=z.o rs[k] (Vn h);have M:X ((rs.take (k+1)).map bT.col=(rs.take k).map bT.col++[rs[k].col]):=by
      show _=_;rw[Vh h,V1,Xz]
     generalize rs[k]=bo at*;obtain⟨bx,f,d⟩:=bo;dsimp only at ao ar au aw a0 a1 a2 v Q M;obtain⟨a,x⟩:=XO v;subst x;have N:a<n:=by omega
     have a8:w.heap.size+1<wr.heap.size:=Va l;have o:aQ wr (wr.alloc (.cells #[.int .i64 (a:Int),.bool f.null,.int .i64 f.n,.string f.s,.bool d.null,.int .i64 d.n,.string d.s] 122)):=(Vi _ _).alloc (U7 _) _;have O:=(o.block (w.heap.size+1) a8).trans l;obtain⟨a5,a6⟩:=Fg O (j:=a) (v:=.bool ((ah++(rs.take k).map bT.col).any λk=>k==(a:Int))) (by simp[ya,aI,N]);have L:X (((wr.alloc (.cells #[.int .i64 (a:Int),.bool f.null,.int .i64 f.n,.string f.s,.bool d.null,.int .i64 d.n,.string d.s] 122)).setCell ⟨w.heap.size+1,a,K⟩ (.bool Z)).heap[w.heap.size+1]? =I (.cells (ya (aI n (ah++(rs.take (k+1)).map bT.col))).toArray 4 (0,0))):=by
      show _=_;rw[Jw O,vY,M.o,Vu]
     have D:X (aQ w ((wr.alloc (.cells #[.int .i64 (a:Int),.bool f.null,.int .i64 f.n,.string f.s,.bool d.null,.int .i64 d.n,.string d.s] 122)).setCell ⟨w.heap.size+1,a,K⟩ (.bool Z))):=(i.trans (o.mono P)).setCell (by show w.heap.size<=w.heap.size+1;omega) _;have R:(wr.alloc (.cells #[.int .i64 (a:Int),.bool f.null,.int .i64 f.n,.string f.s,.bool d.null,.int .i64 d.n,.string d.s] 122)).cell? ⟨wr.heap.size,0,K⟩=I (.int .i64 (a:Int)):=(kM (jw wr _)).1;clear i m A z l O M v o
     go_upto_region 10 with fail
     clear ao ar au aw a0 a1 a2;generalize wr.alloc (.cells #[.int .i64 (a:Int),.bool f.null,.int .i64 f.n,.string f.s,.bool d.null,.int .i64 d.n,.string d.s] 122)=br at*;generalize wr.heap.size=bs at*;go_wp2
     go_roundw
     case rel=>exact⟨k+1,by omega,by go_num,L.o,D.o⟩
     case measure=>simp[V3];omega
    ·obtain rfl:k=rs.length:=by omega
     rw[Wh] at l;have p:=af l;clear i l A z;go_wp2;go_ret;exact⟨y.o,w.heap.size+1,rfl,by omega,p.o⟩
structure As(w:F)(cb n:Nat)(c:Int)(b:lZ):Prop where
 ex:∃j:Nat,c=(j:Int)/\j<n/\cb<w.heap.size/\w.cell? ⟨cb,j*8+1,K⟩=I (.bool b.there)/\w.cell? ⟨cb,j*8+1+1,K⟩=I (.bool b.least.null)/\w.cell? ⟨cb,j*8+1+2,K⟩=I (.int .i64 b.least.n)/\w.cell? ⟨cb,j*8+1+3,K⟩=I (.string b.least.s)/\w.cell? ⟨cb,j*8+1+4,K⟩=I (.bool b.most.null)/\w.cell? ⟨cb,j*8+1+5,K⟩=I (.int .i64 b.most.n)/\w.cell? ⟨cb,j*8+1+6,K⟩=I (.string b.most.s)
def As.below{w w':F}{cb n:Nat}{c:Int}{b:lZ}(h:As w cb n c b)(e:aQ w w'):As w' cb n c b:=by
 obtain⟨r,f,i,j,k,l,m,o,p,q,g⟩:=h.ex;have s:=e.size;have a:∀d,w'.cell? ⟨cb,d,K⟩=w.cell? ⟨cb,d,K⟩:=λd=>e.cell (p:=⟨cb,d,K⟩) j;exact⟨r,f,i,by omega,(a _).trans k,(a _).trans l,(a _).trans m,(a _).trans o,(a _).trans p,(a _).trans q,(a _).trans g⟩
def AR (b:lZ)(r:bT):Bool:=b.there&&(mM b.most r.low||mJ b.least r.high)
def n6(rs:List bT)(eU:Int->lZ)(q:Int)(cb n aG:Nat)(a b c d:U)(ro:Option VI)(rb bF aK:Nat)(sk:Bool)(w:F)(c0:rs.length<=Vp)(p:dK w ro rb bF rs)(bm:∀r∈rs,As w cb n r.col (eU r.col)):
 bK 38 #[qv a b c d (.slice ro rs.length aK) sk,.agg #[.int .i64 q,.slice (I ⟨cb,0,K⟩) n aG]] w λe w'=>∃bb,e= .returned (.bool bb)/\(bb=U5↔∀i (h:i<rs.length),AR (eU rs[i].col) rs[i]=U5)/\aQ w w':=by
 unfold qv;unfold Vp at c0;have am:=af p;have al:=af bm;have a7:X (aQ w ((w.alloc (.cells #[a,b,c,d,.slice ro rs.length aK,.bool sk] 68)).alloc (.cells #[.int .i64 q,.slice (I ⟨cb,0,K⟩) n aG] 98))):=((Vi _ _).alloc (U7 _) _).alloc (by simp) _;have M:X (((w.alloc (.cells #[a,b,c,d,.slice ro rs.length aK,.bool sk] 68)).alloc (.cells #[.int .i64 q,.slice (I ⟨cb,0,K⟩) n aG] 98)).heap[w.heap.size+1]? =I (.cells #[.int .i64 q,.slice (I ⟨cb,0,K⟩) n aG] 98 (0,0))):=by
  have:=jw (w.alloc (.cells #[a,b,c,d,.slice ro rs.length aK,.bool sk] 68)) (.cells #[.int .i64 q,.slice (I ⟨cb,0,K⟩) n aG] 98 (0,0));have c1:(w.alloc (.cells #[a,b,c,d,.slice ro rs.length aK,.bool sk] 68)).heap.size=w.heap.size+1:=by simp
  rw[c1] at this;exact this
 clear p bm;go_enter av.func38,Tryz.ntmps38
 go_wp2_with fail
 go_loopw [11] (λi wr=>∃g:Nat,g<=rs.length/\i= .int .i64 g/\(∀i (h:i<rs.length),i<g->AR (eU rs[i].col) rs[i]=U5)/\wr.heap[w.heap.size+1]? =I (.cells #[.int .i64 q,.slice (I ⟨cb,0,K⟩) n aG] 98 (0,0))/\aQ w wr) (λi _=>rs.length-(V3 i).toNat)
 case atStart=>exact⟨0,VB _,rfl,λdc _ h=>by omega,M.o,a7.o⟩
 case round=>
  clear M a7;obtain⟨g,c5,rfl,bl,W,P⟩:=hrel;have T:=af bl;have aa:=af P;have M:=af W;have bo:=P.size;have cv:=Va W;clear bl;by_cases u:g<rs.length
  ·have p:=am.o.below P;obtain rfl:=p.addr (by omega);have br:=p.c0 g u;have bs:=p.c1 g u;have bt:=p.c2 g u;have bu:=p.c3 g u;have bv:=p.c4 g u;have bx:=p.c5 g u;have bz:=p.c6 g u;obtain⟨A,a8,ci,ba,bc,bd,be,bi,bj,bk,a9⟩:=((al.o rs[g] (Vn u)).below P).ex;have N:X (AR (eU rs[g].col) rs[g]=Z->¬∀i (h:i<rs.length),AR (eU rs[i].col) rs[i]=U5):=λh cx=>by
    have:=cx g u;rw[h] at this;cases this
   have O:X (AR (eU rs[g].col) rs[g]=U5->∀i (h:i<rs.length),i<g+1->AR (eU rs[i].col) rs[i]=U5):=λh i cR c4=>by
    by_cases e:i=g
    ·subst e;exact h
    ·exact T.o i cR (by omega)
   clear p P T am al W;generalize rs[g]=cd at*;generalize eU cd.col=v at*;obtain⟨dd,k,j⟩:=cd;dsimp only at a8 br bs bt bu bv bx bz;subst a8
   go_upto_region 4 with fail
   obtain⟨c2,bA,bB,b0,b1,b2,b3⟩:=kM (jw wr (.cells #[.int .i64 (A:Int),.bool k.null,.int .i64 k.n,.string k.s,.bool j.null,.int .i64 j.n,.string j.s] 122));have m:aQ wr (wr.alloc (.cells #[.int .i64 (A:Int),.bool k.null,.int .i64 k.n,.string k.s,.bool j.null,.int .i64 j.n,.string j.s] 122)):=(Vi _ _).alloc (U7 _) _;have z:∀Y v,cD wr cb Y v->(wr.alloc (.cells #[.int .i64 (A:Int),.bool k.null,.int .i64 k.n,.string k.s,.bool j.null,.int .i64 j.n,.string j.s] 122)).cell? ⟨cb,Y,K⟩=I v:=λY v h=>(m.cell (p:=⟨cb,Y,K⟩) ba).trans h;have cl:=z _ _ bc;have cn:=z _ _ bd;have co:=z _ _ be;have cp:=z _ _ bi;have cs:=z _ _ bj;have cu:=z _ _ bk;have ck:=z _ _ a9;have aw:=(m.block _ cv).trans M.o;have ch:(wr.alloc (.cells #[.int .i64 (A:Int),.bool k.null,.int .i64 k.n,.string k.s,.bool j.null,.int .i64 j.n,.string j.s] 122)).cell? ⟨w.heap.size+1,1,K⟩=I (.slice (I ⟨cb,0,K⟩) n aG):=by unfold Ve;rw[aw];rfl
   have ab:=af aw;have ae:=af (aa.o.trans (m.mono bo));have H:wr.heap.size<(wr.alloc (.cells #[.int .i64 (A:Int),.bool k.null,.int .i64 k.n,.string k.s,.bool j.null,.int .i64 j.n,.string j.s] 122)).heap.size:=by simp
   clear m br bs bt bu bv bx bz bc bd be bi bj bk a9 ba z aw M aa bo;generalize wr.alloc (.cells #[.int .i64 (A:Int),.bool k.null,.int .i64 k.n,.string k.s,.bool j.null,.int .i64 j.n,.string j.s] 122)=s at*;generalize wr.heap.size=l at*;have cB:(A:Int)<(n:Int):=by omega
   go_upto_region 5 with fail
   obtain⟨b4,a0,a1,a2,c6,c7,c8⟩:=kM (jw s (.cells #[.bool v.there,.bool v.least.null,.int .i64 v.least.n,.string v.least.s,.bool v.most.null,.int .i64 v.most.n,.string v.most.s] 100));have m:aQ s (s.alloc (.cells #[.bool v.there,.bool v.least.null,.int .i64 v.least.n,.string v.least.s,.bool v.most.null,.int .i64 v.most.n,.string v.most.s] 100)):=(Vi _ _).alloc (U7 _) _;have c9:=(m.cell (p:=⟨l,1,K⟩) H).trans bA;have da:=(m.cell (p:=⟨l,2,K⟩) H).trans bB;have db:=(m.cell (p:=⟨l,3,K⟩) H).trans b0;have a3:=(m.cell (p:=⟨l,4,K⟩) H).trans b1;have a4:=(m.cell (p:=⟨l,5,K⟩) H).trans b2;have a5:=(m.cell (p:=⟨l,6,K⟩) H).trans b3;have D:X (aQ w (s.alloc (.cells #[.bool v.there,.bool v.least.null,.int .i64 v.least.n,.string v.least.s,.bool v.most.null,.int .i64 v.most.n,.string v.most.s] 100))):=ae.o.trans (m.mono (by have:=ae.o.size;omega));have C:X ((s.alloc (.cells #[.bool v.there,.bool v.least.null,.int .i64 v.least.n,.string v.least.s,.bool v.most.null,.int .i64 v.most.n,.string v.most.s] 100)).heap[w.heap.size+1]? =I (.cells #[.int .i64 q,.slice (I ⟨cb,0,K⟩) n aG] 98 (0,0))):=(m.block _ (Va ab.o)).trans ab.o;have x:l<(s.alloc (.cells #[.bool v.there,.bool v.least.null,.int .i64 v.least.n,.string v.least.s,.bool v.most.null,.int .i64 v.most.n,.string v.most.s] 100)).heap.size:=by simp;omega
   have y:s.heap.size<(s.alloc (.cells #[.bool v.there,.bool v.least.null,.int .i64 v.least.n,.string v.least.s,.bool v.most.null,.int .i64 v.most.n,.string v.most.s] 100)).heap.size:=by simp
   clear m c2 bA bB b0 b1 b2 b3 cl cn co cp cs cu ck ae ab H cB ci ch;generalize s.alloc (.cells #[.bool v.there,.bool v.least.null,.int .i64 v.least.n,.string v.least.s,.bool v.most.null,.int .i64 v.most.n,.string v.most.s] 100)=c3 at*;generalize s.heap.size=t at*;have B:=λau=>vW v.most k au;have J:=λau=>vV v.least j au;unfold aC.agg at B J;have o:AR v ⟨(A:Int),k,j⟩=(v.there&&(mM v.most k||mJ v.least j)):=rfl;cases Q:v.there
   ·rw[Q] at b4 o;have ar:=af (O.o o);clear N O o Q B J;go_wp2
    go_roundw
    case rel=>exact⟨g+1,by omega,by go_num,ar.o,C.o,D.o⟩
    case measure=>simp[V3];omega
   ·rw[Q] at b4 o;cases R:mM v.most k
    ·rw[R] at B o;cases V:mJ v.least j
     ·rw[V] at J o;have ar:=af (O.o o);clear N O o R V Q
      go_wp2_with (first|(go_at_call 58;refine(B _).mono ?_;rintro e w' ⟨rfl,f⟩;have E:X (aQ w w'):=D.o.trans (f.mono (by have:=D.o.size;omega));have b5:=(f.cell (p:=⟨t,1,K⟩) y).trans a0;have b6:=(f.cell (p:=⟨t,2,K⟩) y).trans a1;have b7:=(f.cell (p:=⟨t,3,K⟩) y).trans a2;have b8:=(f.cell (p:=⟨l,4,K⟩) x).trans a3;have ca:=(f.cell (p:=⟨l,5,K⟩) x).trans a4;have cc:=(f.cell (p:=⟨l,6,K⟩) x).trans a5;have L:X (w'.heap[w.heap.size+1]? =I (.cells #[.int .i64 q,.slice (I ⟨cb,0,K⟩) n aG] 98 (0,0))):=(f.block _ (Va C.o)).trans C.o;clear f)|(go_at_call 59;refine(J _).mono ?_;rintro e S ⟨rfl,G⟩;have ad:X (aQ w S):=E.o.trans (G.mono (by have:=E.o.size;omega));have a6:X (S.heap[w.heap.size+1]? =I (.cells #[.int .i64 q,.slice (I ⟨cb,0,K⟩) n aG] 98 (0,0))):=(G.block _ (Va L.o)).trans L.o;clear G))
      go_roundw
      case rel=>exact⟨g+1,by omega,by go_num,ar.o,a6.o,ad.o⟩
      case measure=>simp[V3];omega
     ·rw[V] at J o;have ao:=af (N.o o);clear N O o R V Q
      go_wp2_with (first|(go_at_call 58;refine(B _).mono ?_;rintro e w' ⟨rfl,f⟩;have E:X (aQ w w'):=D.o.trans (f.mono (by have:=D.o.size;omega));have b5:=(f.cell (p:=⟨t,1,K⟩) y).trans a0;have b6:=(f.cell (p:=⟨t,2,K⟩) y).trans a1;have b7:=(f.cell (p:=⟨t,3,K⟩) y).trans a2;have b8:=(f.cell (p:=⟨l,4,K⟩) x).trans a3;have ca:=(f.cell (p:=⟨l,5,K⟩) x).trans a4;have cc:=(f.cell (p:=⟨l,6,K⟩) x).trans a5;have L:X (w'.heap[w.heap.size+1]? =I (.cells #[.int .i64 q,.slice (I ⟨cb,0,K⟩) n aG] 98 (0,0))):=(f.block _ (Va C.o)).trans C.o;clear f)|(go_at_call 59;refine(J _).mono ?_;rintro e S ⟨rfl,G⟩;have ad:X (aQ w S):=E.o.trans (G.mono (by have:=E.o.size;omega));have a6:X (S.heap[w.heap.size+1]? =I (.cells #[.int .i64 q,.slice (I ⟨cb,0,K⟩) n aG] 98 (0,0))):=(G.block _ (Va L.o)).trans L.o;clear G))
      go_ret;exact⟨Z,rfl,by simp only[Bool.true_eq_false,false_iff];exact ao.o,ad.o⟩
    ·rw[R] at B o;have ao:=af (N.o o);clear N O o R Q
     go_wp2_with (go_at_call 58;refine(B _).mono ?_;rintro e w' ⟨rfl,f⟩;have E:X (aQ w w'):=D.o.trans (f.mono (by have:=D.o.size;omega));have b5:=(f.cell (p:=⟨t,1,K⟩) y).trans a0;have b6:=(f.cell (p:=⟨t,2,K⟩) y).trans a1;have b7:=(f.cell (p:=⟨t,3,K⟩) y).trans a2;have b8:=(f.cell (p:=⟨l,4,K⟩) x).trans a3;have ca:=(f.cell (p:=⟨l,5,K⟩) x).trans a4;have cc:=(f.cell (p:=⟨l,6,K⟩) x).trans a5;have L:X (w'.heap[w.heap.size+1]? =I (.cells #[.int .i64 q,.slice (I ⟨cb,0,K⟩) n aG] 98 (0,0))):=(f.block _ (Va C.o)).trans C.o;clear f)
     go_ret;exact⟨Z,rfl,by simp only[Bool.true_eq_false,false_iff];exact ao.o,E.o⟩
  ·have cf:X (∀i (h:i<rs.length),AR (eU rs[i].col) rs[i]=U5):=λi h=>T.o i h (by omega);clear T P am al W M;go_wp2;go_ret;exact⟨U5,rfl,by simp only[true_iff];exact cf.o,aa.o⟩
end Ec
namespace Cc
open Go Go.Conc
open Go.RowKit (Below)
open Ec (aC az bT dK tC AO qv)
def nH (c w:F)(b:Nat):Prop:=∀a,w.heap[b]? =I a->bf (ax U1) a->c.heap[b]? =I a
abbrev cg:=Nat×List aC
structure Cons(P0 P:Vb)(Post:U->F->Prop)(l:Nat)(J:List cg->(Nat->Prop)->F->Prop)(Go:List cg->Bool):Prop where
 j4:∀pre M W W',J pre M W->(∀b,M b->W'.heap[b]? =W.heap[b]?)->W.heap.size<=W'.heap.size->J pre M W'
 bound:∀pre M W,J pre M W->∀b,M b->b<W.heap.size
 round:∀pre M W (nm:Nat) (row:List aC) v,J pre M W->Go pre=Z->pre.length<2000->nm<=1000000->row.length<=1000->W.ownsRow 0 54 3 v row.length (az row)->(∀g,v.ownBlock=I g->¬M g)->Gm P0 P Post l #[.int .i64 (nm:Int),v] W λu W'=>u= .bool (Go (pre++[(nm,row)]))/\∃M',J (pre++[(nm,row)]) M' W'/\(∀b,b<W.heap.size->¬M b->I b≠v.ownBlock->W'.heap[b]? =W.heap[b]?)/\∀b,M' b->M b\/I b=v.ownBlock\/W.heap.size<=b
def feed (Go:List cg->Bool):List cg->List cg->List cg×Bool
 |pre,[]=>(pre,Z)
 |pre,a::b=>if Go (pre++[a]) then feed Go (pre++[a]) b else(pre++[a],U5)
def dS (lU:Nat->Bool)(a:Nat->List aC)(first:Nat):Nat->Nat->List cg
 |p,0=>[]
 |p,b+1=>if lU p then(first+p,a p)::dS lU a first (p+1) b else dS lU a first (p+1) b
structure T4(W:F)(ah:List Int)(rs:List bT)(co:Option VI)(cb bH:Nat)(ro:Option VI)(rb bF:Nat)(lb m N:Nat)(val:Int->Nat->aC):Prop where
 ca:0<ah.length->co=I ⟨cb,bH,K⟩
 cl:0<ah.length->cb<W.heap.size
 cc:∀j,j<ah.length->W.cell? ⟨cb,bH+j,K⟩=I (.int .i64 (ah.getD j 0))
 nr:dK W ro rb bF rs
 lc:∀p,p<N->∀k,(k∈ah\/∃r∈rs,r.col=k)->tC W lb m k p (val k p)
structure Kept(w0 w:F)(M0 M own:Nat->Prop):Prop where
 keep:∀b,b<w0.heap.size->¬M0 b->own b/\w.heap[b]? =w0.heap[b]?
 ext:∀b,M b->M0 b\/w0.heap.size<=b
 rX:∀b,M b->own b
 size:w0.heap.size<=w.heap.size
 tape:w.tape=w0.tape
 os:w.os=w0.os
 output:w.output=w0.output
def Kept.rel{w0 w w':F}{M0 e own own':Nat->Prop}(h:Kept w0 w M0 e own)(c:RelB own w w')(f:∀b,own b->own' b):Kept w0 w' M0 e own':=
 ⟨λb a d=>⟨f b (h.keep b a d).1,(c.at_ b (h.keep b a d).1).trans (h.keep b a d).2⟩,h.ext,λb a=>f b (h.rX b a),Vm h.size c.size,c.tape.trans h.tape,c.os.trans h.os,c.output.trans h.output⟩
def iw (fn:XJ):XQ:=match fn.body with
 |some (.seq _ (.seq (.seq _ (.block _ (.loop a))) _))=>a
 |_=>.skip
def rj (fn:XJ):XQ:=match fn.body with
 |some (.seq _ (.seq _ a))=>a
 |_=>.skip
structure Gk(J:List cg->(Nat->Prop)->F->Prop)(w0 w:F)(M0 M own:Nat->Prop)(q:Array U)(lists:U)(l first N p qb:Nat)(pre:List cg)(a:Xa):Prop where
 kn:Knows a 33 [(13,.int .i64 (p:Int)),(12,.int .i64 (N:Int)),(5,(aP qb)),(4,.func (.yield l) #[] #[]),(2,.int .i64 (first:Int)),(1,lists)]
 df:a.defers=[]
 j:J pre M w
 kept:Kept w0 w M0 M own
 bd:∀b,own b->b<w.heap.size
 oq:own qb
 nq:¬M qb
 lq:w0.heap.size<=qb
 hq:w.heap[qb]? =I (.cells q 68 (0,0))
def S7:(Tryz.f62.name == "runtime.NumGoroutine")=U5:=by kernel_rfl
def T1:(Tryz.f63.name == "runtime.NumGoroutine")=U5:=by kernel_rfl
def vj:(U1.info? 68).map (·.size)=I 6:=by kernel_rfl
def xB (fn:XJ):Array Ww:=match iw fn with
 | .seq _ (.seq _ (.seq (.block _ (.seq _ (.seq (.region _ a _) _))) _))=>a
 |_=> #[]
def mV (fn:XJ):List XR:=match iw fn with
 | .seq _ (.seq _ (.seq (.block _ (.seq _ (.seq _ a))) b))=>[.code a,.inBlock 1,.code b,.inLoop (iw fn),.inBlock 0,.code (rj fn)]
 |_=>[]
def PM:(mV XM).all (vX (ax U1))=Z:=by kernel_rfl
def Nc:vX (ax U1) (.inRegion (xB XM) [])=Z:=by kernel_rfl
def CF{a:Xa}{l:List Nat}(b:a.defers=[]):eH (ax U1) ((base 40).at a (.inRegion (xB XM) l::mV XM)) []:=
 bL Y b (by rw[List.all_cons,PM,Bool.and_true];exact Nc)
end Cc
namespace Cc
open Go Go.Conc
open Go.RowKit (Below)
open Ec (aC az bT dK tC AO qv yP BM)
section
variable {Post:U->F->Prop}{J:List cg->(Nat->Prop)->F->Prop}{Go:List cg->Bool}{w0 w:F}{M0 M own:Nat->Prop}{l first N p qb:Nat}{pre:List cg}{a:Xa}{cs:List Vg}{ah:List Int}{rs:List bT}{co:Option VI}{cb bH aG:Nat}{ro:Option VI}{rb bF aK lb m mc:Nat}{val:Int->Nat->aC}{a0 b0 c0:U}{sk:Bool}{c:Vg}
def Kept.same{d:F}(h:Kept w0 w M0 M own)(i:∀b o,own b->w.heap[b]? =I o->bf (ax U1) o->d.heap[b]? =I o)(k:w.heap.size<=d.heap.size):(∀b,b<w0.heap.size->¬M0 b->nH d w0 b)/\w0.heap.size<=d.heap.size:=
 ⟨λb e f o j g=>i b o (h.keep b e f).1 ((h.keep b e f).2.trans j) g,Vm h.size k⟩
def CO{W' w':F}{base:Nat}{e:Vc}{d:Nat}{v:U}{n:Nat}{f:List U}(r:Un W' w')(h:W'.ownsRow base e d v n f):w'.ownsRow base e d v n f:=by
 obtain⟨b,h|⟨j,g,i,rfl,k,o,q⟩⟩:=h
 ·exact⟨b,.inl h⟩
 ·exact⟨b,.inr ⟨j,g,i,rfl,k,r.row.1 o,q⟩⟩
def jU{b W':F}{base:Nat}{e:Vc}{k:Nat}{v:U}{n:Nat}{o:List U}(h:b.ownsRow base e k v n o){d:Nat}(u:d<=base)(t:∀g,v.ownBlock=I g->base<=g->g<b.heap.size->W'.heap[g]? =b.heap[g]?):W'.ownsRow d e k v n o:=by
 obtain⟨j,h|⟨g,q,r,rfl,f,i,s⟩⟩:=h
 ·exact⟨j,.inl h⟩
 ·exact⟨j,.inr ⟨g,q,r,rfl,Vm u f,(t g Y f (U4.1 i).1).trans i,s⟩⟩
def tU{b:F}{base:Nat}{e:Vc}{j:Nat}{v:U}{n:Nat}{k:List U}(h:b.ownsRow base e j v n k){g:Nat}(d:v.ownBlock=I g):base<=g/\g<b.heap.size:=by
 obtain⟨t,⟨rfl,_⟩|⟨r,o,q,rfl,f,i,s⟩⟩:=h
 ·cases d
 ·cases d;exact⟨f,(U4.1 i).1⟩
def xW{a:Xa}{x y:V4}{u v:U}(h1:a.eval x=u)(b:a.eval y=v): #[x,y].map a.eval=#[u,v]:=by simp[h1,b]
def Cl{a:Xa}{x y z:V4}{u v t:U}(h1:a.eval x=u)(b:a.eval y=v)(d:a.eval z=t): #[x,y,z].map a.eval=#[u,v,t]:=by simp[h1,b,d]
def Ez(C:Cons (ax U1) U1 Post l J Go)(ba:Go pre=Z)(hF:∀f,(∀b,b<w0.heap.size->¬M0 b->nH f w0 b)->w0.heap.size<=f.heap.size->T4 f ah rs co cb bH ro rb bF lb m N val)(a4:p<N)(bj:pre.length<2000)(b2:first+N<=1000000)(hc:ah.length<=1000)(bt:rs.length<=Vp)
 (d:Knows a 33 [(11,.int .i64 (p:Int)),(13,.int .i64 (p:Int)),(12,.int .i64 (N:Int)),(5,(aP qb)),(4,.func (.yield l) #[] #[]),(2,.int .i64 (first:Int)),(1,.slice (I ⟨lb,0,K⟩) m mc)]) (L:a.defers=[]) (V:J pre M w) (S:Kept w0 w M0 M own) (bd:∀b,own b->b<w.heap.size) (W:own qb) (a3:¬M qb) (b5:w0.heap.size<=qb) (a5:w.heap[qb]? =I (.cells #[a0,b0,c0,.slice co ah.length aG,.slice ro rs.length aK,.bool sk] 68 (0,0)))
 (bm:∀own' w' a',(¬∀i (h:i<rs.length),AO (val rs[i].col p) rs[i]=Z)->Knows a' 33 [(31,.bool U5),(13,.int .i64 (p:Int)),(12,.int .i64 (N:Int)),(5,(aP qb)),(4,.func (.yield l) #[] #[]),(2,.int .i64 (first:Int)),(1,.slice (I ⟨lb,0,K⟩) m mc)]->a'.defers=[]->J pre M w'->Kept w0 w' M0 M own'->(∀b,own' b->b<w'.heap.size)->own' qb->w'.heap[qb]? =I (.cells #[a0,b0,c0,.slice co ah.length aG,.slice ro rs.length aK,.bool sk] 68 (0,0))->Xe (ax U1) U1 Post own' ((base 40).at a' (mV XM)) cs w')
 (bz:∀own' o w' a',(∀i (h:i<rs.length),AO (val rs[i].col p) rs[i]=Z)->Knows a' 33 [(31,.bool (!Go (pre++[(first+p,ah.map λk=>val k p)]))),(13,.int .i64 (p:Int)),(12,.int .i64 (N:Int)),(5,(aP qb)),(4,.func (.yield l) #[] #[]),(2,.int .i64 (first:Int)),(1,.slice (I ⟨lb,0,K⟩) m mc)]->a'.defers=[]->J (pre++[(first+p,ah.map λk=>val k p)]) o w'->Kept w0 w' M0 o own'->(∀b,own' b->b<w'.heap.size)->own' qb->¬o qb->w'.heap[qb]? =I (.cells #[a0,b0,c0,.slice co ah.length aG,.slice ro rs.length aK,.bool sk] 68 (0,0))->Xe (ax U1) U1 Post own' ((base 40).at a' (mV XM)) cs w'):
 Xe (ax U1) U1 Post own ((base 40).at a (.code (.region 4 (xB XM) U5)::mV XM)) cs w:=by
 have e:=eX (ax U1) U1 Post;have a6:∀f:F,f.heap[qb]? =I (.cells #[a0,b0,c0,.slice co ah.length aG,.slice ro rs.length aK,.bool sk] 68 (0,0))->f.rangeAt qb 0 [a0,b0,c0,.slice co ah.length aG,.slice ro rs.length aK,.bool sk]:=λf H b7 v V=>by
  unfold Ve;simp only[H];rw[VV];simpa using V
 refine bg e [0,1,2,3,4,5,6,7,8,9,10,11,12,13,14,15] Y ?_;refine qd e d Y (qv a0 b0 c0 (.slice co ah.length aG) (.slice ro rs.length aK) sk) (eK (cs:=[a0,b0,c0,.slice co ah.length aG,.slice ro rs.length aK,.bool sk]) Y (d.of Y) X3 Y vj (.inr W) (a6 w a5)) λd=>?_;refine bX e d λd=>?_;refine bX e d λd=>?_;refine DG (R:=λf n q=>∃t,n= .returned (.bool t)/\(t=Z↔∀i (h:i<rs.length),AO (val rs[i].col p) rs[i]=Z)) bI Y Y Y Y (Cl (d.of Y) (d.of Y) (d.of Y)) Tryz.func62 S7 Y (iW Y Y Y).symm (CF (by simp only[put_defers];exact L)) (λf H ab=>?_) λv s f q H ab bB ae b3 hrel=>?_
 ·have u:=hF f (S.same H ab).1 (S.same H ab).2;refine(yP rs (λk=>val k p) p lb m mc a0 b0 c0 (.slice co ah.length aG) ro rb bF aK sk f bt u.nr (λa7 bu=>u.lc p a4 a7.col (.inr ⟨a7,bu,rfl⟩))).mono λn q h=>?_;obtain⟨t,rfl,G,A⟩:=h;exact⟨A,_,rfl,t,rfl,G⟩
 ·obtain⟨t,bc,aw⟩:=ae;cases bc;have x:=S.rel (own':=grown own f.heap.size s.heap.size) hrel (λb h=>.inl h);have a1:=C.j4 _ _ _ s V (λb g=>hrel.at_ b (S.rX b g)) hrel.size;have aa:=(hrel.at_ qb W).trans a5;have R:∀b,grown own f.heap.size s.heap.size b->b<s.heap.size:=λb g=>g.elim (λh=>U9 (bd b h) hrel.size) (λh=>h.2);have O:grown own f.heap.size s.heap.size qb:=.inl W;replace d:=d.put (d:=19) (by decide) (.bool t);generalize grown own f.heap.size s.heap.size=al at*;refine bX e d λd=>?_;cases t with
  |false=>
   refine tH e d λd=>?_;refine tH e d λd=>?_;refine tH e d λd=>?_;refine tH e d λd=>?_;refine tH e d λd=>?_;refine tH e d λd=>?_;refine tH e d λd=>?_;refine tH e d λd=>?_;refine tH e d λd=>?_;refine tH e d λd=>?_;refine dw e d Y (.bool U5) (yY Y (d.of Y) Y) λd=>?_;refine aj e ?_;refine bm al s _ (λh=>by have:=aw.2 h;cases this) ((((((d.nil.cons (d.slot 1 _ rfl)).cons (d.slot 2 _ rfl)).cons (d.slot 4 _ rfl)).cons (d.slot 5 _ rfl)).cons (d.slot 12 _ rfl)).cons (d.slot 13 _ rfl) |>.cons (d.slot 31 _ rfl)) (by simp only[put_defers];exact L) a1 x R O aa
  |true=>
   have bk:=aw.1 Y;refine mP e (by decide) Y (d.want (d:=20) (want:=Z) (b:=Z) Y Y Y (by decide)) _ (bZ Y (d.of Y)) ?_;replace d:=d.put (d:=21) (by decide) (.func (.yield l) #[] #[]);refine mP e (by decide) Y (d.want (d:=20) (want:=Z) (b:=Z) Y Y Y (by decide)) _ (bZ Y (d.of Y)) ?_;replace d:=d.put (d:=22) (by decide) (.int .i64 (first:Int));refine mP e (by decide) Y (d.want (d:=20) (want:=Z) (b:=Z) Y Y Y (by decide)) _ (bZ Y (d.of Y)) ?_;replace d:=d.put (d:=23) (by decide) (.int .i64 (p:Int));refine mP e (by decide) Y (d.want (d:=20) (want:=Z) (b:=Z) Y Y Y (by decide)) _ (n9 Y (d.of Y) (d.of Y) (by omega)) ?_;replace d:=d.put (d:=24) (by decide) (.int .i64 ((first+p:Nat):Int));refine oZ e (by decide) Y (d.want (d:=20) (want:=Z) (b:=Z) Y Y Y (by decide)) _ (eK (cs:=[a0,b0,c0,.slice co ah.length aG,.slice ro rs.length aK,.bool sk]) Y (d.of Y) X3 Y vj (.inr O) (a6 s aa)) ?_;replace d:=d.put (d:=25) (by decide) (qv a0 b0 c0 (.slice co ah.length aG) (.slice ro rs.length aK) sk);refine mP e (by decide) Y (d.want (d:=20) (want:=Z) (b:=Z) Y Y Y (by decide)) _ (bZ Y (d.of Y)) ?_;replace d:=d.put (d:=26) (by decide) (.slice (I ⟨lb,0,K⟩) m mc);refine mP e (by decide) Y (d.want (d:=20) (want:=Z) (b:=Z) Y Y Y (by decide)) _ (bZ Y (d.of Y)) ?_;replace d:=d.put (d:=27) (by decide) (.int .i64 (p:Int));refine DG (R:=λf n q=>∃v,n= .returned v/\q.ownsRow f.heap.size 54 3 v ah.length (az (ah.map λk=>val k p))) bI Y Y (d.want (d:=20) (want:=Z) (b:=Z) Y Y Y (by decide)) Y (Cl (d.of Y) (d.of Y) (d.of Y)) Tryz.func63 T1 Y (iW Y Y Y).symm (CF (by simp only[put_defers];exact L)) (λz U ad=>?_) λv T z bA U ad b1 ae bb D=>?_
   ·have u:=hF z (x.same U ad).1 (x.same U ad).2;refine(BM ah (λk=>val k p) p lb m mc a0 b0 c0 (.slice ro rs.length aK) co cb bH aG sk z hc u.ca u.cl u.cc (λk bi=>u.lc p a4 k (.inl bi))).mono λn q h=>?_;obtain⟨G,v,rfl,A⟩:=h;exact⟨G,v,rfl,v,rfl,A⟩
   ·obtain⟨cd,bx,bo⟩:=ae;cases bx;have r:=x.rel (own':=grown al z.heap.size T.heap.size) D (λb h=>.inl h);have be:=C.j4 _ _ _ T a1 (λb g=>D.at_ b (x.rX b g)) D.size;have bs:=(D.at_ qb O).trans aa;have b4:∀b,grown al z.heap.size T.heap.size b->b<T.heap.size:=λb g=>g.elim (λh=>U9 (R b h) D.size) (λh=>h.2);have X:=CO bb bo;have b6:=R qb O;replace d:=d.put (d:=28) (by decide) v;refine Q0 (l:=l) (vs:= #[.int .i64 ((first+p:Nat):Int),v]) (R:=λam a8 q=>a8= .bool (Go (pre++[(first+p,ah.map λk=>val k p)]))/\∃o,J (pre++[(first+p,ah.map λk=>val k p)]) o q/\(∀b,b<am.heap.size->¬M b->I b≠v.ownBlock->q.heap[b]? =am.heap[b]?)/\∀b,o b->M b\/I b=v.ownBlock\/am.heap.size<=b) bI Y (d.want (d:=20) (want:=Z) (b:=Z) Y Y Y (by decide)) Y (d.of Y) (xW (d.of Y) (d.of Y)) (CF (by simp only[put_defers];exact L)) (λao j=>?_) λao a8 P j bv E br=>?_
    ·refine C.round pre M ao (first+p) (ah.map λk=>val k p) v (C.j4 _ _ _ ao be (λb g=>j.at_ b (r.rX b g)) j.size) ba bj (by omega) (by rw[VQ];exact hc) ?_ λQ B y=>?_
     ·rw[VQ];exact jU X (VB _) λQ G A a9=>j.at_ Q (.inr ⟨A,a9⟩)
     ·have G:=(tU X B).1;have A:=R Q (x.rX Q y);omega
    ·obtain⟨rfl,o,ar,a2,au⟩:=bv;have B:∀b,I b=v.ownBlock->z.heap.size<=b:=λb g=>(tU X g.symm).1;have b8:=x.size;have ca:=j.size;have cc:=D.size;refine Xe.go (own:=λb=>b<P.heap.size) ?_ (λb h=>h) br;replace d:=d.put (d:=29) (by decide) (.bool (Go (pre++[(first+p,ah.map λk=>val k p)])));refine mP e (by decide) Y (d.want (d:=20) (want:=Z) (b:=Z) Y Y Y (by decide)) _ (yX Y (d.of Y)) ?_;replace d:=d.put (d:=30) (by decide) (.bool (!Go (pre++[(first+p,ah.map λk=>val k p)])));refine dw e d Y (.bool (!Go (pre++[(first+p,ah.map λk=>val k p)]))) (yZ Y (d.of Y) (d.of Y)) λd=>?_;refine aj e ?_;refine bz (λb=>b<P.heap.size) o P _ bk ((((((d.nil.cons (d.slot 1 _ Y)).cons (d.slot 2 _ Y)).cons (d.slot 4 _ Y)).cons (d.slot 5 _ Y)).cons (d.slot 12 _ Y)).cons (d.slot 13 _ Y) |>.cons (d.slot 31 _ Y)) (by simp only[put_defers];exact L) ar ⟨λb g y=>?_,λb g=>?_,λb g=>C.bound _ _ _ ar b g,?_,E.tape.trans (j.tape.trans r.tape),E.os.trans (j.os.trans r.os),E.output.trans (j.output.trans r.output)⟩ (λb h=>h) ?_ (λy=>?_) ?_
     ·have bl:¬M b:=λh=>(r.ext b h).elim y (λh=>by omega);refine⟨by have:=E.size;show b<P.heap.size;omega,?_⟩;rw[a2 b (by omega) bl (λn=>by have:=B b n;omega),j.at_ b (r.keep b g y).1];exact(r.keep b g y).2
     ·rcases au b g with h|h|h
      ·exact r.ext b h
      ·exact .inr (by have:=B b h;omega)
      ·exact .inr (by omega)
     ·have:=E.size;omega
     ·have:=E.size;show qb<P.heap.size;omega
     ·rcases au qb y with h|h|h
      ·exact a3 h
      ·have:=B qb h;omega
      ·omega
     ·rw[a2 qb (by omega) a3 (λn=>by have:=B qb n;omega),j.at_ qb (.inl O)];exact bs
end
end Cc
namespace Rl
def Zk (v:U):Prop:=∀(G:mG) (a:aN G),aq a v v
def Gb{v:U}(h:Zk v):∀c∈v.cells,Zk c:=by
 intro c b G e;have:=(h G e).cells;obtain⟨d,a,rfl⟩:=Array.mem_iff_getElem.1 b;exact this.2 d a a
def DI{cs:Array U}(h:∀c∈cs,Zk c):Zk (.agg cs):=λG b=>.agg Y λe a d=>h _ (Array.getElem_mem a) G b
def Zi (i:XX):Prop:=∀v,i.zero=I v->Zk v
theorem By{α i:Type}{f:α->i->Option (ForInStep i)}(e:i->Prop)(j:∀a b s,e b->f a b=I s->∀c,(s= .yield c\/s= .done c)->e c):∀(l:List α) (b r:i),e b->forIn l b f=I r->e r
 | [],b,r,g,d=>by simp at d;rw[<-d];exact g
 |a::l,b,r,g,d=>by
  rw[List.forIn_cons] at d;cases h:f a b with
  |none=>rw[h] at d;cases d
  |some s=>
   rw[h] at d;cases s with
   |done c=>simp at d;rw[<-d];exact j a b _ g h c (.inr Y)
   |yield c=>exact By e j l c r (j a b _ g h c (.inl Y)) d
def Q7{o:Option (Array U)}{i:XX}(g:Zi i)(j:∀e,o=I e->∀c∈e,Zk c){b:Prop} [Decidable b]{e:Array U}
 (h:(if b then K else o.bind λa=>i.zero.bind λz=>I (a++z.cells))=I e):∀c∈e,Zk c:=by
 split at h
 ·cases h
 ·obtain⟨a,f,h⟩:=VO.1 h;obtain⟨z,k,h⟩:=VO.1 h;cases h;intro c d;rcases Array.mem_append.1 d with d|d
  ·exact j a f c d
  ·exact Gb (g z k) c d
def UG (c:Array Field×Nat×Nat×Nat×Nat×Bool×Bool×Option (Array U)×String):Prop:=∀a,c.2.2.2.2.2.2.2.1=I a->∀b∈a,Zk b
def L3{info:Vc->Option XX}(k:∀t i,info t=I i->Zi i)(g:Array Field)(r:XX)(h:Made.reckonStruct info g=I r):Zi r:=by
 unfold Made.reckonStruct at h;simp only[bind,VO,pure] at h;obtain⟨o,d,h⟩:=h;have j:UG o:=by
  rw[<-Array.forIn_toList] at d;refine By UG ?_ _ _ _ ?_ d
  ·intro f q s m a e hc;obtain⟨i,l,a⟩:=VO.1 a
   split at a
   ·cases a
   ·split at a
    ·cases a
    ·split at a<;>(obtain⟨tag,p,a⟩:=VO.1 a;split at a<;>(cases a;rcases hc with hc|hc<;>cases hc;exact λc b=>Q7 (k _ _ l) m b))
  ·intro c b;cases b;intro e hc;simp at hc
 split at h<;>(cases h;intro v n;obtain⟨c,b,rfl⟩:=XB.1 n;exact DI (j c b))
def rT{d:TypeDesc}{s:String}{z:U}{c:Bool}{n:Nat}(b:Zk z):Zi (Made.word d s z c n):=by
 intro v a;unfold Made.word at a;cases a;exact b
def L2{info:Vc->Option XX}(k:∀t i,info t=I i->Zi i)(d:TypeDesc)(r:XX)(h:Made.reckon info d=I r):Zi r:=by
 unfold Made.reckon at h;simp only[bind,pure] at h
 split at h
 ·obtain⟨i,l,h⟩:=VO.1 h
  split at h
  ·cases h
  ·split at h
   ·cases h
   ·obtain⟨s,b,h⟩:=VO.1 h;cases h;exact rT λG e=>.cZ
  ·obtain⟨s,b,h⟩:=VO.1 h;cases h;exact rT λG e=>.cZ
 ·obtain⟨s,b,h⟩:=VO.1 h;obtain⟨g,f,h⟩:=VO.1 h;cases h;exact rT λG e=>.jR 0 0
 ·obtain⟨s,b,h⟩:=VO.1 h;obtain⟨g,f,h⟩:=VO.1 h;obtain⟨s,b,h⟩:=VO.1 h;obtain⟨g,f,h⟩:=VO.1 h;cases h;exact rT λG e=>.kG
 ·obtain⟨s,b,h⟩:=VO.1 h;obtain⟨g,f,h⟩:=VO.1 h;cases h;exact rT λG e=>.iK
 ·obtain⟨s,b,h⟩:=VO.1 h;cases h;exact rT λG e=>.nilFunc
 ·obtain⟨i,l,h⟩:=VO.1 h;obtain⟨g,f,h⟩:=VO.1 h;cases h;intro v c;simp only at c
  split at c
  ·cases c
  ·split at c
   ·cases c;exact DI λj a=>by simp at a
   ·obtain⟨n,m,rfl⟩:=XB.1 c;refine DI λj a=>?_;simp only[Array.mem_flatten,Array.mem_replicate] at a;obtain⟨o,⟨_,rfl⟩,a⟩:=a;exact Gb (k _ _ l n m) j a
 ·exact L3 k _ _ h
 ·cases h
theorem B9{T:Tables}(b:∀(t:Nat) i,T.types[t]? =I i->Zi i):∀(f:Nat) (t:Vc) (i:XX),Made.infoAt T f t=I i->Zi i
 |0,t,i,a=>by cases a
 |f+1,t,i,a=>by
  unfold Made.infoAt at a
  split at a
  ·exact b _ _ a
  ·obtain⟨c,d,a⟩:=VO.1 a;exact L2 (B9 b f) c i a
def Q5{T:Tables}(a:∀(t:Nat) i,T.types[t]? =I i->Zi i)(t:Vc)(i:XX)(h:T.info? t=I i):Zi i:=by
 unfold Tables.info? at h
 split at h
 ·exact a _ _ h
 ·exact B9 a _ t i h
end Rl
namespace Cc
open Go
def eZ:Nat->U->Bool
 |0,_=>U5
 |n+1,v=>match v with
  | .bool _| .int _ _| .string _| .pointer K| .slice K _ _| .map K| .chan K| .nilFunc| .nilIface=>Z
  | .agg a| .tuple a=>a.toList.all (eZ n)
  |_=>U5
theorem ze:∀(n:Nat) (v:U),eZ n v=Z->Rl.Zk v
 |0,v,a=>by cases a
 |n+1,v,a=>by
  intro G c;unfold eZ at a
  split at a
  ·exact .bool _
  ·exact .int _ _
  ·exact .string _
  ·exact .cZ
  ·exact .jR _ _
  ·exact .kG
  ·exact .iK
  ·exact .nilFunc
  ·exact .nilIface
  ·rename_i d;exact Rl.DI (λb e=>ze n b (Vx.1 a b (by simpa using e))) G c
  ·rename_i d;exact .tuple Y λh f g=>ze n _ (Vx.1 a _ (by simp)) G c
  ·cases a
def Tv:List Nat:=[45,46,52,68,70,73,74,75,78,81,84,85,86,89,98,99,100,103,104,106,109,110,111,112,113,114,115,117,118,119,120,121,122,123,124,125,126]
def MS:Rl.mG:=⟨1,λf=>Tv.contains f⟩
def Q4:(U1.types.toList.all λi=>match i.zero with|some v=>eZ 12 v|none=>Z)=Z:=by kernel_rfl
def JN:U1.globals.size=1:=by kernel_rfl
def S4:(Tv.all λf=>match U1.funcs[f]? with|some fn=>(match fn.body with|some c=>Rl.cE MS U1 c|none=>U5)|none=>U5)=Z:=by kernel_rfl
def Ta:Rl.wS U1 U1:=⟨λ_=>rfl,λ_=>rfl,rfl,λc d v a b=>by
 refine Rl.Q5 (T:=U1.toTables) (λc d a v b=>?_) c d a v b;obtain⟨e,rfl⟩:=U4.1 a;have:=Vx.1 Q4 (U1.types[c]) (by simp);rw[b] at this;exact ze _ _ this⟩
def F6:Rl.nT MS U1 U1:=by
 intro f e;have:=Vx.1 S4 f (by simpa [MS] using e)
 split at this
 ·rename_i c a
  split at this
  ·rename_i b d;exact⟨c,b,a,a,d,this⟩
  ·cases this
 ·cases this
def Q1:Rl.Alike MS U1 U1:=⟨Ta,λ_=>rfl,λ_=>rfl,rfl,λ_ _ _ _ _ _=>rfl,λ_ _ _ _ _=>rfl,λ_ _ _=>rfl,λ_ _=>rfl,λ_=>rfl,λ_ _=>rfl,JN,JN,λf d=>by
 obtain⟨b,e,a,_,c,_⟩:=F6 f d;refine⟨b,a,by rw[c];rfl,?_⟩;simpa using jB us a,λ_=>rfl⟩
end Cc
namespace Cc
open Go Go.Conc
open Ec (aC az)
def Mi (own:Nat->Prop)(w:F)(v:U)(l:List aC):Prop:=
 (v=aM/\l=[])\/∃a c b,v= .slice (I ⟨a,0,K⟩) l.length c/\own a/\w.heap[a]? =I (.cells b 54 (0,0))/\b.toList.take (l.length*3)=az l
def fH(l:List aC):(az l).length=l.length*3:=by
 induction l with
 |nil=>rfl
 |cons b l a=>simp only[az,Xq,U8,WS,Y1] at a ⊢;omega
theorem gP:∀(l:List aC) (i:Nat) (h:i<l.length) (j:Nat) (v:U),[XU l[i].null,.int .i64 l[i].n,.string l[i].s][j]? =I v->(az l)[i*3+j]? =I v
 | [],i,h,j,v,a=>by simp at h
 |x::l,0,h,j,v,a=>by
  simp only[List.getElem_cons_zero] at a;simp only[az,Xq,Nat.zero_mul,VV];exact Wx (Vs.1 a).1▸a
 |x::l,i+1,h,j,v,a=>by
  simp only[List.getElem_cons_succ] at a;have:=gP l i (by simpa using h) j v a;have b:(i+1)*3+j=i*3+j+3:=by omega
  rw[b];simpa [az] using this
def vt{w:F}{g:Nat}{b:Array U}{l:List aC}(c:w.heap[g]? =I (.cells b 54 (0,0)))(hc:b.toList.take (l.length*3)=az l){i:Nat}(d:i<l.length):w.rangeAt g (0+i*3) [XU l[i].null,.int .i64 l[i].n,.string l[i].s]:=by
 intro f v e;have a:=gP l i d f v e;rw[<-hc,Xg] at a
 split at a
 ·unfold Ve;simp only[c];rw[VV];simpa using a
 ·cases a
def qF (fn:XJ):XQ:=match fn.body with
 |some (.seq _ (.seq _ (.seq _ (.seq _ (.seq _ (.block _ (.loop a)))))))=>a
 |_=>.skip
def nB:(U1.info? 54).map (·.size)=I 3:=by kernel_rfl
def Ci (S:Nat->Prop)(c:Nat)(ds:List Deferred)(l:List aC)(v:U)(i:Nat)(own:Nat->Prop)(w:F)(a:Xa):Prop:=
 Knows a 47 [(40,.int .i64 (i:Int)),(39,.int .i64 (l.length:Int)),(38,v),(0,.chan (I c))]/\a.defers=ds/\uw S own w/\Mi own w v l
def Oi{S:Nat->Prop}{c:Nat}{co:Array Bool}{ats:Array Vc}{ty:Vc}{l:List aC}{v:U}{i:Nat}{own:Nat->Prop}{w:F}{a:Xa}(h:Ci S c [{target:=.builtin .close ats ty co,args:= #[.chan (I c)]}] l v i own w a)(f:l.length<=i):
 qm (ax U1) U1 S c own [] (Vd ((baseD 60).at a [.code (qF Xd),.inLoop (qF Xd),.inBlock 0]) [below U1]) w:=by
 obtain⟨d,e,g,j⟩:=h;have b:=k8 (ax U1) U1 S c [];refine aJ b ?_;refine bg b [0] Y ?_;refine dw b d Y (.bool U5) (jn Y (d.of Y) (d.of Y) (by simp;omega)) λd=>?_;refine aj b ?_;refine aJ b ?_;refine cY b U5 (d.of Y) ?_;refine sP b (k':=[]) Y ?_;refine Mz b ?_;exact JL Y e Tryz.func60 Y Y
def Ig{S:Nat->Prop}{c:Nat}{ds:List Deferred}{l:List aC}{v:U}{i:Nat}{own:Nat->Prop}{w:F}{a:Xa}{x:aC}{r:List aC}(N:l.length<=100000)(h:Ci S c ds l v i own w a)(k:l.drop i=x::r)
 (E:∀own' w' a',Ci S c ds l v (i+1) own' w' a'->qm (ax U1) U1 S c own' (r.map aC.agg) (Vd ((baseD 60).at a' [.code (qF Xd),.inLoop (qF Xd),.inBlock 0]) [below U1]) w'):
 qm (ax U1) U1 S c own ((x::r).map aC.agg) (Vd ((baseD 60).at a [.code (qF Xd),.inLoop (qF Xd),.inBlock 0]) [below U1]) w:=by
 obtain⟨b,B,j,n⟩:=h;have d:=k8 (ax U1) U1 S c ((x::r).map aC.agg);have g:i<l.length:=by
  rcases WG i l.length with h|h
  ·exact h
  ·rw[List.drop_eq_nil_of_le h] at k;cases k
 have J:l[i]=x:=by
  have:=Xy g;rw[k] at this;exact(List.cons.inj this).1.symm
 obtain⟨rfl,rfl⟩|⟨e,y,z,rfl,f,q,u⟩:=n
 ·simp at g
 have t:=vt q u g;rw[J] at t;refine aJ d ?_;refine bg d [0] Y ?_;refine dw d b Y (.bool Z) (jn Y (b.of Y) (b.of Y) (by simp;omega)) λb=>?_;refine aj d ?_;refine aJ d ?_;refine cY d Z (b.of Y) ?_;refine gS d ?_;refine aJ d ?_;refine fO d ?_;refine aJ d ?_;refine bg d [0,1,2,3] Y ?_;refine dw d b Y (.pointer (I ⟨e,0+i*3,K⟩)) (fq Y (b.of Y) (b.of Y) YG Tryz.sizeOf54 g) λb=>?_;refine qd d b Y (.agg #[XU x.null,.int .i64 x.n,.string x.s]) (eK (cs:=[XU x.null,.int .i64 x.n,.string x.s]) Y (b.of Y) Tryz.underlying54 Y nB (.inr f) t) λb=>?_;refine kg d j (by decide) Y Y (.cells #[.bool U5,.int .i64 0,.string ⟨#[]⟩] 54) trivial (λL=>(aP L)) (oL Y Tryz.zeroValue54) λo P G H hrel A=>?_;replace b:=b.put (d:=11) (by decide) (aP o);have s:=j.new G H;have C:e≠o:=by have:=j e (.inr f);omega
 refine nY d s (by decide) Y Y (.inr Y) (.cells (j9 x) 54) trivial (iy (n:=o) (off:=0) (v:=.agg #[XU x.null,.int .i64 x.n,.string x.s]) Y (b.of Y) (b.of Y) nB (λc p=>by simp[WV] at p;rcases p with rfl|rfl|rfl<;>rfl) (ZD (ZD rfl)) A (U7 3)) λM m=>?_;replace b:=b.none V9;have D:=s.set m;refine aj d ?_;refine bg d [0,1,2] Y ?_;refine bX d b λb=>?_;refine oZ d (by decide) Y Y _ (eK (cs:=[XU x.null,.int .i64 x.n,.string x.s]) Y (b.of Y) Tryz.underlying54 Y nB (.inr (.inr Y)) (λO v n=>by
  unfold Ve;rw[m.set];simpa [WV] using n)) ?_
 replace b:=b.put (d:=45) (by decide) (.agg #[XU x.null,.int .i64 x.n,.string x.s]);refine SP (v:=x.agg) (by decide) Y Y Y (b.of Y) (b.of Y) ?_;replace b:=b.none V9;have d:=k8 (ax U1) U1 S c (r.map aC.agg);refine aj d ?_;refine gM d ?_;refine bg d [0,1] Y ?_;refine dw d b Y (.int .i64 ((i+1:Nat):Int)) (n9 (j:=1) Y (b.of Y) Y (by omega)) λb=>?_;refine bX d b λb=>?_;refine aj d ?_;refine kZ d ?_;refine E _ M _ ⟨(((b.nil.cons (b.slot 0 _ Y)).cons (b.slot 38 _ Y)).cons (b.slot 39 _ Y)).cons (b.slot 40 _ Y),by simp only[put_defers];exact B,D,.inr ⟨e,y,z,rfl,.inl f,?_,u⟩⟩;rw[m.at_ e (.inr (.inl f)) C,hrel.at_ e (.inr f)];exact q
def Lv{S:Nat->Prop}{c:Nat}{co:Array Bool}{ats:Array Vc}{ty:Vc}{l:List aC}{v:U}(g:l.length<=100000):∀(r:List aC) (i:Nat),l.drop i=r->∀(own:Nat->Prop) (w:F) (a:Xa),Ci S c [{target:=.builtin .close ats ty co,args:= #[.chan (I c)]}] l v i own w a->
 qm (ax U1) U1 S c own (r.map aC.agg) (Vd ((baseD 60).at a [.code (qF Xd),.inLoop (qF Xd),.inBlock 0]) [below U1]) w:=by
 intro r
 induction r with
 |nil=>exact λi d own w a b=>Oi b (List.drop_eq_nil_iff.1 d)
 |cons n r j=>
  intro i d own w a b;refine Ig g b d λk m e f=>j (i+1) ?_ k m e f;have h:i<l.length:=by
   rcases WG i l.length with b|b
   ·exact b
   ·rw[List.drop_eq_nil_of_le b] at d;cases d
  have:=Xy h;rw[d] at this;exact(List.cons.inj this).2.symm
end Cc
namespace Cc
open Go Go.Conc
open Ec (aC az tA xQ js eN)
open Rl (mG aN eJ aq aW dG)
def qc (s:ByteArray)(k e cn:Int)(vs:List aC):Prop:=
 (∃a:Nat,cn=(a:Int)/\a<=100/\js cn k e=0/\tA s k e a vs)\/(vs=[]/\(js cn k e≠0\/∃a:Nat,cn=(a:Int)/\xQ s k e a))
def GL{s:ByteArray}{k e:Int}{n:Nat}{l b:List aC}(h:tA s k e n l)(a:tA s k e n b):b=l:=h.JJ b a.len a.ok (eN a.eq)
def qc.TM{s:ByteArray}{k e cn:Int}{vs l:List aC}{n:Nat}(h:qc s k e cn vs)(i:cn=(n:Int))(c:js cn k e=0)(a:tA s k e n l):vs=l:=by
 rcases h with⟨b,d,_,_,g⟩|⟨rfl,h|⟨b,d,f⟩⟩
 ·have:b=n:=by omega
  subst this;exact GL a g
 ·exact absurd c h
 ·have:b=n:=by omega
  subst this;exact absurd a.eq (f l a.len a.ok)
def qc.TL{s:ByteArray}{k e cn:Int}{vs:List aC}{n:Nat}(h:qc s k e cn vs)(f:cn=(n:Int))(b:xQ s k e n):vs=[]:=by
 rcases h with⟨c,d,_,_,a⟩|⟨rfl,_⟩
 ·have:c=n:=by omega
  subst this;exact absurd a.eq (b vs a.len a.ok)
 ·rfl
def qc.Sj{s:ByteArray}{k e cn:Int}{vs:List aC}(h:qc s k e cn vs)(a:js cn k e≠0):vs=[]:=by
 rcases h with⟨f,c,_,b,d⟩|⟨rfl,_⟩
 ·exact absurd b a
 ·rfl
def qc.len{s:ByteArray}{k e cn:Int}{vs:List aC}(h:qc s k e cn vs):(vs.length:Int)=cn\/vs=[]:=by
 rcases h with⟨d,a,_,c,b⟩|⟨rfl,_⟩
 ·exact .inl (by rw[b.len,a])
 ·exact .inr Y
def qc.le{s:ByteArray}{k e cn:Int}{vs:List aC}(h:qc s k e cn vs):vs.length<=100:=by
 rcases h with⟨f,c,a,d,b⟩|⟨rfl,_⟩
 ·rw[b.len];exact a
 ·simp
section
variable {G:mG}{σ:aN G}{own:Nat->Prop}{wl w:F}
def M6:U->Bool
 | .bool _| .int _ _| .string _=>Z
 |_=>U5
def Ey{v a:U}(h:aq σ v a)(b:M6 v=Z):a=v:=by
 cases h using aq.ind<;>first|rfl|cases b
def FY(l:List aC):∀x∈az l,M6 x=Z:=by
 intro x b;obtain⟨v,_,a⟩:=List.mem_flatMap.1 b;simp only[List.mem_cons,List.not_mem_nil,or_false] at a;rcases a with rfl|rfl|rfl<;>rfl
def QA{v r:U}{l:List aC}{base:Nat}(q:aq σ v r)(J:eJ σ 0 wl w)(E:∀b b',σ.f b=I b'->own b')(D:wl.ownsRow base 54 3 v l.length (az l)):Mi own w r l:=by
 obtain⟨K,⟨rfl,B⟩|⟨i,t,f,rfl,_,A,C,_,H,p⟩⟩:=D
 ·cases q using aq.ind;exact .inl ⟨rfl,Xn.1 B⟩
 ·cases q using aq.ind with
  |sl y=>
   rename_i s;obtain⟨e,j,k⟩:=y;obtain⟨d,N,O⟩:=s;simp only at e j k;subst j k;obtain⟨L,M,h,u,x⟩:=J.at_ i d e;rw[A] at h;cases h;cases x using dG.ind with
   |cells m=>
    rename_i g;refine .inr ⟨d,t,g,rfl,E i d e,u,?_⟩;rw[<-p];apply List.ext_getElem?;intro a;rw[Xg,Xg]
    split
    ·rename_i n;have c:a<f.size:=by
      rw[H];exact U9 n (Nat.mul_le_mul_right 3 C)
     have o:a<g.size:=by rw[<-m.1];exact c
     have F:=m.2 a c o;have z:M6 f[a]=Z:=by
      refine FY l _ ?_;rw[<-p];refine List.mem_iff_getElem?.2 ⟨a,?_⟩;rw[Xg,if_pos n];simp[c]
     have:=Ey F z;simp[c,o,this]
    ·rfl
end
def gA (fn:XJ):Array Ww:=match fn.body with
 |some (.seq _ (.seq _ (.seq (.region _ a _) _)))=>a
 |_=> #[]
def xy (fn:XJ):XQ:=match fn.body with
 |some (.seq _ (.seq _ (.seq _ a)))=>a
 |_=>.skip
def cq{P:Vb}{a:Xa}{o:Ww}{v:U}{S own:Nat->Prop}{w:F}(h:∀c,(Vw a.eval o).run P c= .ok (.value v) c/\(Vw a.eval o).events P c #[]=#[]):∀c,RelB (λb=>S b\/own b) w c->(Vw a.eval o).run P c= .ok (.value v) c/\∀e∈(Vw a.eval o).events P c #[],EvW S own e:=λc _=>⟨(h c).1,λe d=>by rw[(h c).2] at d;simp at d⟩
def Lx{S:Nat->Prop}{c:Nat}{co:Array Bool}{ats:Array Vc}{ty:Vc}{vs:List aC}{v:U}{E:Int}{own:Nat->Prop}{w:F}{a:Xa}{l0:List (Nat×U)}(b:Knows a 47 ((8,v)::(9,.int .i64 E)::(0,.chan (I c))::l0))(g:a.defers=[{target:=.builtin .close ats ty co,args:= #[.chan (I c)]}])(k:uw S own w)(l:vs.length<=100000)
 (h:(E≠0/\vs=[])\/(E=0/\Mi own w v vs)):qm (ax U1) U1 S c own (vs.map aC.agg) (Vd ((baseD 60).at a [.code (xy Xd)]) [below U1]) w:=by
 have d:=k8 (ax U1) U1 S c (vs.map aC.agg);refine aJ d ?_;refine aJ d ?_;refine bg d [0,1] Y ?_;refine bX d b λb=>?_;rcases h with⟨j,rfl⟩|⟨rfl,i⟩
 ·refine dw d b Y (.bool Z) (rB Y (b.of Y) Y (by simpa using j)) λb=>?_;refine aj d ?_;refine cY d Z (b.of Y) ?_;refine oB d ?_;exact JL Y (by simp only[put_defers];exact g) Tryz.func60 Y Y
 ·refine dw d b Y (.bool U5) (rB Y (b.of Y) Y Y) λb=>?_;refine aj d ?_;refine cY d U5 (b.of Y) ?_;refine gS d ?_;refine aJ d ?_;refine bg d [0,1,2] Y ?_;refine bX d b λb=>?_;have m:∃f e,v= .slice f vs.length e:=by
   rcases i with⟨rfl,rfl⟩|⟨o,e,n,rfl,_⟩
   ·exact⟨K,0,rfl⟩
   ·exact⟨_,e,rfl⟩
  obtain⟨f,e,rfl⟩:=m;refine dw d b Y (.int .i64 (vs.length:Int)) (sV Y (b.of Y) YG) λb=>?_;refine dw d b Y (.int .i64 ((0:Nat):Int)) (bZ Y Y) λb=>?_;refine aj d ?_;refine fO d ?_;refine uM d ?_;exact Lv l vs 0 Y _ w _ ⟨(((b.nil.cons (b.slot 0 _ Y)).cons (b.slot 38 _ Y)).cons (b.slot 39 _ Y)).cons (b.slot 40 _ Y),by simp only[put_defers];exact g,k,i⟩
end Cc
namespace Cc
open Go Go.Conc
open Ec (aC az tA xQ js qt)
open Rl (mG aN eJ aq aW dG)
def pV (cn:Int)(cb n cap:Nat):U:=.agg #[.int .i64 cn,.slice (I ⟨cb,0,K⟩) n cap]
def pZ (b d ck a c ce:Nat)(x:U):U:=.agg #[.slice (I ⟨b,0,K⟩) d ck,.slice (I ⟨a,0,K⟩) c ce,x]
structure uB(S:Nat->Prop)(w:F)(s:ByteArray)(k e:Int)(cb n kb nk eb ne col:Nat):Prop where
 sc:S cb
 sk:S kb
 se:S eb
 n:col<n
 nk:col<nk
 ne:col<ne
 cc:w.cell? ⟨cb,0+col*8+0,K⟩=I (.string s)
 ck:w.cell? ⟨kb,0+col*2+1,K⟩=I (.int .i64 k)
 ce:w.cell? ⟨eb,0+col*1,K⟩=I (.int .i64 e)
def uB.rel{S:Nat->Prop}{w w':F}{s:ByteArray}{k e:Int}{cb n d g c f col:Nat}(h:uB S w s k e cb n d g c f col)(j:∀b,S b->w'.heap[b]? =w.heap[b]?):uB S w' s k e cb n d g c f col:=by
 have e:∀(b a:Nat),S b->w'.cell? ⟨b,a,K⟩=w.cell? ⟨b,a,K⟩:=λb a i=>by unfold Ve;rw[j b i]
 exact⟨h.sc,h.sk,h.se,h.n,h.nk,h.ne,(e _ _ h.sc).trans h.cc,(e _ _ h.sk).trans h.ck,(e _ _ h.se).trans h.ce⟩
def Jz (b1 b2:Nat)(cn:Int)(cb n cap a d ck b c ce col:Nat)(s:ByteArray)(k e:Int):List (Nat×U):=
 [(14,.pointer (I ⟨b1,0+1,K⟩)),(15,.slice (I ⟨cb,0,K⟩) n cap),(16,.int .i64 (col:Int)),(17,.pointer (I ⟨cb,0+col*8,K⟩)),(18,.pointer (I ⟨cb,0+col*8+0,K⟩)),(19,.string s),
  (20,.pointer (I ⟨b2,0+0,K⟩)),(21,.slice (I ⟨a,0,K⟩) d ck),(22,.int .i64 (col:Int)),(23,.pointer (I ⟨a,0+col*2,K⟩)),(24,.pointer (I ⟨a,0+col*2+1,K⟩)),(25,.int .i64 k),
  (26,.pointer (I ⟨b2,0+1,K⟩)),(27,.slice (I ⟨b,0,K⟩) c ce),(28,.int .i64 (col:Int)),(29,.pointer (I ⟨b,0+col*1,K⟩)),(30,.int .i64 e),(31,.pointer (I ⟨b1,0+0,K⟩)),(32,.int .i64 cn)]
def MR:List Nat:=[14,15,16,17,18,19,20,21,22,23,24,25,26,27,28,29,30,31,32]
def Og (u:U)(E:Int):List (Nat×U):=[(33,.tuple #[u,.int .i64 E]),(13,.tuple #[u,.int .i64 E]),(34,u),(35,.int .i64 E),(8,u),(9,.int .i64 E)]
def En:gF (gA Xd) (λi=>decide (i<19)) 19 47 MR=Z:=by kernel_rfl
def MT:gF (gA Xd) (λ_=>Z) 25 47 ([33,13,34,35,8,9]++MR)=Z:=by kernel_rfl
def PD:((VS (gA Xd).size).all λi=> !(λi=>decide (i<19)) i||match je (gA Xd) i with|some d=> !([33,13,34,35,8,9]:List Nat).contains d|none=>Z)=Z:=by kernel_rfl
def MU:((VS (gA Xd).size).all λi=> !(λi=>decide (i<=19)) i||i==19||(under (gA Xd) (gA Xd).size (match (gA Xd)[19]? with
 |some o=>(o.after.toList.filter λe=>Wn .any e).map (·.on)
 |none=>[])).contains i)=Z:=by kernel_rfl
def rS:U1.follows .mixedOrders=Z:=by kernel_rfl
def O6:(Tryz.f81.name == "runtime.NumGoroutine")=U5:=by kernel_rfl
def Tb:(Xd.name == "runtime.NumGoroutine")=U5:=by kernel_rfl
def Fu{S:Nat->Prop}{c:Nat}{co:Array Bool}{ats:Array Vc}{ty:Vc}{vs:List aC}{u:U}{E:Int}{own:Nat->Prop}{w:F}{a0:Xa}{l l0:List (Nat×U)}(m:Knows a0 47 l0)(n:l0.lookup 0=I (.chan (I c)))(v:l.lookup 0=K)(p:a0.defers=[{target:=.builtin .close ats ty co,args:= #[.chan (I c)]}])(r:uw S own w)(s:vs.length<=100000)(x:l.map (·.1)=MR)
 (h:(E≠0/\vs=[])\/(E=0/\Mi own w u vs)) (g t:Nat) (f:Array Bool) (a:Xa) (q:cI (gA Xd) (λ_=>Z) a0 (fill a0 (Og u E++l)) f a) (j:∀i,(λi=>decide (i<=19)) i=Z->f.getD i U5=Z) (y:FW f<=g):
 qm (ax U1) U1 S c own (vs.map aC.agg) (Vd ((baseD 60).at a [.inRegion (gA Xd) (V5 .any (gA Xd) g t f []),.code (xy Xd)]) [below U1]) w:=by
 have k:=k8 (ax U1) U1 S c (vs.map aC.agg);have o:gF (gA Xd) (λ_=>Z) 25 47 ((Og u E++l).map (·.1))=Z:=by
  rw[V1,x];exact MT
 refine kO (Dn:=λi=>decide (i<=19)) (u:=25) k (by decide) m o ?_ ?_ ?_ g t f a q j y
 ·intro b i e _ j B d;have z:19<i:=by simpa using j
  have A:i<25:=(U4.1 d).1;have:i=20\/i=21\/i=22\/i=23\/i=24:=by omega
  rcases this with rfl|rfl|rfl|rfl|rfl
  ·cases(show I _=I e from d);exact⟨_,rfl,.inl ⟨rfl,cq (bZ Y (b.of Y))⟩⟩
  ·cases(show I _=I e from d);exact⟨_,rfl,.inl ⟨rfl,cq (kI Y (b.of Y) Y)⟩⟩
  ·cases(show I _=I e from d);exact⟨_,rfl,.inl ⟨rfl,cq (kI Y (b.of Y) Y)⟩⟩
  ·cases(show I _=I e from d);exact⟨_,rfl,.inl ⟨rfl,cq (kH Y (b.of Y))⟩⟩
  ·cases(show I _=I e from d);exact⟨_,rfl,.inl ⟨rfl,cq (kH Y (b.of Y))⟩⟩
 ·intro e d;exact absurd (U4.1 d).1 (by decide)
 ·intro _ b;refine aj k ?_;refine Lx (l0:=[]) (v:=u) (E:=E) (((b.nil.cons (b.slot 0 _ ?_)).cons (b.slot 9 _ Y)).cons (b.slot 8 _ Y)) (by rw[ep];exact p) r s h;rw[Vu,List.lookup_append,List.lookup_append,v,n];rfl
def Um (s:ByteArray)(k e cn:Int)(w:F)(f:X6)(w':F):Prop:=aQ w w'/\
 ((js cn k e≠0/\f= .returned (.tuple #[aM,.int .i64 (js cn k e)]))\/
  (∃a:Nat,cn=(a:Int)/\a<=100/\js cn k e=0/\Ec.bw k e=Z/\((∃v b,f= .returned (.tuple #[v,.int .i64 0])/\w'.ownsRow w.heap.size 54 3 v b.length (az b)/\tA s k e a b)\/(f= .returned (.tuple #[aM,.int .i64 3])/\xQ s k e a))))
def vJ{G:mG}{σ:aN G}{u g:U}{E:Int}(h:aq σ (.tuple #[u,.int .i64 E]) g):∃f,g= .tuple #[f,.int .i64 E]/\aq σ u f:=by
 cases h using aq.ind with
 |tuple a e ihz=>
  rename_i k;have c:=e 0 (by simp) (by rw[<-a];simp);have d:=e 1 (by simp) (by rw[<-a];simp);simp only[List.getElem_toArray,List.getElem_cons_zero,List.getElem_cons_succ] at c d;refine⟨k[0]'(by rw[<-a];simp),?_,c⟩;have i:=Ey d Y;congr 1;refine Array.ext (a.symm.trans Y) λb l j=>?_;have:b=0\/b=1:=by have:b<2:=j;omega
  rcases this with rfl|rfl
  ·rfl
  ·simpa using i
def Lu{S:Nat->Prop}{c:Nat}{co:Array Bool}{ats:Array Vc}{ty:Vc}{vs:List aC}{own:Nat->Prop}{w:F}{a0:Xa}{l0:List (Nat×U)}{s:ByteArray}{k e cn:Int}{b1 b2 cb n cap K M ck y L ce col:Nat}(r:qc s k e cn vs)(a6:s.size<=Vp)
 (x:Knows a0 47 l0) (aw:l0.lookup 0=I (.chan (I c))) (C:a0.defers=[{target:=.builtin .close ats ty co,args:= #[.chan (I c)]}]) (ar:IX S own w) (a2:1<=w.heap.size)
 (o:Ww) (q:(gA Xd)[19]? =I o) (z t:Nat) (u:Array Bool) (a:Xa) (E:cI (gA Xd) (λi=>decide (i<19)) a0 (fill a0 (Jz b1 b2 cn cb n cap K M ck y L ce col s k e)) u a) (H:19∈VX .any (gA Xd) u) (bj:FW u<=z+1) (p:∀s'∈o.looksAt (gA Xd),aS a s'=aS (fill a0 (Jz b1 b2 cn cb n cap K M ck y L ce col s k e)) s'):
 qm (ax U1) U1 S c own (vs.map aC.agg) (Vd ((baseD 60).at a [.inRegion (gA Xd) (19::V5 .any (gA Xd) z t (u.setIfInBounds 19 Z) []),.code (xy Xd)]) [below U1]) w:=by
 have ao:=k8 (ax U1) U1 S c (vs.map aC.agg);cases(show I _=I o from q);have m:=x.fill (Jz b1 b2 cn cb n cap K M ck y L ce col s k e) Y;have X:a.eval (.tmp 19)= .string s:=(p 19 (by decide)).trans (m.slot 19 _ Y);have aa:a.eval (.tmp 25)= .int .i64 k:=(p 25 (by decide)).trans (m.slot 25 _ Y);have ab:a.eval (.tmp 30)= .int .i64 e:=(p 30 (by decide)).trans (m.slot 30 _ Y);have ad:a.eval (.tmp 32)= .int .i64 cn:=(p 32 (by decide)).trans (m.slot 32 _ Y);refine I3 ao (by decide) q Y Y Tryz.func81 O6 Y ?_;have au:(#[Operand.tmp 19,.tmp 25,.tmp 30,.tmp 32].map a.eval)=#[.string s,.int .i64 k,.int .i64 e,.int .i64 cn]:=by simp only[List.map_toArray,Yy,List.map_nil,X,aa,ab,ad]
 rw[au];have ba:aW (Rq MS) #[.string s,.int .i64 k,.int .i64 e,.int .i64 cn] #[.string s,.int .i64 k,.int .i64 e,.int .i64 cn]:=by
  refine⟨rfl,λi al be=>?_⟩;have:i=0\/i=1\/i=2\/i=3:=by have:i<4:=al;omega
  rcases this with rfl|rfl|rfl|rfl
  ·exact .string _
  ·exact .int _ _
  ·exact .int _ _
  ·exact .int _ _
 refine LV (R:=λf g=>∃N,Um s k e cn N f g) bI Q1 F6 Y (iW Y Y Y).symm ba (λf g A=>?_) (os:=w.os) (λbd=>(qt s k e cn _ a6).mono λf g A=>⟨_,A⟩) ar a2 λbo v bc bm T g B J am a7 P hrel=>?_
 ·obtain⟨N,_,⟨_,rfl⟩|⟨_,_,_,_,_,⟨_,_,rfl,_⟩|⟨rfl,_⟩⟩⟩:=A<;>exact⟨_,rfl⟩
 ·obtain⟨bd,V,N,bi,B⟩:=B;have bb:∃d b,bc= .tuple #[d,.int .i64 b]/\((b≠0/\vs=[])\/(b=0/\Mi T g d vs)):=by
   rcases B with⟨R,j⟩|⟨bl,Q,_,ae,_,⟨d,bk,j,a8,D⟩|⟨j,D⟩⟩
   ·cases j;obtain⟨l,rfl,_⟩:=vJ J;exact⟨l,_,rfl,.inl ⟨R,r.Sj R⟩⟩
   ·cases j;obtain⟨l,rfl,a9⟩:=vJ J;have W:=r.TM Q ae D;subst W;exact⟨l,_,rfl,.inr ⟨rfl,QA a9 am a7 a8⟩⟩
   ·cases j;obtain⟨l,rfl,_⟩:=vJ J;exact⟨l,_,rfl,.inl ⟨by decide,r.TL Q D⟩⟩
  obtain⟨d,b,rfl,a4⟩:=bb;rw[Frame.finish_at,q];have a1:=E.Jc (l2:=Og d b) (L4:=λ_=>Z) (n:=47) (v:=.tuple #[d,.int .i64 b]) H q x.size En Y (λ_ _=>rfl) Y PD (λV C=>by cases C;rfl);have a3:uw S T g:=λO h=>by
   rcases h with h|h
   ·exact(P.sh O h).1
   ·exact P.bd O h
  refine Fu x aw Y C a3 (Vm r.le (by decide)) Y a4 z t _ _ a1 (gG E H MU (λi G=>by
   have:i<=19:=by simpa using G
   show i<25;omega)) ?_
  obtain⟨_,_,G,a5,_⟩:=mem_ready H;have:=rQ (by rw[E.size];exact G) a5;omega
end Cc
namespace Cc
open Go Go.Conc
open Ec (aC)
def Uu(v0 v1 v2 a:U)(m:Nat)(f:4<=m):Knows ⟨#[v0,v1,v2,a]++V8 (m-4) V9,[]⟩ m [(0,v0),(1,v1),(2,v2),(3,a)]:=by
 have b:∀c v,(#[v0,v1,v2,a]:Array U)[c]? =I v->aS ⟨#[v0,v1,v2,a]++V8 (m-4) V9,[]⟩ c=v:=λc v d=>by
  unfold aS;rw[Vt,Array.getElem?_append_left (U4.1 d).1,d];rfl
 refine Knows.cons (Knows.cons (Knows.cons (Knows.cons (l:=[]) ⟨?_,λs v e=>by simp at e⟩ (b 3 a Y)) (b 2 v2 Y)) (b 1 v1 Y)) (b 0 v0 Y);simp;omega
def Fv{S:Nat->Prop}{c:Nat}{co:Array Bool}{ats:Array Vc}{ty:Vc}{vs:List aC}{own:Nat->Prop}{w:F}{a0:Xa}{s:ByteArray}{k e cn:Int}{b1 b2 cb n cap i l ck h j ce col:Nat}{x:U}{l0:List (Nat×U)}(M:qc s k e cn vs)(G:s.size<=Vp)
 (o:Knows a0 47 ((0,.chan (I c))::(3,.int .i64 (col:Int))::(5,(aP b1))::(6,(aP b2))::l0)) (B:a0.defers=[{target:=.builtin .close ats ty co,args:= #[.chan (I c)]}]) (A:IX S own w) (D:1<=w.heap.size)
 (h1:own b1) (r:own b2) (N:w.heap[b1]? =I (.cells #[.int .i64 cn,.slice (I ⟨cb,0,K⟩) n cap] 98 (0,0))) (O:w.heap[b2]? =I (.cells #[.slice (I ⟨i,0,K⟩) l ck,.slice (I ⟨h,0,K⟩) j ce,x] 66 (0,0))) (g:uB S w s k e cb n i l h j col):
 qm (ax U1) U1 S c own (vs.map aC.agg) (Vd ((baseD 60).at a0 [.code (.region 2 (gA Xd) Z),.code (xy Xd)]) [below U1]) w:=by
 have t:=k8 (ax U1) U1 S c (vs.map aC.agg);have p:∀a v,(#[Xm .i64 cn,.slice (I ⟨cb,0,K⟩) n cap]:Array U)[a]? =I v->w.cell? ⟨b1,a,K⟩=I v:=λa v m=>by unfold Ve;simp only[N];exact m
 have q:∀a v,(#[VR (I ⟨i,0,K⟩) l ck,.slice (I ⟨h,0,K⟩) j ce,x]:Array U)[a]? =I v->w.cell? ⟨b2,a,K⟩=I v:=λa v m=>by unfold Ve;simp only[O];exact m
 refine q9 (Ph:=λd=>decide (d<19)) (l:=Jz b1 b2 cn cb n cap i l ck h j ce col s k e) t rS ?_;refine kO (u:=19) t (by decide) o En ?_ ?_ ?_
 ·intro b d a J _ _ f;have R:d<19:=by simpa using J
  have:d=0\/d=1\/d=2\/d=3\/d=4\/d=5\/d=6\/d=7\/d=8\/d=9\/d=10\/d=11\/d=12\/d=13\/d=14\/d=15\/d=16\/d=17\/d=18:=by omega
  rcases this with rfl|rfl|rfl|rfl|rfl|rfl|rfl|rfl|rfl|rfl|rfl|rfl|rfl|rfl|rfl|rfl|rfl|rfl|rfl
  ·cases(show I _=I a from f);exact⟨_,rfl,.inl ⟨rfl,cq (de Y (b.of Y) Xp Y Tryz.sizeOf96 Y)⟩⟩
  ·cases(show I _=I a from f);exact⟨_,rfl,.inl ⟨rfl,bP Y (b.of Y) Tryz.isAgg96 (.inr h1) (p 1 _ Y)⟩⟩
  ·cases(show I _=I a from f);exact⟨_,rfl,.inl ⟨rfl,cq (bZ Y (b.of Y))⟩⟩
  ·cases(show I _=I a from f);exact⟨_,rfl,.inl ⟨rfl,cq (fq Y (b.of Y) (b.of Y) Tryz.underlying96 Tryz.sizeOf102 g.n)⟩⟩
  ·cases(show I _=I a from f);exact⟨_,rfl,.inl ⟨rfl,cq (de Y (b.of Y) Tryz.underlying102 Y Tryz.sizeOf9 Y)⟩⟩
  ·cases(show I _=I a from f);exact⟨_,rfl,.inl ⟨rfl,bP Y (b.of Y) Tryz.isAgg9 (.inl g.sc) g.cc⟩⟩
  ·cases(show I _=I a from f);exact⟨_,rfl,.inl ⟨rfl,cq (de Y (b.of Y) Tryz.underlying66 Y Tryz.sizeOf52 Y)⟩⟩
  ·cases(show I _=I a from f);exact⟨_,rfl,.inl ⟨rfl,bP Y (b.of Y) Tryz.isAgg52 (.inr r) (q 0 _ Y)⟩⟩
  ·cases(show I _=I a from f);exact⟨_,rfl,.inl ⟨rfl,cq (bZ Y (b.of Y))⟩⟩
  ·cases(show I _=I a from f);exact⟨_,rfl,.inl ⟨rfl,cq (fq Y (b.of Y) (b.of Y) Tryz.underlying52 Tryz.sizeOf51 g.nk)⟩⟩
  ·cases(show I _=I a from f);exact⟨_,rfl,.inl ⟨rfl,cq (de Y (b.of Y) Tryz.underlying51 Y Y5 Y)⟩⟩
  ·cases(show I _=I a from f);exact⟨_,rfl,.inl ⟨rfl,bP Y (b.of Y) Zt (.inl g.sk) g.ck⟩⟩
  ·cases(show I _=I a from f);exact⟨_,rfl,.inl ⟨rfl,cq (de Y (b.of Y) Tryz.underlying66 Y Tryz.sizeOf22 Y)⟩⟩
  ·cases(show I _=I a from f);exact⟨_,rfl,.inl ⟨rfl,bP Y (b.of Y) Tryz.isAgg22 (.inr r) (q 1 _ Y)⟩⟩
  ·cases(show I _=I a from f);exact⟨_,rfl,.inl ⟨rfl,cq (bZ Y (b.of Y))⟩⟩
  ·cases(show I _=I a from f);exact⟨_,rfl,.inl ⟨rfl,cq (fq Y (b.of Y) (b.of Y) Tryz.underlying22 Y5 g.ne)⟩⟩
  ·cases(show I _=I a from f);exact⟨_,rfl,.inl ⟨rfl,bP Y (b.of Y) Zt (.inl g.se) g.ce⟩⟩
  ·cases(show I _=I a from f);exact⟨_,rfl,.inl ⟨rfl,cq (de Y (b.of Y) Xp Y Y5 Y)⟩⟩
  ·cases(show I _=I a from f);exact⟨_,rfl,.inl ⟨rfl,bP Y (b.of Y) Zt (.inr h1) (p 0 _ Y)⟩⟩
 ·intro a f y Q P u C L H E _;exact Lu M G o Y B A D a f y Q P u C L H E
 ·intro z;exact absurd (z 24 (by decide)) (by decide)
def Oh{S:Nat->Prop}{c:Nat}{vs:List aC}{w:F}{s:ByteArray}{k e cn:Int}{cb n cap h j ck g i ce col:Nat}{x:U}(H:qc s k e cn vs)(E:s.size<=Vp)(p:IX S (λ_=>False) w)(D:uB S w s k e cb n h j g i col):
 qm (ax U1) U1 S c (λ_=>False) (vs.map aC.agg) (born U1 (dcall 60 #[.chan (I c),pV cn cb n cap,pZ h j ck g i ce x,.int .i64 (col:Int)])) w:=by
 have a:=k8 (ax U1) U1 S c (vs.map aC.agg);refine OX Tryz.func60 Tb Y ?_;have b:=Uu (.chan (I c)) (pV cn cb n cap) (pZ h j ck g i ce x) (.int .i64 (col:Int)) 47 (by decide);have q:uw S (λ_=>False) w:=λd f=>f.elim (λy=>(p.sh d y).1) YJ;refine aJ a ?_;refine bg a [0,1] Y ?_;refine kg a q (by decide) Y Y (.cells #[.int .i64 cn,.slice (I ⟨cb,0,K⟩) n cap] 98) trivial (λn=>(aP n)) (vg (v:=pV cn cb n cap) Y (b.of Y)) λl M B J G z=>?_;replace b:=b.put (d:=5) (by decide) (aP l);have r:=q.new B J;refine kg a r (by decide) Y Y (.cells #[.slice (I ⟨h,0,K⟩) j ck,.slice (I ⟨g,0,K⟩) i ce,x] 66) trivial (λn=>(aP n)) (vg (v:=pZ h j ck g i ce x) Y (b.of Y)) λo N C L u A=>?_;replace b:=b.put (d:=6) (by decide) (aP o);have t:=r.new C L;refine aj a ?_;refine aJ a ?_;refine bg a [0,1] Y ?_;refine bX a b λb=>?_;refine Pq a (by decide) Y Y Y (b.of Y) λv=>?_;refine aj a ?_;refine aJ a ?_;refine Fv (b1:=l) (b2:=o) (cap:=cap) (ck:=ck) (ce:=ce) (l0:=[]) (col:=col) (x:=x) (ats:= #[152]) (ty:=0) (co:=v) H E ?_ (by simp only[put_defers];rfl) ?_ (by omega) (.inl (.inr rfl)) (.inr rfl) ?_ A (D.rel λd f=>?_)
 ·exact(Knows.defer b _ V9).four Y Y Y Y
 ·refine⟨λd f=>⟨t d (.inl f),λm=>?_⟩,λd f=>t d (.inr f)⟩;have:=(p.sh d f).1;rcases m with(m|rfl)|rfl
  ·exact m
  ·omega
  ·omega
 ·rw[u.at_ l (.inr (.inr Y))];exact z
 ·rw[u.at_ d (.inl f),G.at_ d (.inl f)]
end Cc
namespace Cc
open Go Go.Conc
open Ec (aC az)
def xN:∃i,U1.info? 54=I i/\i.zero=I (.agg #[.bool U5,.int .i64 0,.string ⟨#[]⟩])/\i.size=3/\i.bytes=32:=⟨Tryz.t54,by kernel_rfl,rfl,rfl,rfl⟩
def Ga(w:F):(Xl 54).events U1 w #[]=#[]:=by
 obtain⟨e,b,d,_⟩:=xN;simp[Xl,Yc,b,d]
def ew(l:List aC)(x:aC):az (l++[x])=az l++[.bool x.null,.int .i64 x.n,.string x.s]:=by simp[az]
structure Row(w:F)(g N:Nat)(pre:List aC):Prop where
 ex:∃cur,w.heap[g]? =I (.cells cur 54 (0,0))/\cur.size=N*3/\cur.toList.take (pre.length*3)=az pre
 le:pre.length<=N
def Row.same{w w':F}{g N:Nat}{pre:List aC}(h:Row w g N pre)(f:w'.heap[g]? =w.heap[g]?):Row w' g N pre:=by
 obtain⟨b,d,e⟩:=h.ex;exact⟨⟨b,f.trans d,e⟩,h.le⟩
def di (fn:XJ):XQ:=match fn.body with
 |some (.seq _ (.seq _ (.seq (.seq _ (.block _ (.loop c))) _)))=>c
 |_=>.skip
def gV (fn:XJ):XQ:=match fn.body with
 |some (.seq _ (.seq _ (.seq _ c)))=>c
 |_=>.skip
structure Ce(S O:Nat->Prop)(c g N:Nat)(pre:List aC)(w:F)(a:Xa):Prop where
 kn:Knows a 18 [(9,.chan (I c)),(5,.slice (I ⟨g,0,K⟩) pre.length N)]
 df:a.defers=[]
 inr:uw S O w
 own:O g
 row:Row w g N pre
section
variable {Post:U->F->Prop}{S O:Nat->Prop}{μ:Nat->Option (List U)}{c g N:Nat}{pre:List aC}{w:F}{a:Xa}{cs:List Vg}{b0:Vg}{a0:Xa}{k0:List XR}{CN:Array Ww}{i0:Nat}{BJ:List Nat}{o0:Ww}
def MJ(h:Ce S O c g N pre w a)(k:μ c=I [])(j:CN[i0]? =I o0)
 (i:ku (ax U1) U1 Post S O (fV μ c K) (Vd (b0.at (a0.put o0.dst (.slice (I ⟨g,0,K⟩) pre.length N)) (.inRegion CN BJ::k0)) cs) w):
 ku (ax U1) U1 Post S O μ (Vd ((base 61).at a [.code (di Zc),.inLoop (di Zc),.inBlock 0,.code (gV Zc)]) (b0.at a0 (.inRegion CN (i0::BJ)::k0)::cs)) w:=by
 obtain⟨d,f,m,l,n⟩:=h;have b:=dN (ax U1) U1 Post S μ;refine aJ b ?_;refine bg b [0,1] Y ?_;refine Sg (by decide) Y Y Y Tryz.underlying155 Tryz.zeroValue54 Ga (d.of Y) k ?_;replace d:=d.put (d:=10) (by decide) (.tuple #[.agg #[.bool U5,.int .i64 0,.string ⟨#[]⟩],.bool U5]);have b:=dN (ax U1) U1 Post S (fV μ c K);refine qu b d λd=>?_;refine aj b ?_;refine aJ b ?_;refine cY b U5 (d.of Y) ?_;refine sP b (k':=[.code (gV Zc)]) Y ?_;refine aJ b ?_;refine bg b [0,1] Y ?_;refine bX b d λd=>?_;refine gw b d λd=>?_;refine aj b ?_;refine oB b ?_;have e:=iM (P:=U1) Tryz.results61 (d.slot 4 _ Y);exact Ps b Y (by simp only[put_defers];exact f) Tryz.func61 e.1 e.2 j i
def GF{x:aC}{r:List aC}(h:Ce S O c g N pre w a)(a1:μ c=I ((x::r).map aC.agg))(Q:pre.length<N)(R:N<=1000000)
 (ae:∀o w' a',Ce S o c g N (pre++[x]) w' a'->(∀b,O b->o b)->(∀b,o b->O b\/w.heap.size<=b)->(∀b,S b\/O b->b≠g->w'.heap[b]? =w.heap[b]?)->w.heap.size<=w'.heap.size->w'.tape=w.tape->w'.os=w.os->w'.output=w.output->ku (ax U1) U1 Post S o (fV μ c (I (r.map aC.agg))) (Vd ((base 61).at a' [.code (di Zc),.inLoop (di Zc),.inBlock 0,.code (gV Zc)]) cs) w'):
 ku (ax U1) U1 Post S O μ (Vd ((base 61).at a [.code (di Zc),.inLoop (di Zc),.inBlock 0,.code (gV Zc)]) cs) w:=by
 obtain⟨d,aa,s,j,am⟩:=h;obtain⟨⟨p,X,q,au⟩,a5⟩:=am;obtain⟨H,E,G,n,W⟩:=xN;have e:=dN (ax U1) U1 Post S μ;refine aJ e ?_;refine bg e [0,1] Y ?_;refine Sf (v:=x.agg) (by decide) Y Y Y Tryz.underlying155 Tryz.zeroValue54 Ga (d.of Y) a1 ?_;replace d:=d.put (d:=10) (by decide) (.tuple #[.agg (j9 x),.bool Z]);have e:=dN (ax U1) U1 Post S (fV μ c (I (r.map aC.agg)));refine qu e d λd=>?_;refine aj e ?_;refine aJ e ?_;refine cY e Z (d.of Y) ?_;refine gS e ?_;refine fO e ?_;refine aJ e ?_;refine bg e [0,1,2] Y ?_;refine qu e d λd=>?_;refine kg e s (by decide) Y Y (.cells #[.bool U5,.int .i64 0,.string ⟨#[]⟩] 54) trivial (λy=>(aP y)) (oL Y Tryz.zeroValue54) λJ a8 F ao hrel T=>?_;replace d:=d.put (d:=6) (by decide) (aP J);have B:=s.new F ao;refine nY e B (by decide) Y Y (.inr Y) (.cells (j9 x) 54) trivial (iy (n:=J) (off:=0) (v:=.agg #[XU x.null,.int .i64 x.n,.string x.s]) Y (d.of Y) (d.of Y) nB (λc m=>by simp[WV] at m;rcases m with rfl|rfl|rfl<;>rfl) (ZD (ZD rfl)) T (U7 3)) λa2 i=>?_;replace d:=d.none V9;have C:=B.set i;refine aj e ?_;refine bg e [0,1,2,3,4] Y ?_;refine bX e d λd=>?_;refine oZ e (by decide) Y Y _ (eK (cs:=[XU x.null,.int .i64 x.n,.string x.s]) Y (d.of Y) Tryz.underlying54 Y nB (.inr (.inr Y)) (λt v aw=>by
  unfold Ve;rw[i.set];simpa [WV] using aw)) ?_
 replace d:=d.put (d:=14) (by decide) (.agg #[XU x.null,.int .i64 x.n,.string x.s]);refine kg e C (by decide) Y Y (.cells (j9 x) 54) trivial (λy=>.slice (I ⟨y,0,K⟩) 1 1) (KQ (v0:=.bool x.null) (v1:=.int .i64 x.n) (v2:=.string x.s) Y (d.of Y) YG E G n) λz A al ar l U=>?_;replace d:=d.put (d:=15) (by decide) (.slice (I ⟨z,0,K⟩) 1 1);have D:=C.new al ar;have a4:=s g (.inr j);have M:a2.heap[g]? =I (.cells p 54 (0,0)):=by
  rw[i.at_ g (.inr (.inl j)) (by omega),hrel.at_ g (.inr j)];exact X
 have P:A.heap[g]? =I (.cells p 54 (0,0)):=(l.at_ g (.inr (.inl j))).trans M;refine RP e D (n:=g) (by decide) Y Y (.inl (.inl j)) (.cells (p.toList.take (pre.length*H.size)++[XU x.null,.int .i64 x.n,.string x.s]++p.toList.drop (pre.length*H.size+3)).toArray 54 (0,0)) trivial (.slice (I ⟨g,0,K⟩) (pre.length+1) N) (KP (news:=[XU x.null,.int .i64 x.n,.string x.s]) Y (d.of Y) (d.of Y) YG E G P (.inr (.inl (.inl j))) (.inr (.inr Y)) (by rw[n];rfl) (λt a7 ad=>by
  have L:A.cell? (Addr.add ⟨z,0,K⟩ t)=A.cell? ⟨z,0+t,K⟩:=by rw[YN]
  rw[L];unfold Ve;rw[U,VV];simpa using ad) (λt=>by rw[YN]) (λc m=>by simp at m;rcases m with rfl|rfl|rfl<;>rfl) (by omega) (by rw[q,n]) R (by rw[W];decide)) λa3 k=>?_
 replace d:=d.put (d:=16) (by decide) (.slice (I ⟨g,0,K⟩) (pre.length+1) N);have ab:=D.set k;refine gw e d λd=>?_;refine aj e ?_;refine gM e ?_;refine kZ e ?_;have u:(pre++[x]).length=pre.length+1:=by simp
 refine ae _ a3 _ ⟨?_,by simp only[put_defers];exact aa,ab,.inl (.inl j),⟨⟨_,k.set,?_,?_⟩,by rw[u];exact Q⟩⟩ (λb f=>.inl (.inl f)) (λb f=>?_) (λb f V=>?_) ?_ ?_ ?_ ?_
 ·rw[u];exact(d.nil.cons (d.slot 5 _ Y)).cons (d.slot 9 _ Y)
 ·rw[n] at*;simp[q];omega
 ·rw[n,u,ew,<-au,Nat.add_mul];rw[List.take_append_of_le_length (by simp[q];omega)];rw[VJ (by simp[q];omega)]
 ·rcases f with(f|rfl)|rfl
  ·exact .inl f
  ·exact .inr F
  ·have:=i.size;have:=hrel.size;exact .inr (by omega)
 ·have a6:=s b f;rw[k.at_ b (f.imp (λh=>h) (λh=>.inl (.inl h))) V,l.at_ b (f.imp (λh=>h) (λh=>.inl h)),i.at_ b (f.imp (λh=>h) (λh=>.inl h)) (by omega),hrel.at_ b f]
 ·have:=hrel.size;have:=i.size;have:=l.size;have:=k.size;omega
 ·rw[k.tape,l.tape,i.tape,hrel.tape]
 ·rw[k.os,l.os,i.os,hrel.os]
 ·rw[k.output,l.output,i.output,hrel.output]
def LQ(μ:Nat->Option (List U))(c:Nat)(x y:Option (List U)):fV (fV μ c x) c y=fV μ c y:=by
 funext b;unfold fV
 split<;>rfl
structure Rz(S O O':Nat->Prop)(g:Nat)(w w':F):Prop where
 sub:∀b,O b->O' b
 new:∀b,O' b->O b\/w.heap.size<=b
 at_:∀b,S b\/O b->b≠g->w'.heap[b]? =w.heap[b]?
 size:w.heap.size<=w'.heap.size
 tape:w'.tape=w.tape
 os:w'.os=w.os
 output:w'.output=w.output
def J8(z:CN[i0]? =I o0)(v:N<=1000000):∀(r:List aC) (pre:List aC) (O:Nat->Prop) (w:F) (a:Xa) (μ:Nat->Option (List U)),Ce S O c g N pre w a->μ c=I (r.map aC.agg)->pre.length+r.length<=N->
 (∀h w',Row w' g N (pre++r)->h g->uw S h w'->Rz S O h g w w'->ku (ax U1) U1 Post S h (fV μ c K) (Vd (b0.at (a0.put o0.dst (.slice (I ⟨g,0,K⟩) (pre++r).length N)) (.inRegion CN BJ::k0)) cs) w')->
 ku (ax U1) U1 Post S O μ (Vd ((base 61).at a [.code (di Zc),.inLoop (di Zc),.inBlock 0,.code (gV Zc)]) (b0.at a0 (.inRegion CN (i0::BJ)::k0)::cs)) w:=by
 intro r
 induction r with
 |nil=>
  intro pre O w a μ b j l i;refine MJ b j z ?_;have:=i O w (by rw[WM];exact b.row) b.own b.inr ⟨λ_ b=>b,λ_ b=>.inl b,λ_ _ _=>rfl,U7 _,rfl,rfl,rfl⟩;rw[WM] at this;exact this
 |cons k r A=>
  intro pre O w a μ b j l i;simp only[WS] at l;refine GF b j (by omega) v λh w' s u o B C p D E G=>?_;refine A (pre++[k]) h w' s _ u (by unfold fV;simp) (by simp;omega) λq H n x y f=>?_;rw[LQ];have t:pre++[k]++r=pre++k::r:=by simp
  rw[t] at n ⊢;exact i q H n x y ⟨λd e=>f.sub d (o d e),λd e=>(f.new d e).elim (B d) (λe=>.inr (Vm p e)),λd e m=>(f.at_ d (e.imp (λb=>b) (o d)) m).trans (C d e m),Vm p f.size,f.tape.trans D,f.os.trans E,f.output.trans G⟩
def Ut(v0 v1:U)(m:Nat)(h:2<=m):Knows ⟨#[v0,v1]++V8 (m-2) V9,[]⟩ m [(0,v0),(1,v1)]:=by
 have e:∀b v,(#[v0,v1]:Array U)[b]? =I v->aS ⟨#[v0,v1]++V8 (m-2) V9,[]⟩ b=v:=λb v d=>by
  unfold aS;rw[Vt,Array.getElem?_append_left (U4.1 d).1,d];rfl
 refine Knows.cons (Knows.cons (l:=[]) ⟨?_,λs v f=>by simp at f⟩ (e 1 v1 Y)) (e 0 v0 Y);simp;omega
def MI{r:List aC}(v:CN[i0]? =I o0)(k:uw S O w)(C:μ c=I (r.map aC.agg))(x:r.length<=N)(m:N<=1000000)
 (u:∀j w' g,w.heap.size<=g->Row w' g N r->j g->Mf S O j w w'->ku (ax U1) U1 Post S j (fV μ c K) (Vd (b0.at (a0.put o0.dst (.slice (I ⟨g,0,K⟩) r.length N)) (.inRegion CN BJ::k0)) cs) w'):
 ku (ax U1) U1 Post S O μ (Vd (VU U1 61 #[.chan (I c),.int .i64 (N:Int)] .normal) (b0.at a0 (.inRegion CN (i0::BJ)::k0)::cs)) w:=by
 have b:=dN (ax U1) U1 Post S μ;obtain⟨D,s,B,z,o⟩:=xN;rw[enter_at _ Tryz.func61 Y];have d:=Ut (.chan (I c)) (.int .i64 (N:Int)) 18 (by decide);refine aJ b ?_;refine bg b [0] Y ?_;refine oz b d aM λd=>?_;refine aj b ?_;refine aJ b ?_;refine bg b [0,1,2] Y ?_;refine bX b d λd=>?_;refine kg b k (by decide) Y Y (.cells (YH (Value.agg #[.bool U5,.int .i64 0,.string ⟨#[]⟩]).cells (N*D.size)) 54) trivial (λE=>.slice (I ⟨E,0,K⟩) 0 N) (CM (L:=0) Y Y (d.of Y) YG s B (VB _) (by rw[o];omega) (by omega)) λg F l A hrel n=>?_;replace d:=d.put (d:=8) (by decide) (.slice (I ⟨g,0,K⟩) 0 N);refine gw b d λd=>?_;refine aj b ?_;refine aJ b ?_;refine aJ b ?_;refine bg b [0] Y ?_;refine bX b d λd=>?_;refine aj b ?_;refine fO b ?_;refine uM b ?_;have q:=k.new l A;refine J8 (g:=g) (N:=N) v m r [] _ F _ μ ⟨(d.nil.cons (d.slot 5 _ Y)).cons (d.slot 9 _ Y),by simp only[put_defers],q,.inr Y,⟨⟨_,n,by rw[size_madeCells,z],rfl⟩,VB _⟩⟩ C (by simpa using x) λj w' y p t i=>?_;refine u j w' g l y p ⟨λe f=>i.sub e (.inl f),λe f=>?_,⟨λe f=>?_,?_,i.tape.trans hrel.tape,i.os.trans hrel.os,i.output.trans hrel.output⟩,t⟩
 ·rcases i.new e f with(h|rfl)|h
  ·exact .inl h
  ·exact .inr l
  ·exact .inr (Vm hrel.size h)
 ·have:=k e f;rw[i.at_ e (f.imp (λh=>h) (λh=>.inl h)) (by omega),hrel.at_ e f]
 ·exact Vm hrel.size i.size
end
end Cc
namespace Cc
open Go Go.Conc
open Ec (aC az)
open Go.RowKit (Below)
structure Gf(S:Nat->Prop)(w0:F)(s:Nat->ByteArray)(k e:Nat->Int)(N cb n kb nk eb ne wb:Nat)(ws:List Bool)(V:Nat->List aC):Prop where
 sz:∀b,S b->b<w0.heap.size
 sin:∀j,ws[j]? =I Z->uB S w0 (s j) (k j) (e j) cb n kb nk eb ne j/\(s j).size<=Vp/\qc (s j) (k j) (e j) (N:Int) (V j)
 wl:wb<w0.heap.size
 wc:∀j y,ws[j]? =I y->w0.cell? ⟨wb,0+j*1,K⟩=I (.bool y)
 nn:N<=1000000
 mm:ws.length<=1000000
 pos:1<=w0.heap.size
def eC (ws:List Bool)(ch:Nat->Nat)(i:Nat):List U:=(VS ws.length).map λb=>if b<i/\ws[b]? =I Z then .chan (I (ch b)) else .chan K
def dL(ws:List Bool)(ch:Nat->Nat)(i:Nat):(eC ws ch i).length=ws.length:=by simp[eC]
def mR{ws:List Bool}{ch:Nat->Nat}{i j:Nat}(b:j<ws.length):(eC ws ch i)[j]? =I (if j<i/\ws[j]? =I Z then .chan (I (ch j)) else .chan K):=by
 simp[eC,b]
structure rU(S O:Nat->Prop)(w0 w:F)(N cb n cap kb nk ck eb ne ce:Nat)(x:U)(bb fb:Nat):Prop where
 I2:aQ w0 w
 low:∀b,b<w0.heap.size->S b\/O b
 inr:uw S O w
 rV:∀b,S b->¬O b
 ob:O bb
 of:O fb
 lb:w0.heap.size<=bb
 lf:w0.heap.size<=fb
 hb:w.heap[bb]? =I (.cells #[.int .i64 (N:Int),.slice (I ⟨cb,0,K⟩) n cap] 98 (0,0))
 hf:w.heap[fb]? =I (.cells #[.slice (I ⟨kb,0,K⟩) nk ck,.slice (I ⟨eb,0,K⟩) ne ce,x] 66 (0,0))
structure Tf(O:Nat->Prop)(w:F)(ws:List Bool)(V:Nat->List aC)(ch:Nat->Nat)(p q:Nat)(μ:Nat->Option (List U)):Prop where
 mu:∀j,p<=j->j<q->ws[j]? =I Z->μ (ch j)=I ((V j).map aC.agg)
 no:∀c,μ c≠K->∃j,p<=j/\j<q/\ws[j]? =I Z/\ch j=c
 inj:∀j j',j<q->j'<q->ws[j]? =I Z->ws[j']? =I Z->ch j=ch j'->j=j'
 lt:∀j,j<q->ws[j]? =I Z->ch j<w.heap.size
section
variable {S O:Nat->Prop}{w0 w w':F}{s:Nat->ByteArray}{k e:Nat->Int}{N cb n cap kb nk ck eb ne ce wb iS:Nat}{x:U}{ws:List Bool}{V:Nat->List aC}{ch:Nat->Nat}{bb fb cJ i:Nat}{μ:Nat->Option (List U)}{a:Xa}{Post:U->F->Prop}{cs:List Vg}
def rU.rel(h:rU S O w0 w N cb n cap kb nk ck eb ne ce x bb fb){d:Nat->Prop}(g:∀b,S b\/O b->w0.heap.size<=b->(b=bb\/b=fb)->w'.heap[b]? =w.heap[b]?)(m:∀b,b<w0.heap.size->w'.heap[b]? =w.heap[b]?)(q:w.heap.size<=w'.heap.size)(r:w'.tape=w.tape)(o:w'.os=w.os)(p:w'.output=w.output)(l:uw S d w')(f:∀b,O b->b<w0.heap.size\/b=bb\/b=fb->d b)(j:∀b,S b->¬d b):rU S d w0 w' N cb n cap kb nk ck eb ne ce x bb fb:=
 ⟨⟨o.trans h.I2.os,r.trans h.I2.tape,p.trans h.I2.output,Vm h.I2.size q,λb c=>(m b c).trans (h.I2.block b c)⟩,λb c=>(h.low b c).imp (λh=>h) (λh=>f b h (.inl c)),l,j,f bb h.ob (.inr (.inl Y)),f fb h.of (.inr (.inr Y)),h.lb,h.lf,(g bb (.inr h.ob) h.lb (.inl Y)).trans h.hb,(g fb (.inr h.of) h.lf (.inr Y)).trans h.hf⟩
def rU.new(h:rU S O w0 w N cb n cap kb nk ck eb ne ce x bb fb){f:Nat}(g:w.heap.size<=f)(l:w'.heap.size=f+1)(d:RelB (λb=>S b\/O b) w w'):rU S (λb=>O b\/b=f) w0 w' N cb n cap kb nk ck eb ne ce x bb fb:=
 h.rel (λb c _ _=>d.at_ b c) (λb c=>d.at_ b (h.low b c)) d.size d.tape d.os d.output (h.inr.new g l) (λb c _=>.inl c) (λb c j=>j.elim (h.rV b c) (λe=>by have:=h.inr b (.inl c);omega))
def rU.set(h:rU S O w0 w N cb n cap kb nk ck eb ne ce x bb fb){f:Nat}{l:Obj}(b:Au S O f l w w')(h1:f≠bb)(g:f≠fb)(m:w0.heap.size<=f):rU S O w0 w' N cb n cap kb nk ck eb ne ce x bb fb:=
 h.rel (λc d _ j=>b.at_ c d (by rcases j with rfl|rfl;exact λe=>h1 e.symm;exact λe=>g e.symm)) (λc d=>b.at_ c (h.low c d) (by omega)) b.size b.tape b.os b.output (h.inr.set b) (λc d _=>d) h.rV
end
def Bq (fn:XJ):Array Ww:=match di fn with
 | .seq _ (.seq _ (.seq (.block _ (.seq _ (.seq _ (.cond _ (.seq _ (.region _ b _)) _)))) _))=>b
 |_=> #[]
def Uq (cJ fb bb i c N cb n cap kb nk ck eb ne ce m:Nat)(x:U):List (Nat×U):=
 [(29,.slice (I ⟨cJ,0,K⟩) m m),(30,.int .i64 (i:Int)),(31,.pointer (I ⟨cJ,0+i*1,K⟩)),(32,.chan (I c)),(33,pV (N:Int) cb n cap),(34,pZ kb nk ck eb ne ce x),(35,.int .i64 (i:Int))]
def Up:List Nat:=[29,30,31,32,33,34,35]
def Jb:gF (Bq VZ) (λi=>decide (i<7)) 7 73 Up=Z:=by kernel_rfl
def PR:((VS (Bq VZ).size).all λi=> !(λi=>decide (i<=7)) i||i==7||(under (Bq VZ) (Bq VZ).size (match (Bq VZ)[7]? with
 |some o=>(o.after.toList.filter λe=>Wn .any e).map (·.on)
 |none=>[])).contains i)=Z:=by kernel_rfl
def ov:(U1.info? 98).map (·.size)=I 2:=by kernel_rfl
def Bp:(U1.info? 66).map (·.size)=I 3:=by kernel_rfl
def J5:(U1.info? 134).map (·.size)=I 1:=by kernel_rfl
section
variable {S O:Nat->Prop}{w0 w w':F}{s:Nat->ByteArray}{k e:Nat->Int}{N cb n cap kb nk ck eb ne ce wb iS:Nat}{x:U}{ws:List Bool}{V:Nat->List aC}{ch:Nat->Nat}{bb fb cJ i:Nat}{μ:Nat->Option (List U)}{a:Xa}{Post:U->F->Prop}{cs:List Vg}
structure JP(S O:Nat->Prop)(w0 w:F)(N cb n cap kb nk ck eb ne ce:Nat)(x:U)(wb iS:Nat)(ws:List Bool)(V:Nat->List aC)(ch:Nat->Nat)(bb fb cJ i:Nat)(μ:Nat->Option (List U))(a:Xa):Prop where
 kn:Knows a 73 [(16,.int .i64 (i:Int)),(15,.int .i64 (ws.length:Int)),(8,.slice (I ⟨cJ,0,K⟩) ws.length ws.length),(4,(aP fb)),(3,(aP bb)),(2,.slice (I ⟨wb,0,K⟩) ws.length iS)]
 df:a.defers=[]
 own:rU S O w0 w N cb n cap kb nk ck eb ne ce x bb fb
 oc:O cJ
 lc:w0.heap.size<=cJ
 cb:cJ≠bb
 cf:cJ≠fb
 hc:w.heap[cJ]? =I (.cells (eC ws ch i).toArray 134 (0,0))
 UH:Tf O w ws V ch 0 i μ
def Cs(h:ws[i]? ≠I Z):eC ws ch (i+1)=eC ws ch i:=by
 unfold eC;refine List.map_congr_left λb f=>?_;by_cases e:b=i
 ·subst e;simp[h]
 ·have:(b<i+1/\ws[b]? =I Z)↔(b<i/\ws[b]? =I Z):=by
   constructor
   ·rintro⟨d,c⟩;exact⟨by omega,c⟩
   ·rintro⟨d,c⟩;exact⟨by omega,c⟩
  simp only[this]
def Ed(h:ws[i]? =I Z)(c:Nat):(eC ws ch i).take i++[Value.chan (I c)]++(eC ws ch i).drop (i+1)=eC ws (λj=>if j=i then c else ch j) (i+1):=by
 have m:i<ws.length:=(Vs.1 h).1;apply List.ext_getElem?;intro j;rcases WG j ws.length with b|b
 ·rw[mR b];rcases Nat.lt_trichotomy j i with d|d|d
  ·rw[Vu,Wx (by simp[dL];omega),Xg,if_pos d,mR b];have e:(j<i+1/\ws[j]? =I Z)↔(j<i/\ws[j]? =I Z):=⟨λh=>⟨d,h.2⟩,λh=>⟨by omega,h.2⟩⟩;have f:¬j=i:=by omega
   simp only[e,f,if_false]
  ·subst d;rw[Vu,Wb (by simp[dL];omega)];simp[dL,h,Nat.min_eq_left (Nat.le_of_lt b)]
  ·rw[Wb (by simp[dL];omega)];have g:i+1+(j-(min i ws.length+1))=j:=by omega
   simp only[U8,WB,dL,WS,Y1,List.getElem?_drop,g,mR b];have f:¬(j<i):=by omega
   have l:¬(j<i+1):=by omega
   simp only[f,l,false_and,if_false]
 ·rw[XK (by simp[dL];omega),XK (by rw[dL];exact b)]
def go_skip(j:Gf S w0 s k e N cb n kb nk eb ne wb ws V)(h:JP S O w0 w N cb n cap kb nk ck eb ne ce x wb iS ws V ch bb fb cJ i μ a)(o:ws[i]? =I U5)
 (G:∀a',JP S O w0 w N cb n cap kb nk ck eb ne ce x wb iS ws V ch bb fb cJ (i+1) μ a'->ku (ax U1) U1 Post S O μ (Vd ((base 39).at a' [.code (di VZ),.inLoop (di VZ),.inBlock 0,.code (gV VZ)]) cs) w):
 ku (ax U1) U1 Post S O μ (Vd ((base 39).at a [.code (di VZ),.inLoop (di VZ),.inBlock 0,.code (gV VZ)]) cs) w:=by
 obtain⟨b,D,p,L,H,B,C,F,l⟩:=h;have c:=dN (ax U1) U1 Post S μ;have J:i<ws.length:=(Vs.1 o).1;have P:=j.mm;refine aJ c ?_;refine bg c [0] Y ?_;refine dw c b Y (.bool Z) (jn Y (b.of Y) (b.of Y) (by simp;omega)) λb=>?_;refine aj c ?_;refine aJ c ?_;refine cY c Z (b.of Y) ?_;refine gS c ?_;refine aJ c ?_;refine fO c ?_;refine aJ c ?_;refine bg c [0,1] Y ?_;refine bX c b λb=>?_;refine gw c b λb=>?_;refine aj c ?_;refine aJ c ?_;refine bg c [0,1,2,3] Y ?_;refine bX c b λb=>?_;refine bX c b λb=>?_;refine dw c b Y (.pointer (I ⟨wb,0+i*1,K⟩)) (fq Y (b.of Y) (b.of Y) XT Tryz.sizeOf4 J) λb=>?_;refine qd c b Y (.bool U5) (bP Y (b.of Y) Tryz.isAgg4 (p.low wb j.wl) ((p.I2.cell (p:=⟨wb,0+i*1,K⟩) j.wl).trans (j.wc i _ o))) λb=>?_;refine aj c ?_;refine cY c U5 (b.of Y) ?_;refine gS c ?_;refine gM c ?_;refine bg c [0,1] Y ?_;refine dw c b Y (.int .i64 ((i+1:Nat):Int)) (n9 (j:=1) Y (b.of Y) Y (by omega)) λb=>?_;refine bX c b λb=>?_;refine aj c ?_;refine kZ c ?_;have g:ws[i]? ≠I Z:=by rw[o];simp
 refine G _ ⟨(((((b.nil.cons (b.slot 2 _ Y)).cons (b.slot 3 _ Y)).cons (b.slot 4 _ Y)).cons (b.slot 8 _ Y)).cons (b.slot 15 _ Y)).cons (b.slot 16 _ Y),by simp only[put_defers];exact D,p,L,H,B,C,by rw[Cs g];exact F,⟨λd v q f=>?_,λu A=>?_,λd t q M f r E=>?_,λd q f=>?_⟩⟩
 ·exact l.mu d v (by rcases WG d i with h|h;exact h;have:d=i:=(by omega);subst this;exact absurd f g) f
 ·obtain⟨d,m,y,z⟩:=l.no u A;exact⟨d,m,by omega,z⟩
 ·have m:d≠i:=λe=>g (e▸f);have y:t≠i:=λe=>g (e▸r);exact l.inj d t (by omega) (by omega) f r E
 ·have m:d≠i:=λe=>g (e▸f);exact l.lt d (by omega) f
end
section
variable {S O:Nat->Prop}{w0 w w':F}{s:Nat->ByteArray}{k e:Nat->Int}{N cb n cap kb nk ck eb ne ce wb iS:Nat}{x:U}{ws:List Bool}{V:Nat->List aC}{ch:Nat->Nat}{bb fb cJ i:Nat}{μ:Nat->Option (List U)}{a:Xa}{Post:U->F->Prop}{cs:List Vg}{kk:List XR}
def go_region{c:Nat}{l0:List (Nat×U)}(t:Gf S w0 s k e N cb n kb nk eb ne wb ws V)(z:ws[i]? =I Z)
 (q:Knows a 73 ((9,.int .i64 (i:Int))::(8,.slice (I ⟨cJ,0,K⟩) ws.length ws.length)::(4,(aP fb))::(3,(aP bb))::l0))
 (m:rU S O w0 w N cb n cap kb nk ck eb ne ce x bb fb) (aa:O cJ) (P:O c) (Q:w.cell? ⟨cJ,0+i*1,K⟩=I (.chan (I c))) (ae:μ c=K) (R:w.heap[c]? =I (.chan N #[] U5 0 0 U5))
 (T:∀a',Knows a' 73 (Uq cJ fb bb i c N cb n cap kb nk ck eb ne ce ws.length x++((9,.int .i64 (i:Int))::(8,.slice (I ⟨cJ,0,K⟩) ws.length ws.length)::(4,(aP fb))::(3,(aP bb))::l0))->a'.defers=a.defers->
   ku (ax U1) U1 Post S (λb=>O b/\b≠c) (fV μ c (I ((V i).map aC.agg))) (Vd ((base 39).at a' kk) cs) w):
 ku (ax U1) U1 Post S O μ (Vd ((base 39).at a (.code (.region 7 (Bq VZ) Z)::kk)) cs) w:=by
 have u:=dN (ax U1) U1 Post S μ;have W:i<ws.length:=(Vs.1 z).1;have H:w.rangeAt bb 0 [Xm .i64 (N:Int),.slice (I ⟨cb,0,K⟩) n cap]:=λd v l=>by unfold Ve;simp only[m.hb];rw[VV];simpa using l
 have J:w.rangeAt fb 0 [VR (I ⟨kb,0,K⟩) nk ck,.slice (I ⟨eb,0,K⟩) ne ce,x]:=λd v l=>by unfold Ve;simp only[m.hf];rw[VV];simpa using l
 refine q9 (Ph:=λi=>decide (i<7)) (l:=Uq cJ fb bb i c N cb n cap kb nk ck eb ne ce ws.length x) u rS ?_;refine kO (u:=7) u (by decide) q Jb ?_ ?_ ?_
 ·intro f d j ab _ _ g;have l:d<7:=by simpa using ab
  have:d=0\/d=1\/d=2\/d=3\/d=4\/d=5\/d=6:=by omega
  rcases this with rfl|rfl|rfl|rfl|rfl|rfl|rfl
  ·cases(show I _=I j from g);exact⟨_,rfl,.inl ⟨rfl,cq (bZ Y (f.of Y))⟩⟩
  ·cases(show I _=I j from g);exact⟨_,rfl,.inl ⟨rfl,cq (bZ Y (f.of Y))⟩⟩
  ·cases(show I _=I j from g);exact⟨_,rfl,.inl ⟨rfl,cq (fq Y (f.of Y) (f.of Y) Tryz.underlying133 Tryz.sizeOf134 W)⟩⟩
  ·cases(show I _=I j from g);exact⟨_,rfl,.inl ⟨rfl,bP Y (f.of Y) Tryz.isAgg134 (.inr aa) Q⟩⟩
  ·cases(show I _=I j from g);exact⟨_,rfl,.inl ⟨rfl,eK (cs:=[Xm .i64 (N:Int),.slice (I ⟨cb,0,K⟩) n cap]) Y (f.of Y) Xp Y ov (.inr m.ob) H⟩⟩
  ·cases(show I _=I j from g);exact⟨_,rfl,.inl ⟨rfl,eK (cs:=[VR (I ⟨kb,0,K⟩) nk ck,.slice (I ⟨eb,0,K⟩) ne ce,x]) Y (f.of Y) Tryz.underlying66 Y Bp (.inr m.of) J⟩⟩
  ·cases(show I _=I j from g);exact⟨_,rfl,.inl ⟨rfl,cq (bZ Y (f.of Y))⟩⟩
 ·intro j g al ar ao b y A am p _;have f:=q.fill (Uq cJ fb bb i c N cb n cap kb nk ck eb ne ce ws.length x) Y;have r:=gG (Dn:=λi=>decide (i<=7)) y A PR (λd l=>by
   have:d<=7:=by simpa using l
   show d<8;omega)
  cases(show I _=I j from g);obtain⟨L,M⟩:=oH y A rfl q.size Jb (λd l=>r d (by
   have:d<8:=l;simp;omega))
  have D:b.eval (.tmp 32)= .chan (I c):=(p 32 (by decide)).trans (f.slot 32 _ Y);have E:b.eval (.tmp 33)=pV (N:Int) cb n cap:=(p 33 (by decide)).trans (f.slot 33 _ Y);have F:b.eval (.tmp 34)=pZ kb nk ck eb ne ce x:=(p 34 (by decide)).trans (f.slot 34 _ Y);have G:b.eval (.tmp 35)= .int .i64 (i:Int):=(p 35 (by decide)).trans (f.slot 35 _ Y);obtain⟨ad,X,C⟩:=t.sin i z;refine P6 (args:= #[.chan (I c),pV (N:Int) cb n cap,pZ kb nk ck eb ne ce x,.int .i64 (i:Int)]) (vs:=(V i).map aC.agg) (cap:=N) (by decide) g Y Y (by simp only[List.map_toArray,Yy,List.map_nil,D,E,F,G]) P ?_ ae R (λau B=>?_) ?_
  ·rw[VQ];rcases C.len with h|h
   ·omega
   ·rw[h];exact VB _
  ·refine Oh C X ⟨λb o=>⟨U9 (m.inr b (.inl o)) B.size,λh=>h⟩,λb h=>h.elim⟩ (ad.rel λb o=>?_);rw[B.at_ b (.inl o)];exact m.I2.block b (t.sz b o)
  ·rw[M];show ku _ _ Post S _ _ (Vd ((base 39).at b _) cs) w;rw[L];exact aj (dN (ax U1) U1 Post S _) (T _ f (ep _ _))
 ·intro r;exact absurd (r 7 (by decide)) (by decide)
def go_round(r:Gf S w0 s k e N cb n kb nk eb ne wb ws V)(h:JP S O w0 w N cb n cap kb nk ck eb ne ce x wb iS ws V ch bb fb cJ i μ a)(t:ws[i]? =I Z)
 (a1:∀F w' a' W U,JP S F w0 w' N cb n cap kb nk ck eb ne ce x wb iS ws V W bb fb cJ (i+1) U a'->ku (ax U1) U1 Post S F U (Vd ((base 39).at a' [.code (di VZ),.inLoop (di VZ),.inBlock 0,.code (gV VZ)]) cs) w'):
 ku (ax U1) U1 Post S O μ (Vd ((base 39).at a [.code (di VZ),.inLoop (di VZ),.inBlock 0,.code (gV VZ)]) cs) w:=by
 obtain⟨b,ar,j,u,M,H,J,aw,l⟩:=h;have c:=dN (ax U1) U1 Post S μ;have D:i<ws.length:=(Vs.1 t).1;have bi:=r.mm;have bj:=r.nn;obtain⟨bl,a0,_,_,am⟩:=xN;refine aJ c ?_;refine bg c [0] Y ?_;refine dw c b Y (.bool Z) (jn Y (b.of Y) (b.of Y) (by simp;omega)) λb=>?_;refine aj c ?_;refine aJ c ?_;refine cY c Z (b.of Y) ?_;refine gS c ?_;refine aJ c ?_;refine fO c ?_;refine aJ c ?_;refine bg c [0,1] Y ?_;refine bX c b λb=>?_;refine gw c b λb=>?_;refine aj c ?_;refine aJ c ?_;refine bg c [0,1,2,3] Y ?_;refine bX c b λb=>?_;refine bX c b λb=>?_;refine dw c b Y (.pointer (I ⟨wb,0+i*1,K⟩)) (fq Y (b.of Y) (b.of Y) XT Tryz.sizeOf4 D) λb=>?_;refine qd c b Y (.bool Z) (bP Y (b.of Y) Tryz.isAgg4 (j.low wb r.wl) ((j.I2.cell (p:=⟨wb,0+i*1,K⟩) r.wl).trans (r.wc i _ t))) λb=>?_;refine aj c ?_;refine cY c Z (b.of Y) ?_;refine aJ c ?_;refine bg c [0,1,2,3,4,5,6] Y ?_;refine bX c b λb=>?_;refine bX c b λb=>?_;refine dw c b Y (aP bb) (de (off':=0) Y (b.of Y) Xp Y Y5 Y) λb=>?_;refine qd c b Y (.int .i64 (N:Int)) (bP Y (b.of Y) Zt (.inr j.ob) (by unfold Ve;simp only[j.hb];rfl)) λb=>?_;refine kg c j.inr (by decide) Y Y (.chan N #[] U5 0 0 U5) trivial (λn=>.chan (I n)) (EU Y (b.of Y) Tryz.underlying134 a0 (by omega) (by rw[am];omega)) λf br a3 a6 hrel al=>?_;replace b:=b.put (d:=27) (by decide) (.chan (I f));have P:=j.new a3 a6 hrel;refine dw c b Y (.pointer (I ⟨cJ,0+i*1,K⟩)) (fq Y (b.of Y) (b.of Y) Tryz.underlying133 Tryz.sizeOf134 D) λb=>?_;have bd:=j.inr cJ (.inr u);have L:f≠cJ:=by omega
 have X:(eC ws ch i).toArray.toList.take (0+i*1)++(Value.chan (I f)).cells.toList++(eC ws ch i).toArray.toList.drop (0+i*1+(Value.chan (I f)).cells.size)=eC ws (λd=>if d=i then f else ch d) (i+1):=by
  rw[<-Ed t f];simp[WV]
 refine nY c P.inr (n:=cJ) (by decide) Y Y (.inl u) (.cells ((eC ws ch i).toArray.toList.take (0+i*1)++(Value.chan (I f)).cells.toList++(eC ws ch i).toArray.toList.drop (0+i*1+(Value.chan (I f)).cells.size)).toArray 134) trivial (iy (n:=cJ) (off:=0+i*1) (v:=.chan (I f)) Y (b.of Y) (b.of Y) J5 (λbo Q=>by simp[WV] at Q;rw[Q];rfl) (ZD (Or.inl u)) ((hrel.at_ cJ (.inr u)).trans aw) (by
  show 0+i*1+1<=(eC ws ch i).length;rw[dL];omega)) λT v=>?_
 rw[X] at v;replace b:=b.none V9;have A:=P.set v H J M;refine aj c ?_;have ao:T.heap[f]? =I (.chan N #[] U5 0 0 U5):=(v.at_ f (.inr (.inr Y)) L).trans al;have a7:μ f=K:=by
  cases a2:μ f with
  |none=>rfl
  |some bm=>
   obtain⟨d,_,z,m,y⟩:=l.no f (by rw[a2];simp);have:=l.lt d z m;omega
 have bk:=v.size;refine go_region (c:=f) (l0:=[(16,.int .i64 (i:Int)),(15,.int .i64 (ws.length:Int)),(2,.slice (I ⟨wb,0,K⟩) ws.length iS)]) r t ((((((((b.nil.cons (b.slot 2 _ Y)).cons (b.slot 15 _ Y)).cons (b.slot 16 _ Y)).cons (b.slot 3 _ Y)).cons (b.slot 4 _ Y)).cons (b.slot 8 _ Y)).cons (b.slot 9 _ Y))) A (.inl u) (.inr Y) ?_ a7 ao λa' g au=>?_
 ·unfold Ve;rw[v.set];simp only[VV,Ze];have:=mR (ws:=ws) (ch:=λd=>if d=i then f else ch d) (i:=i+1) D;simp[t] at this;simpa using this
 ·have c:=dN (ax U1) U1 Post S (fV μ f (I ((V i).map aC.agg)));refine gM c ?_;refine bg c [0,1] Y ?_;refine dw c g Y (.int .i64 ((i+1:Nat):Int)) (n9 (j:=1) Y (g.of Y) Y (by omega)) λg=>?_;refine bX c g λg=>?_;refine aj c ?_;refine kZ c ?_;refine a1 _ T _ (λd=>if d=i then f else ch d) _ ⟨(((((g.nil.cons (g.slot 2 _ Y)).cons (g.slot 3 _ Y)).cons (g.slot 4 _ Y)).cons (g.slot 8 _ Y)).cons (g.slot 15 _ Y)).cons (g.slot 16 _ Y),by simp only[put_defers];rw[au];simp only[put_defers];exact ar,?_,⟨.inl u,λe=>L e.symm⟩,M,H,J,v.set,⟨λd aa z m=>?_,λG C=>?_,λd E z be m R y=>?_,λd z m=>?_⟩⟩
  ·have a8:=j.inr bb (.inr j.ob);have a9:=j.inr fb (.inr j.of);have ba:=j.I2.size;exact A.rel (λp o _ _=>rfl) (λp o=>rfl) (U7 _) rfl rfl rfl (λp o=>A.inr p (o.imp (λh=>h) (λh=>h.1))) (λp o h=>⟨o,by rcases h with h|rfl|rfl<;>omega⟩) (λp o a5=>A.rV p o a5.1)
  ·by_cases e:d=i
   ·subst e;simp[fV]
   ·have:=l.lt d (by omega) m;have a4:ch d≠f:=by omega
    simp only[if_neg e,fV,a4,if_false];exact l.mu d aa (by omega) m
  ·by_cases e:G=f
   ·subst e;exact⟨i,VB _,by omega,t,by simp⟩
   ·unfold fV at C;rw[if_neg e] at C;obtain⟨d,ab,bc,ad,ae⟩:=l.no G C;exact⟨d,ab,by omega,ad,by rw[if_neg (by omega)];exact ae⟩
  ·by_cases q:d=i<;>by_cases B:E=i
   ·omega
   ·rw[if_pos q,if_neg B] at y;have:=l.lt E (by omega) R;omega
   ·rw[if_neg q,if_pos B] at y;have:=l.lt d (by omega) m;omega
   ·rw[if_neg q,if_neg B] at y;exact l.inj d E (by omega) (by omega) m R y
  ·by_cases q:d=i
   ·rw[if_pos q];omega
   ·rw[if_neg q];have:=l.lt d (by omega) m;omega
end
def eW (ws:List Bool)(g:Nat->Nat)(V:Nat->List aC)(N:Nat)(i:Nat):List U:=(VS ws.length).map λa=>if a<i/\ws[a]? =I Z then .slice (I ⟨g a,0,K⟩) (V a).length N else aM
def dP(ws:List Bool)(g:Nat->Nat)(V:Nat->List aC)(N:Nat)(i:Nat):(eW ws g V N i).length=ws.length:=by simp[eW]
def mX{ws:List Bool}{g:Nat->Nat}{V:Nat->List aC}{N:Nat}{i j:Nat}(a:j<ws.length):(eW ws g V N i)[j]? =I (if j<i/\ws[j]? =I Z then .slice (I ⟨g j,0,K⟩) (V j).length N else aM):=by
 simp[eW,a]
section
variable {ws:List Bool}{g:Nat->Nat}{V:Nat->List aC}{N i:Nat}
def CI(h:ws[i]? ≠I Z):eW ws g V N (i+1)=eW ws g V N i:=by
 unfold eW;refine List.map_congr_left λa e=>?_;by_cases c:a=i
 ·subst c;simp[h]
 ·have:(a<i+1/\ws[a]? =I Z)↔(a<i/\ws[a]? =I Z):=by
   constructor
   ·rintro⟨d,b⟩;exact⟨by omega,b⟩
   ·rintro⟨d,b⟩;exact⟨by omega,b⟩
  simp only[this]
def EI(h:ws[i]? =I Z)(c:Nat):(eW ws g V N i).take i++[VR (I ⟨c,0,K⟩) (V i).length N]++(eW ws g V N i).drop (i+1)=eW ws (λj=>if j=i then c else g j) V N (i+1):=by
 have l:i<ws.length:=(Vs.1 h).1;apply List.ext_getElem?;intro j;rcases WG j ws.length with a|a
 ·rw[mX a];rcases Nat.lt_trichotomy j i with b|b|b
  ·rw[Vu,Wx (by simp[dP];omega),Xg,if_pos b,mX a];have e:(j<i+1/\ws[j]? =I Z)↔(j<i/\ws[j]? =I Z):=⟨λh=>⟨b,h.2⟩,λh=>⟨by omega,h.2⟩⟩;have d:¬j=i:=by omega
   simp only[e,d,if_false]
  ·subst b;rw[Vu,Wb (by simp[dP];omega)];simp[dP,h,Nat.min_eq_left (Nat.le_of_lt a)]
  ·rw[Wb (by simp[dP];omega)];have f:i+1+(j-(min i ws.length+1))=j:=by omega
   simp only[U8,WB,dP,WS,Y1,List.getElem?_drop,f,mX a];have d:¬(j<i):=by omega
   have k:¬(j<i+1):=by omega
   simp only[d,k,false_and,if_false]
 ·rw[XK (by simp[dP];omega),XK (by rw[dP];exact a)]
end
def nM (fn:XJ):XQ:=match gV fn with
 | .seq _ (.seq _ (.seq (.seq _ (.block _ (.loop a))) _))=>a
 |_=>.skip
def GP (fn:XJ):XQ:=match gV fn with
 | .seq _ (.seq _ (.seq _ a))=>a
 |_=>.skip
def gz (fn:XJ):Array Ww:=match nM fn with
 | .seq _ (.seq _ (.seq (.block _ (.seq _ (.seq _ (.cond _ (.seq (.region _ a _) _) _)))) _))=>a
 |_=> #[]
def yU (fn:XJ):Array Ww:=match nM fn with
 | .seq _ (.seq _ (.seq (.block _ (.seq _ (.seq _ (.cond _ (.seq _ (.region _ a _)) _)))) _))=>a
 |_=> #[]
def MC:List Nat:=[49,50,51,52,53,54,55,56]
def Be (lb cJ bb i c N m:Nat):List (Nat×U):=[(49,.slice (I ⟨lb,0,K⟩) m m),(50,.int .i64 (i:Int)),(51,.slice (I ⟨cJ,0,K⟩) m m),(52,.int .i64 (i:Int)),(53,.pointer (I ⟨cJ,0+i*1,K⟩)),(54,.chan (I c)),(55,(aP bb)),(56,.int .i64 (N:Int))]
def D6 (lb gn len i N:Nat):List (Nat×U):=[(57,.slice (I ⟨gn,0,K⟩) len N),(58,.pointer (I ⟨lb,0+i*1,K⟩))]
def Bf:gF (gz VZ) (λi=>decide (i<8)) 8 73 MC=Z:=by kernel_rfl
def Bg:gF (gz VZ) (λi=>decide (i<10)) 10 73 ([57,58]++MC)=Z:=by kernel_rfl
def MD:((VS (gz VZ).size).all λi=> !(λi=>decide (i<8)) i||match je (gz VZ) i with|some d=> !([57,58]:List Nat).contains d|none=>Z)=Z:=by kernel_rfl
def Gz:((VS (gz VZ).size).all λi=> !(λi=>decide (2<=i/\i<=8)) i||i==8||(under (gz VZ) (gz VZ).size (match (gz VZ)[8]? with
 |some o=>(o.after.toList.filter λe=>Wn .any e).map (·.on)
 |none=>[])).contains i)=Z:=by kernel_rfl
def GA:((VS (gz VZ).size).all λi=> !(λi=>decide (i<=10)) i||i==10||(under (gz VZ) 3 (match (gz VZ)[10]? with
 |some o=>(o.after.toList.filter λe=>Wn .any e).map (·.on)
 |none=>[])).contains i)=Z:=by kernel_rfl
def LZ:(Zc.name == "runtime.NumGoroutine")=U5:=by kernel_rfl
def KG:(U1.info? 55).map (·.size)=I 1:=by kernel_rfl
section
variable {S O:Nat->Prop}{w0 w w':F}{s:Nat->ByteArray}{k e:Nat->Int}{N cb n cap kb nk ck eb ne ce wb iS:Nat}{x:U}{ws:List Bool}{V:Nat->List aC}{ch:Nat->Nat}{bb fb cJ lb i:Nat}{μ:Nat->Option (List U)}{a:Xa}{Post:U->F->Prop}{cs:List Vg}{kk:List XR}
def rU.TF(h:rU S O w0 w N cb n cap kb nk ck eb ne ce x bb fb){f:Nat->Prop}(c:Mf S O f w w'):rU S f w0 w' N cb n cap kb nk ck eb ne ce x bb fb:=
 h.rel (λb d _ _=>c.rel.at_ b d) (λb d=>c.rel.at_ b (h.low b d)) c.rel.size c.rel.tape c.rel.os c.rel.output c.inr (λb d _=>c.sub b d) (λb d g=>(c.new b g).elim (h.rV b d) (λe=>by have:=h.inr b (.inl d);omega))
def D7{c gn:Nat}{l0:List (Nat×U)}{f:Array U}(M:i<ws.length)
 (p:Knows a 73 ((10,.int .i64 (i:Int))::(8,.slice (I ⟨cJ,0,K⟩) ws.length ws.length)::(6,.slice (I ⟨lb,0,K⟩) ws.length ws.length)::(3,(aP bb))::l0))
 (H:uw S O w) (z:O lb) (L:w.heap[lb]? =I (.cells f 55 (0,0))) (G:f.size=ws.length) (len:Nat)
 (m t:Nat) (j:Array Bool) (b:Xa) (o:cI (gz VZ) (λi=>decide (i<10)) a (fill a (D6 lb gn len i N++Be lb cJ bb i c N ws.length)) j b) (u:∀i,(λi=>decide (2<=i/\i<=8)) i=Z->j.getD i U5=Z) (y:FW j<=m)
 (J:∀w' a',Au S O lb (.cells (f.toList.take i++[VR (I ⟨gn,0,K⟩) len N]++f.toList.drop (i+1)).toArray 55) w w'->Knows a' 73 (D6 lb gn len i N++Be lb cJ bb i c N ws.length++((10,.int .i64 (i:Int))::(8,.slice (I ⟨cJ,0,K⟩) ws.length ws.length)::(6,.slice (I ⟨lb,0,K⟩) ws.length ws.length)::(3,(aP bb))::l0))->a'.defers=a.defers->
   ku (ax U1) U1 Post S O μ (Vd ((base 39).at a' kk) cs) w'):
 ku (ax U1) U1 Post S O μ (Vd ((base 39).at b (.inRegion (gz VZ) (V5 .any (gz VZ) m t j [])::kk)) cs) w:=by
 have q:=dN (ax U1) U1 Post S μ;refine kO (Dn:=λi=>decide (2<=i/\i<=8)) (u:=10) q (by decide) p Bg ?_ ?_ ?_ m t j b o u y
 ·intro g d l P u W h;have R:d<10:=by simpa using P
  have T:¬(2<=d/\d<=8):=by simpa using u
  have:d=0\/d=1\/d=9:=by omega
  rcases this with rfl|rfl|rfl
  ·cases(show I _=I l from h);exact⟨_,rfl,.inl ⟨rfl,cq (bZ Y (g.of Y))⟩⟩
  ·cases(show I _=I l from h);exact⟨_,rfl,.inl ⟨rfl,cq (bZ Y (g.of Y))⟩⟩
  ·cases(show I _=I l from h);exact⟨_,rfl,.inl ⟨rfl,cq (fq Y (g.of Y) (g.of Y) Tryz.underlying27 Tryz.sizeOf55 M)⟩⟩
 ·intro l h m t j b o A y X _;have g:=p.fill (D6 lb gn len i N++Be lb cJ bb i c N ws.length) Y;have r:=gG (Dn:=λi=>decide (i<=10)) o A GA (λd v=>by
   have:d<=10:=by simpa using v
   show d<11;omega)
  cases(show I _=I l from h);obtain⟨E,F⟩:=oH o A rfl p.size Bg (λd v=>r d (by
   have:d<11:=v;simp;omega))
  rw[F];subst E;refine nY q H (n:=lb) (by decide) h Y z (.cells (f.toList.take (0+i*1)++(VR (I ⟨gn,0,K⟩) len N).cells.toList++f.toList.drop (0+i*1+(VR (I ⟨gn,0,K⟩) len N).cells.size)).toArray 55) trivial (iy (n:=lb) (off:=0+i*1) (v:=.slice (I ⟨gn,0,K⟩) len N) Y (g.of Y) (g.of Y) KG (λaa C=>by simp[WV] at C;rw[C];rfl) (ZD z) L (by
   show 0+i*1+1<=f.size;rw[G];omega)) λQ B=>?_
  refine aj q (J Q _ ?_ (g.none V9) (by rw[put_defers];exact ep _ _));have D:f.toList.take (0+i*1)++(VR (I ⟨gn,0,K⟩) len N).cells.toList++f.toList.drop (0+i*1+(VR (I ⟨gn,0,K⟩) len N).cells.size)=f.toList.take i++[VR (I ⟨gn,0,K⟩) len N]++f.toList.drop (i+1):=by simp[WV]
  rw[D] at B;exact B
 ·intro r;exact absurd (r 10 (by decide)) (by decide)
def D8{c:Nat}{l0:List (Nat×U)}{o:Array U}(z:Gf S w0 s k e N cb n kb nk eb ne wb ws V)(A:ws[i]? =I Z)
 (m:Knows a 73 ((10,.int .i64 (i:Int))::(8,.slice (I ⟨cJ,0,K⟩) ws.length ws.length)::(6,.slice (I ⟨lb,0,K⟩) ws.length ws.length)::(3,(aP bb))::l0))
 (v:rU S O w0 w N cb n cap kb nk ck eb ne ce x bb fb) (am:O cJ) (P:cD w cJ (0+i*1) (.chan (I c))) (a0:μ c=I ((V i).map aC.agg)) (D:O lb) (al:w.heap[lb]? =I (.cells o 55 (0,0))) (Q:o.size=ws.length)
 (ad:∀j l w' gn a',w.heap.size<=gn->Row l gn N (V i)->j gn->Mf S O j w l->Au S j lb (.cells (o.toList.take i++[VR (I ⟨gn,0,K⟩) (V i).length N]++o.toList.drop (i+1)).toArray 55) l w'->Knows a' 73 (D6 lb gn (V i).length i N++Be lb cJ bb i c N ws.length++((10,.int .i64 (i:Int))::(8,.slice (I ⟨cJ,0,K⟩) ws.length ws.length)::(6,.slice (I ⟨lb,0,K⟩) ws.length ws.length)::(3,(aP bb))::l0))->a'.defers=a.defers->
   ku (ax U1) U1 Post S j (fV μ c K) (Vd ((base 39).at a' kk) cs) w'):
 ku (ax U1) U1 Post S O μ (Vd ((base 39).at a (.code (.region 15 (gz VZ) Z)::kk)) cs) w:=by
 have t:=dN (ax U1) U1 Post S μ;have C:i<ws.length:=(Vs.1 A).1;obtain⟨_,_,au⟩:=z.sin i A;refine q9 (Ph:=λi=>decide (i<8)) (l:=Be lb cJ bb i c N ws.length) t rS ?_;refine kO (u:=8) t (by decide) m Bf ?_ ?_ ?_
 ·intro f b g ao _ _ d;have q:b<8:=by simpa using ao
  have:b=0\/b=1\/b=2\/b=3\/b=4\/b=5\/b=6\/b=7:=by omega
  rcases this with rfl|rfl|rfl|rfl|rfl|rfl|rfl|rfl
  ·cases(show I _=I g from d);exact⟨_,rfl,.inl ⟨rfl,cq (bZ Y (f.of Y))⟩⟩
  ·cases(show I _=I g from d);exact⟨_,rfl,.inl ⟨rfl,cq (bZ Y (f.of Y))⟩⟩
  ·cases(show I _=I g from d);exact⟨_,rfl,.inl ⟨rfl,cq (bZ Y (f.of Y))⟩⟩
  ·cases(show I _=I g from d);exact⟨_,rfl,.inl ⟨rfl,cq (bZ Y (f.of Y))⟩⟩
  ·cases(show I _=I g from d);exact⟨_,rfl,.inl ⟨rfl,cq (fq Y (f.of Y) (f.of Y) Tryz.underlying133 Tryz.sizeOf134 C)⟩⟩
  ·cases(show I _=I g from d);exact⟨_,rfl,.inl ⟨rfl,bP Y (f.of Y) Tryz.isAgg134 (.inr am) P⟩⟩
  ·cases(show I _=I g from d);exact⟨_,rfl,.inl ⟨rfl,cq (de (off':=0) Y (f.of Y) Xp Y Y5 Y)⟩⟩
  ·cases(show I _=I g from d);exact⟨_,rfl,.inl ⟨rfl,bP Y (f.of Y) Zt (.inr v.ob) (by unfold Ve;simp only[v.hb];rfl)⟩⟩
 ·intro g d H a1 a4 r u y a3 B _;have f:=m.fill (Be lb cJ bb i c N ws.length) Y;have W:=gG (Dn:=λi=>decide (2<=i/\i<=8)) u y Gz (λb q=>by
   have:2<=b/\b<=8:=by simpa using q
   show b<11;omega)
  cases(show I _=I g from d);have F:r.eval (.tmp 54)= .chan (I c):=(B 54 (by decide)).trans (f.slot 54 _ Y);have G:r.eval (.tmp 56)= .int .i64 (N:Int):=(B 56 (by decide)).trans (f.slot 56 _ Y);refine I3 t (by decide) d Y Y Tryz.func61 LZ Y ?_;have M:(#[Operand.tmp 54,.tmp 56].map r.eval)=#[.chan (I c),.int .i64 (N:Int)]:=by simp only[List.map_toArray,Yy,List.map_nil,F,G]
  rw[M];refine MI (r:=V i) d v.inr a0 ?_ z.nn λj l gn aa ar J p=>?_
  ·rcases au.len with h|h
   ·omega
   ·rw[h];exact VB _
  ·have X:=u.Jc (l2:=D6 lb gn (V i).length i N) (L4:=λi=>decide (i<10)) (n:=73) (v:=.slice (I ⟨gn,0,K⟩) (V i).length N) y d m.size Bf Y (λb q=>by
    have:b<8:=by simpa using q
    simp;omega) Y MD (λa2 R=>by cases R;rfl)
   refine D7 (gn:=gn) (len:=(V i).length) (c:=c) C m p.inr (p.sub lb D) ((p.rel.at_ lb (.inr D)).trans al) Q H a1 _ _ X W ?_ λw' a' aw E T=>ad j l w' gn a' aa ar J p aw E T;obtain⟨_,_,ab,ae,_⟩:=mem_ready y;have:=rQ (by rw[u.size];exact ab) ae;omega
 ·intro L;exact absurd (L 10 (by decide)) (by decide)
end
def Sk:List Nat:=[59,60,61,62,63,64,65,66,67,68,69]
def T8 (lb bb gn i len N m:Nat):List (Nat×U):=[(59,.bool Z),(60,.bool Z),(61,.slice (I ⟨lb,0,K⟩) m m),(62,.int .i64 (i:Int)),(63,.pointer (I ⟨lb,0+i*1,K⟩)),(64,.slice (I ⟨gn,0,K⟩) len N),(65,.int .i64 (len:Int)),(66,(aP bb)),(67,.int .i64 (N:Int)),(68,.bool ((len:Int)==(N:Int))),(69,.bool ((len:Int)==(N:Int)))]
def okF:List (Nat×U):=[(59,.bool U5),(60,.bool U5),(61,V9),(62,V9),(63,V9),(64,V9),(65,V9),(66,V9),(67,V9),(68,V9),(69,.bool U5)]
def xF:gF (yU VZ) (λi=>decide (i<11)) 11 73 Sk=Z:=by kernel_rfl
def EQ:((VS (yU VZ).size).all λi=> !(λi=>decide (i<=11)) i||i==11||(under (yU VZ) 1 (match (yU VZ)[11]? with
 |some o=>(o.after.toList.filter λe=>Wn .any e).map (·.on)
 |none=>[])).contains i)=Z:=by kernel_rfl
section
variable {S O:Nat->Prop}{w0 w w':F}{s:Nat->ByteArray}{k e:Nat->Int}{N cb n cap kb nk ck eb ne ce wb iS:Nat}{x:U}{ws:List Bool}{V:Nat->List aC}{ch g:Nat->Nat}{bb fb cJ lb i gn len:Nat}{μ:Nat->Option (List U)}{a:Xa}{Post:U->F->Prop}{cs:List Vg}{kk:List XR}{lN:Bool}
def ET{l0:List (Nat×U)}(F:i<ws.length)
 (o:Knows a 73 ((7,.bool lN)::(10,.int .i64 (i:Int))::(6,.slice (I ⟨lb,0,K⟩) ws.length ws.length)::(3,(aP bb))::l0)) (P:uw S O w) (J:O lb) (H:O bb) (C:w.cell? ⟨lb,0+i*1,K⟩=I (.slice (I ⟨gn,0,K⟩) len N)) (D:w.cell? ⟨bb,0,K⟩=I (.int .i64 (N:Int)))
 (y:∀a' z,Knows a' 73 ((7,.bool (lN&&((len:Int)==(N:Int))))::(z++((7,.bool lN)::(10,.int .i64 (i:Int))::(6,.slice (I ⟨lb,0,K⟩) ws.length ws.length)::(3,(aP bb))::l0)))->z.map (·.1)=Sk->a'.defers=a.defers->
   ku (ax U1) U1 Post S O μ (Vd ((base 39).at a' kk) cs) w):
 ku (ax U1) U1 Post S O μ (Vd ((base 39).at a (.code (.region 16 (yU VZ) Z)::kk)) cs) w:=by
 have l:=dN (ax U1) U1 Post S μ;cases lN with
 |true=>
  refine q9 (Ph:=λi=>decide (i<11)) (l:=T8 lb bb gn i len N ws.length) l rS ?_;refine kO (u:=11) l (by decide) o xF ?_ ?_ ?_
  ·intro f b c v _ _ d;have j:b<11:=by simpa using v
   have h:∀c:Ww,c.guard=I (1,Z)->VA c (yielded (yU VZ) (fill a (T8 lb bb gn i len N ws.length)).tmps)=Z:=λc u=>pO (d:=60) (b:=Z) u Y (f.slot 60 _ Y) (by rw[f.size];decide);have:b=0\/b=1\/b=2\/b=3\/b=4\/b=5\/b=6\/b=7\/b=8\/b=9\/b=10:=by omega
   rcases this with rfl|rfl|rfl|rfl|rfl|rfl|rfl|rfl|rfl|rfl|rfl
   ·cases(show I _=I c from d);exact⟨_,rfl,.inl ⟨rfl,cq (bZ Y (f.of Y))⟩⟩
   ·cases(show I _=I c from d);exact⟨_,rfl,.inl ⟨rfl,cq (bZ Y (f.of Y))⟩⟩
   ·cases(show I _=I c from d);exact⟨_,rfl,.inl ⟨h _ Y,cq (bZ Y (f.of Y))⟩⟩
   ·cases(show I _=I c from d);exact⟨_,rfl,.inl ⟨h _ Y,cq (bZ Y (f.of Y))⟩⟩
   ·cases(show I _=I c from d);exact⟨_,rfl,.inl ⟨h _ Y,cq (fq Y (f.of Y) (f.of Y) Tryz.underlying27 Tryz.sizeOf55 F)⟩⟩
   ·cases(show I _=I c from d);exact⟨_,rfl,.inl ⟨h _ Y,bP Y (f.of Y) Tryz.isAgg55 (.inr J) C⟩⟩
   ·cases(show I _=I c from d);exact⟨_,rfl,.inl ⟨h _ Y,cq (sV Y (f.of Y) YG)⟩⟩
   ·cases(show I _=I c from d);exact⟨_,rfl,.inl ⟨h _ Y,cq (de (off':=0) Y (f.of Y) Xp Y Y5 Y)⟩⟩
   ·cases(show I _=I c from d);exact⟨_,rfl,.inl ⟨h _ Y,bP Y (f.of Y) Zt (.inr H) D⟩⟩
   ·cases(show I _=I c from d);exact⟨_,rfl,.inl ⟨h _ Y,cq (So Y (f.of Y) (f.of Y))⟩⟩
   ·cases(show I _=I c from d);exact⟨_,rfl,.inl ⟨rfl,cq (yZ Y (f.of Y) (f.of Y))⟩⟩
  ·intro c d B M L A p q G E _;have f:=o.fill (T8 lb bb gn i len N ws.length) Y;have m:=gG (Dn:=λi=>decide (i<=11)) p q EQ (λb j=>by
    have:b<=11:=by simpa using j
    show b<12;omega)
   cases(show I _=I c from d);obtain⟨r,t⟩:=oH p q rfl o.size xF (λb j=>m b (by
    have:b<12:=j;simp;omega))
   rw[t];subst r;refine mP l (by decide) d Y _ (kH Y (f.of Y)) ?_;refine aj l (y _ (T8 lb bb gn i len N ws.length) ?_ Y (by rw[put_defers];exact ep _ _));exact f.put (d:=7) (by decide) (.bool ((len:Int)==(N:Int)))
  ·intro m;exact absurd (m 11 (by decide)) (by decide)
 |false=>
  refine q9 (Ph:=λi=>decide (i<11)) (l:=okF) l rS ?_;refine kO (u:=11) l (by decide) o xF ?_ ?_ ?_
  ·intro f b c v _ _ d;have j:b<11:=by simpa using v
   have h:∀c:Ww,c.guard=I (1,Z)->VA c (yielded (yU VZ) (fill a okF).tmps)=U5:=λc u=>pO (d:=60) (b:=U5) u Y (f.slot 60 _ Y) (by rw[f.size];decide);have:b=0\/b=1\/b=2\/b=3\/b=4\/b=5\/b=6\/b=7\/b=8\/b=9\/b=10:=by omega
   rcases this with rfl|rfl|rfl|rfl|rfl|rfl|rfl|rfl|rfl|rfl|rfl
   ·cases(show I _=I c from d);exact⟨_,rfl,.inl ⟨rfl,cq (bZ Y (f.of Y))⟩⟩
   ·cases(show I _=I c from d);exact⟨_,rfl,.inl ⟨rfl,cq (bZ Y (f.of Y))⟩⟩
   ·cases(show I _=I c from d);exact⟨_,rfl,.inr ⟨h _ Y,rfl⟩⟩
   ·cases(show I _=I c from d);exact⟨_,rfl,.inr ⟨h _ Y,rfl⟩⟩
   ·cases(show I _=I c from d);exact⟨_,rfl,.inr ⟨h _ Y,rfl⟩⟩
   ·cases(show I _=I c from d);exact⟨_,rfl,.inr ⟨h _ Y,rfl⟩⟩
   ·cases(show I _=I c from d);exact⟨_,rfl,.inr ⟨h _ Y,rfl⟩⟩
   ·cases(show I _=I c from d);exact⟨_,rfl,.inr ⟨h _ Y,rfl⟩⟩
   ·cases(show I _=I c from d);exact⟨_,rfl,.inr ⟨h _ Y,rfl⟩⟩
   ·cases(show I _=I c from d);exact⟨_,rfl,.inr ⟨h _ Y,rfl⟩⟩
   ·cases(show I _=I c from d);exact⟨_,rfl,.inl ⟨rfl,cq (yY Y (f.of Y) Y)⟩⟩
  ·intro c d B M L A p q G E _;have f:=o.fill okF Y;have m:=gG (Dn:=λi=>decide (i<=11)) p q EQ (λb j=>by
    have:b<=11:=by simpa using j
    show b<12;omega)
   cases(show I _=I c from d);obtain⟨r,t⟩:=oH p q rfl o.size xF (λb j=>m b (by
    have:b<12:=j;simp;omega))
   rw[t];subst r;refine mP l (by decide) d Y _ (kH Y (f.of Y)) ?_;refine aj l (y _ okF ?_ Y (by rw[put_defers];exact ep _ _));exact f.put (d:=7) (by decide) (.bool U5)
  ·intro m;exact absurd (m 11 (by decide)) (by decide)
end
structure Aq(S O:Nat->Prop)(w0 w:F)(N cb n cap kb nk ck eb ne ce:Nat)(x:U)(wb iS:Nat)(ws:List Bool)(V:Nat->List aC)(ch g:Nat->Nat)(bb fb cJ lb i:Nat)(lN:Bool)(μ:Nat->Option (List U))(a:Xa):Prop where
 kn:Knows a 73 [(42,.int .i64 (i:Int)),(41,.int .i64 (ws.length:Int)),(8,.slice (I ⟨cJ,0,K⟩) ws.length ws.length),(7,.bool lN),(6,.slice (I ⟨lb,0,K⟩) ws.length ws.length),(3,(aP bb)),(2,.slice (I ⟨wb,0,K⟩) ws.length iS)]
 df:a.defers=[]
 own:rU S O w0 w N cb n cap kb nk ck eb ne ce x bb fb
 oc:O cJ
 hc:w.heap[cJ]? =I (.cells (eC ws ch ws.length).toArray 134 (0,0))
 ol:O lb
 ll:w0.heap.size<=lb
 nb:lb≠bb
 nf:lb≠fb
 nc:lb≠cJ
 hl:w.heap[lb]? =I (.cells (eW ws g V N i).toArray 55 (0,0))
 rows:∀j,j<i->ws[j]? =I Z->Row w (g j) N (V j)/\O (g j)/\g j≠lb/\w0.heap.size<=g j
 UH:Tf O w ws V ch i ws.length μ
 ok:lN=Z↔∀j,j<i->ws[j]? =I Z->(V j).length=N
section
variable {S O:Nat->Prop}{w0 w w':F}{s:Nat->ByteArray}{k e:Nat->Int}{N cb n cap kb nk ck eb ne ce wb iS:Nat}{x:U}{ws:List Bool}{V:Nat->List aC}{ch g:Nat->Nat}{bb fb cJ lb i:Nat}{μ:Nat->Option (List U)}{a:Xa}{Post:U->F->Prop}{cs:List Vg}{lN:Bool}
def LL(l:Gf S w0 s k e N cb n kb nk eb ne wb ws V)(h:Aq S O w0 w N cb n cap kb nk ck eb ne ce x wb iS ws V ch g bb fb cJ lb i lN μ a)(p:ws[i]? =I U5)
 (E:∀a',Aq S O w0 w N cb n cap kb nk ck eb ne ce x wb iS ws V ch g bb fb cJ lb (i+1) lN μ a'->ku (ax U1) U1 Post S O μ (Vd ((base 39).at a' [.code (nM VZ),.inLoop (nM VZ),.inBlock 2,.code (GP VZ)]) cs) w):
 ku (ax U1) U1 Post S O μ (Vd ((base 39).at a [.code (nM VZ),.inLoop (nM VZ),.inBlock 2,.code (GP VZ)]) cs) w:=by
 obtain⟨b,B,r,L,C,P,F,G,J,H,D,Q,m,M⟩:=h;have c:=dN (ax U1) U1 Post S μ;have o:i<ws.length:=(Vs.1 p).1;have T:=l.mm;refine aJ c ?_;refine bg c [0] Y ?_;refine dw c b Y (.bool Z) (jn Y (b.of Y) (b.of Y) (by simp;omega)) λb=>?_;refine aj c ?_;refine aJ c ?_;refine cY c Z (b.of Y) ?_;refine gS c ?_;refine aJ c ?_;refine fO c ?_;refine aJ c ?_;refine bg c [0,1] Y ?_;refine bX c b λb=>?_;refine gw c b λb=>?_;refine aj c ?_;refine aJ c ?_;refine bg c [0,1,2,3] Y ?_;refine bX c b λb=>?_;refine bX c b λb=>?_;refine dw c b Y (.pointer (I ⟨wb,0+i*1,K⟩)) (fq Y (b.of Y) (b.of Y) XT Tryz.sizeOf4 o) λb=>?_;refine qd c b Y (.bool U5) (bP Y (b.of Y) Tryz.isAgg4 (r.low wb l.wl) ((r.I2.cell (p:=⟨wb,0+i*1,K⟩) l.wl).trans (l.wc i _ p))) λb=>?_;refine aj c ?_;refine cY c U5 (b.of Y) ?_;refine gS c ?_;refine gM c ?_;refine bg c [0,1] Y ?_;refine dw c b Y (.int .i64 ((i+1:Nat):Int)) (n9 (j:=1) Y (b.of Y) Y (by omega)) λb=>?_;refine bX c b λb=>?_;refine aj c ?_;refine kZ c ?_;have v:ws[i]? ≠I Z:=by rw[p];simp
 have q:∀d,ws[d]? =I Z->d≠i:=λd j e=>v (e▸j);refine E _ ⟨((((((b.nil.cons (b.slot 2 _ Y)).cons (b.slot 3 _ Y)).cons (b.slot 6 _ Y)).cons (b.slot 7 _ Y)).cons (b.slot 8 _ Y)).cons (b.slot 41 _ Y)).cons (b.slot 42 _ Y),by simp only[put_defers];exact B,r,L,C,P,F,G,J,H,by rw[CI v];exact D,λd o j=>Q d (by have:=q d j;omega) j,⟨λd R o j=>m.mu d (by omega) o j,λy A=>?_,m.inj,m.lt⟩,?_⟩
 ·obtain⟨d,t,f,u,z⟩:=m.no y A;exact⟨d,by have:=q d u;omega,f,u,z⟩
 ·rw[M];constructor
  ·intro h d t f;exact h d (by have:=q d f;omega) f
  ·intro h d t f;exact h d (by omega) f
def IB(B:Gf S w0 s k e N cb n kb nk eb ne wb ws V)(h:Aq S O w0 w N cb n cap kb nk ck eb ne ce x wb iS ws V ch g bb fb cJ lb i lN μ a)(o:ws[i]? =I Z)
 (a8:∀D w' a' g' bl au,Aq S D w0 w' N cb n cap kb nk ck eb ne ce x wb iS ws V ch g' bb fb cJ lb (i+1) bl au a'->ku (ax U1) U1 Post S D au (Vd ((base 39).at a' [.code (nM VZ),.inLoop (nM VZ),.inBlock 2,.code (GP VZ)]) cs) w'):
 ku (ax U1) U1 Post S O μ (Vd ((base 39).at a [.code (nM VZ),.inLoop (nM VZ),.inBlock 2,.code (GP VZ)]) cs) w:=by
 obtain⟨b,a4,z,F,W,G,aa,ab,ae,ad,a7,be,v,ba⟩:=h;have c:=dN (ax U1) U1 Post S μ;have t:i<ws.length:=(Vs.1 o).1;have bu:=B.mm;refine aJ c ?_;refine bg c [0] Y ?_;refine dw c b Y (.bool Z) (jn Y (b.of Y) (b.of Y) (by simp;omega)) λb=>?_;refine aj c ?_;refine aJ c ?_;refine cY c Z (b.of Y) ?_;refine gS c ?_;refine aJ c ?_;refine fO c ?_;refine aJ c ?_;refine bg c [0,1] Y ?_;refine bX c b λb=>?_;refine gw c b λb=>?_;refine aj c ?_;refine aJ c ?_;refine bg c [0,1,2,3] Y ?_;refine bX c b λb=>?_;refine bX c b λb=>?_;refine dw c b Y (.pointer (I ⟨wb,0+i*1,K⟩)) (fq Y (b.of Y) (b.of Y) XT Tryz.sizeOf4 t) λb=>?_;refine qd c b Y (.bool Z) (bP Y (b.of Y) Tryz.isAgg4 (z.low wb B.wl) ((z.I2.cell (p:=⟨wb,0+i*1,K⟩) B.wl).trans (B.wc i _ o))) λb=>?_;refine aj c ?_;refine cY c Z (b.of Y) ?_;refine aJ c ?_;have bk:=v.mu i (U7 _) t o;have a3:w.cell? ⟨cJ,0+i*1,K⟩=I (.chan (I (ch i))):=by
  unfold Ve;simp only[W,VV,Ze];have:=mR (ws:=ws) (ch:=ch) (i:=ws.length) t;rw[if_pos ⟨t,o⟩] at this;simpa using this
 refine D8 (c:=ch i) (l0:=[(42,.int .i64 (i:Int)),(41,.int .i64 (ws.length:Int)),(7,.bool lN),(2,.slice (I ⟨wb,0,K⟩) ws.length iS)]) B o ((((((((b.nil.cons (b.slot 2 _ Y)).cons (b.slot 7 _ Y)).cons (b.slot 41 _ Y)).cons (b.slot 42 _ Y)).cons (b.slot 3 _ Y)).cons (b.slot 6 _ Y)).cons (b.slot 8 _ Y)).cons (b.slot 10 _ Y)) z F a3 bk G a7 (by simp[dP]) λD bv ar q a' bs bd T j u m a5=>?_;have c:=dN (ax U1) U1 Post S (fV μ (ch i) K);have bc:=z.TF j;have H:=bc.set u ab ae aa;have bt:=z.inr lb (.inr G);have a0:(eW ws g V N i).toArray.toList.take i++[VR (I ⟨q,0,K⟩) (V i).length N]++(eW ws g V N i).toArray.toList.drop (i+1)=eW ws (λd=>if d=i then q else g d) V N (i+1):=by
  rw[<-EI o q]
 rw[a0] at u;have X:=u.set;have a2:ar.cell? ⟨lb,0+i*1,K⟩=I (.slice (I ⟨q,0,K⟩) (V i).length N):=by
  unfold Ve;simp only[X,VV,Ze];have:=mX (ws:=ws) (g:=λd=>if d=i then q else g d) (V:=V) (N:=N) (i:=i+1) t;simp[o] at this;simpa using this
 have bj:=u.size;have bi:=j.rel.size;refine ET (l0:=[(42,.int .i64 (i:Int)),(41,.int .i64 (ws.length:Int)),(8,.slice (I ⟨cJ,0,K⟩) ws.length ws.length),(2,.slice (I ⟨wb,0,K⟩) ws.length iS)]) t ((((((((m.nil.cons (m.slot 2 _ Y)).cons (m.slot 8 _ Y)).cons (m.slot 41 _ Y)).cons (m.slot 42 _ Y)).cons (m.slot 3 _ Y)).cons (m.slot 6 _ Y)).cons (m.slot 10 _ Y)).cons (m.slot 7 _ Y)) H.inr (j.sub lb G) H.ob a2 (by unfold Ve;simp only[H.hb];rfl) λaw am p a9 a6=>?_;have y:∀C,Sk.contains C=U5->∀L,(am++L).lookup C=L.lookup C:=λC al L=>by
  rw[List.lookup_append];cases e:am.lookup C with
  |none=>rfl
  |some bx=>
   have:=gN e;rw[a9] at this;have:=List.contains_iff_mem.2 this;rw[this] at al;cases al
 have f:Knows aw 73 [(42,.int .i64 (i:Int)),(41,.int .i64 (ws.length:Int)),(8,.slice (I ⟨cJ,0,K⟩) ws.length ws.length),(7,.bool (lN&&(((V i).length:Int)==(N:Int)))),(6,.slice (I ⟨lb,0,K⟩) ws.length ws.length),(3,(aP bb)),(2,.slice (I ⟨wb,0,K⟩) ws.length iS)]:=
  ((((((p.nil.cons (p.slot 2 _ (y 2 Y _))).cons (p.slot 3 _ (y 3 Y _))).cons (p.slot 6 _ (y 6 Y _))).cons (p.slot 7 _ Y)).cons (p.slot 8 _ (y 8 Y _))).cons (p.slot 41 _ (y 41 Y _))).cons (p.slot 42 _ (y 42 Y _))
 refine gM c ?_;refine bg c [0,1] Y ?_;refine dw c f Y (.int .i64 ((i+1:Nat):Int)) (n9 (j:=1) Y (f.of Y) Y (by omega)) λf=>?_;refine bX c f λf=>?_;refine aj c ?_;refine kZ c ?_;have U:q≠lb:=by omega
 refine a8 D ar _ (λd=>if d=i then q else g d) _ _ ⟨((((((f.nil.cons (f.slot 2 _ Y)).cons (f.slot 3 _ Y)).cons (f.slot 6 _ Y)).cons (f.slot 7 _ Y)).cons (f.slot 8 _ Y)).cons (f.slot 41 _ Y)).cons (f.slot 42 _ Y),by simp only[put_defers];rw[a6,a5];simp only[put_defers];exact a4,H,j.sub cJ F,?_,j.sub lb G,aa,ab,ae,ad,X,λd r l=>?_,⟨λd br r l=>?_,λP J=>?_,v.inj,λd r l=>?_⟩,?_⟩
 ·rw[u.at_ cJ (.inr (j.sub cJ F)) (λe=>ad e.symm),j.rel.at_ cJ (.inr F)];exact W
 ·by_cases e:d=i
  ·subst e;simp only[if_true];have:=z.I2.size;exact⟨bd.same (u.at_ q (.inr T) U),T,U,by omega⟩
  ·obtain⟨bm,M,ao,bo⟩:=be d (by omega) l;simp only[if_neg e];exact⟨(bm.same (j.rel.at_ _ (.inr M))).same (u.at_ _ (.inr (j.sub _ M)) ao),j.sub _ M,ao,bo⟩
 ·have E:ch d≠ch i:=λe=>by have:=v.inj d i r t l o e;omega
  simp only[fV,E,if_false];exact v.mu d (by omega) r l
 ·have E:P≠ch i:=λe=>J (by simp[fV,e]);simp only[fV,E,if_false] at J;obtain⟨d,A,Q,a1,R⟩:=v.no P J;exact⟨d,by rcases WG i d with h|h;exact h;have:d=i:=(by omega);subst this;exact absurd R.symm E,Q,a1,R⟩
 ·exact U9 (v.lt d r l) (Vm bi bj)
 ·rw[Vr,ba,beq_iff_eq];constructor
  ·rintro⟨A,Q⟩ d r l;by_cases e:d=i
   ·subst e;omega
   ·exact A d (by omega) l
  ·intro A;exact⟨λd r l=>A d (by omega) l,by have:=A i (by omega) o;omega⟩
end
def Ct(ws:List Bool)(ch:Nat->Nat):(eC ws ch 0).toArray=YH #[.chan K] (ws.length*1):=by
 apply Array.toList_inj.1;rw[toList_madeCells_one,Ze];refine List.ext_getElem (by simp[dL]) λf b d=>?_;simp[eC]
def CJ(ws:List Bool)(g:Nat->Nat)(V:Nat->List aC)(N:Nat):(eW ws g V N 0).toArray=YH #[aM] (ws.length*1):=by
 apply Array.toList_inj.1;rw[toList_madeCells_one,Ze];refine List.ext_getElem (by simp[dP]) λf b d=>?_;simp[eW]
def lm{P0:Vb}{c:Vg}(h:eH P0 c [])(v:U):eH P0 (c.finish v) []:=⟨(ff h.top v).1,λf b=>by simp at b,(ff h.top v).2.trans h.bot⟩
def ig{P0 P:Vb}{S:Nat->Prop}{m:Bool}{d:(Nat->Prop)->Vg->List Vg->F->Prop}{own:Nat->Prop}{cs:List Vg}{w:F}{b:Vg}{a:Xa}(f:oe P0 P S m d){fn:XJ}{todo:List XR}{c:Vg}{v:U}(p:b.kind= .normal)(h:a.defers=[])(l:P.funcs[b.fn]? =I fn)(q:∀w,(V0 fn a.tmps).run P w= .ok v w)(j:∀w,(V0 fn a.tmps).events P w #[]=#[])
 (o:d own (c.finish v) cs w):d own {b.at a todo with mode:=.returning} (c::cs) w:=kY f (λw=>stepG_leave p h l (q w) (j w)) o
def UR(v0 v1 v2:U)(m:Nat)(j:3<=m):Knows ⟨#[v0,v1,v2]++V8 (m-3) V9,[]⟩ m [(0,v0),(1,v1),(2,v2)]:=by
 have b:∀d v,(#[v0,v1,v2]:Array U)[d]? =I v->aS ⟨#[v0,v1,v2]++V8 (m-3) V9,[]⟩ d=v:=λd v f=>by
  unfold aS;rw[Vt,Array.getElem?_append_left (U4.1 f).1,f];rfl
 refine Knows.cons (Knows.cons (Knows.cons (l:=[]) ⟨?_,λs v h=>by simp at h⟩ (b 2 v2 Y)) (b 1 v1 Y)) (b 0 v0 Y);simp;omega
def SZ:∃i,U1.info? 134=I i/\i.zero=I (.chan K)/\i.size=1/\i.bytes=8:=⟨Tryz.t134,by kernel_rfl,rfl,rfl,rfl⟩
def Pa:∃i,U1.info? 55=I i/\i.zero=I aM/\i.size=1/\i.bytes=24:=⟨Tryz.t55,by kernel_rfl,rfl,rfl,rfl⟩
section
variable {S O:Nat->Prop}{w0 w w':F}{s:Nat->ByteArray}{k e:Nat->Int}{N cb n cap kb nk ck eb ne ce wb iS:Nat}{x:U}{ws:List Bool}{V:Nat->List aC}{ch g:Nat->Nat}{bb fb cJ lb i:Nat}{μ:Nat->Option (List U)}{a:Xa}{Post:U->F->Prop}{cs:List Vg}{lN:Bool}{c:Vg}
def OG(h:Aq S O w0 w N cb n cap kb nk ck eb ne ce x wb iS ws V ch g bb fb cJ lb ws.length lN μ a)
 (j:ku (ax U1) U1 Post S O μ (Vd (c.finish (.tuple #[.slice (I ⟨lb,0,K⟩) ws.length ws.length,.bool lN])) cs) w):
 ku (ax U1) U1 Post S O μ (Vd ((base 39).at a [.code (nM VZ),.inLoop (nM VZ),.inBlock 2,.code (GP VZ)]) (c::cs)) w:=by
 have d:=h.kn;have b:=dN (ax U1) U1 Post S μ;refine aJ b ?_;refine bg b [0] Y ?_;refine dw b d Y (.bool U5) (jn Y (d.of Y) (d.of Y) (by simp)) λd=>?_;refine aj b ?_;refine aJ b ?_;refine cY b U5 (d.of Y) ?_;refine sP b (k':=[.code (GP VZ)]) Y ?_;refine aJ b ?_;refine bg b [0,1,2,3] Y ?_;refine bX b d λd=>?_;refine bX b d λd=>?_;refine gw b d λd=>?_;refine gw b d λd=>?_;refine aj b ?_;refine oB b ?_;have f:=gI (P:=U1) Tryz.results39 (d.slot 6 _ Y) (d.slot 7 _ Y);exact ig b Y (by simp only[put_defers];exact h.df) Tryz.func39 f.1 f.2 j
def LK(j:Gf S w0 s k e N cb n kb nk eb ne wb ws V)(t:∀O w a g lN μ,Aq S O w0 w N cb n cap kb nk ck eb ne ce x wb iS ws V ch g bb fb cJ lb ws.length lN μ a->ku (ax U1) U1 Post S O μ (Vd (c.finish (.tuple #[.slice (I ⟨lb,0,K⟩) ws.length ws.length,.bool lN])) cs) w):
 ∀(d i:Nat),i+d=ws.length->∀O w a g lN μ,Aq S O w0 w N cb n cap kb nk ck eb ne ce x wb iS ws V ch g bb fb cJ lb i lN μ a->
 ku (ax U1) U1 Post S O μ (Vd ((base 39).at a [.code (nM VZ),.inLoop (nM VZ),.inBlock 2,.code (GP VZ)]) (c::cs)) w:=by
 intro d
 induction d with
 |zero=>
  intro i r O w a g lN μ b;have:i=ws.length:=by omega
  subst this;exact OG b (t O w a g lN μ b)
 |succ d o=>
  intro i r O w a g lN μ b;have u:i<ws.length:=by omega
  have m:ws[i]? =I ws[i]:=Vf u;cases l:ws[i] with
  |true=>exact IB j b (by rw[m,l]) λp w' f q v y h=>o (i+1) (by omega) p w' f q v y h
  |false=>exact LL j b (by rw[m,l]) λf h=>o (i+1) (by omega) O w f g lN μ h
def R6(q:Gf S w0 s k e N cb n kb nk eb ne wb ws V)(h:JP S O w0 w N cb n cap kb nk ck eb ne ce x wb iS ws V ch bb fb cJ ws.length μ a)
 (A:∀lb O w a g lN μ,Aq S O w0 w N cb n cap kb nk ck eb ne ce x wb iS ws V ch g bb fb cJ lb ws.length lN μ a->ku (ax U1) U1 Post S O μ (Vd (c.finish (.tuple #[.slice (I ⟨lb,0,K⟩) ws.length ws.length,.bool lN])) cs) w):
 ku (ax U1) U1 Post S O μ (Vd ((base 39).at a [.code (di VZ),.inLoop (di VZ),.inBlock 0,.code (gV VZ)]) (c::cs)) w:=by
 obtain⟨b,v,f,o,M,J,L,y,m⟩:=h;have d:=dN (ax U1) U1 Post S μ;obtain⟨G,z,F,D,u⟩:=Pa;have P:=q.mm;refine aJ d ?_;refine bg d [0] Y ?_;refine dw d b Y (.bool U5) (jn Y (b.of Y) (b.of Y) (by simp)) λb=>?_;refine aj d ?_;refine aJ d ?_;refine cY d U5 (b.of Y) ?_;refine sP d (k':=[.code (gV VZ)]) Y ?_;refine aJ d ?_;refine bg d [0,1,2,3] Y ?_;refine bX d b λb=>?_;refine dw d b Y (.int .i64 (ws.length:Int)) (sV Y (b.of Y) XT) λb=>?_;refine kg d f.inr (by decide) Y Y (.cells (YH (VR K 0 0).cells (ws.length*G.size)) 55) trivial (λn=>.slice (I ⟨n,0,K⟩) ws.length ws.length) (CM Y (b.of Y) (b.of Y) Tryz.underlying27 z F (U7 _) (by rw[u];omega) (by omega)) λlb H B E hrel t=>?_;replace b:=b.put (d:=39) (by decide) (.slice (I ⟨lb,0,K⟩) ws.length ws.length);refine gw d b λb=>?_;refine aj d ?_;refine aJ d ?_;refine bg d [0] Y ?_;refine oz d b (.bool Z) λb=>?_;refine aj d ?_;refine aJ d ?_;refine aJ d ?_;refine bg d [0,1,2] Y ?_;refine bX d b λb=>?_;refine dw d b Y (.int .i64 (ws.length:Int)) (sV Y (b.of Y) XT) λb=>?_;refine dw d b Y (.int .i64 ((0:Nat):Int)) (bZ Y Y) λb=>?_;refine aj d ?_;refine fO d ?_;refine uM d ?_;have C:=f.new B E hrel;have Q:=f.inr bb (.inr f.ob);have R:=f.inr fb (.inr f.of);have T:=f.inr cJ (.inr o);have U:=f.I2.size;refine LK (lb:=lb) (ch:=ch) q (λO w a g lN μ h=>A lb O w a g lN μ h) ws.length 0 (by omega) _ H _ (λ_=>0) Z μ ⟨((((((b.nil.cons (b.slot 2 _ Y)).cons (b.slot 3 _ Y)).cons (b.slot 6 _ Y)).cons (b.slot 7 _ Y)).cons (b.slot 8 _ Y)).cons (b.slot 41 _ Y)).cons (b.slot 42 _ Y),by simp only[put_defers];exact v,C,.inl o,(hrel.at_ cJ (.inr o)).trans y,.inr Y,by omega,by omega,by omega,by omega,?_,λl j=>absurd j (by omega),⟨λl r j p=>m.mu l r j p,m.no,m.inj,λl j p=>U9 (m.lt l j p) hrel.size⟩,⟨λ_ l j=>absurd j (by omega),λ_=>rfl⟩⟩;rw[CJ,<-D];exact t
def go_loop(j:Gf S w0 s k e N cb n kb nk eb ne wb ws V)(t:∀ch lb O w a g lN μ,Aq S O w0 w N cb n cap kb nk ck eb ne ce x wb iS ws V ch g bb fb cJ lb ws.length lN μ a->ku (ax U1) U1 Post S O μ (Vd (c.finish (.tuple #[.slice (I ⟨lb,0,K⟩) ws.length ws.length,.bool lN])) cs) w):
 ∀(d i:Nat),i+d=ws.length->∀O w a ch μ,JP S O w0 w N cb n cap kb nk ck eb ne ce x wb iS ws V ch bb fb cJ i μ a->
 ku (ax U1) U1 Post S O μ (Vd ((base 39).at a [.code (di VZ),.inLoop (di VZ),.inBlock 0,.code (gV VZ)]) (c::cs)) w:=by
 intro d
 induction d with
 |zero=>
  intro i r O w a ch μ b;have:i=ws.length:=by omega
  subst this;exact R6 j b (λlb O w a g lN μ b=>t ch lb O w a g lN μ b)
 |succ d o=>
  intro i r O w a ch μ b;have u:i<ws.length:=by omega
  have m:ws[i]? =I ws[i]:=Vf u;cases l:ws[i] with
  |true=>exact go_round j b (by rw[m,l]) λp w' f q v h=>o (i+1) (by omega) p w' f q v h
  |false=>exact go_skip j b (by rw[m,l]) λf h=>o (i+1) (by omega) O w f ch μ h
def Mt(p:Gf S w0 s k e N cb n kb nk eb ne wb ws V)
 (M:∀bb fb cJ ch lb O w a g lN μ,Aq S O w0 w N cb n cap kb nk ck eb ne ce x wb iS ws V ch g bb fb cJ lb ws.length lN μ a->ku (ax U1) U1 Post S O μ (Vd (c.finish (.tuple #[.slice (I ⟨lb,0,K⟩) ws.length ws.length,.bool lN])) cs) w):
 ku (ax U1) U1 Post S (λb=>b<w0.heap.size/\¬S b) (λ_=>K) (Vd (VU U1 39 #[pV (N:Int) cb n cap,pZ kb nk ck eb ne ce x,.slice (I ⟨wb,0,K⟩) ws.length iS] .normal) (c::cs)) w0:=by
 have f:=dN (ax U1) U1 Post S (λ_=>K);obtain⟨W,L,U,P,G⟩:=SZ;have Z:=p.mm;rw[enter_at _ Tryz.func39 Y];have d:=UR (pV (N:Int) cb n cap) (pZ kb nk ck eb ne ce x) (.slice (I ⟨wb,0,K⟩) ws.length iS) 73 (by decide);have v:uw S (λb=>b<w0.heap.size/\¬S b) w0:=λb j=>j.elim (p.sz b) (λh=>h.1);refine aJ f ?_;refine bg f [0,1,2,3] Y ?_;refine kg f v (by decide) Y Y (.cells #[.int .i64 (N:Int),.slice (I ⟨cb,0,K⟩) n cap] 98) trivial (λn=>(aP n)) (vg (v:=pV (N:Int) cb n cap) Y (d.of Y)) λbb aa u Q r B=>?_;replace d:=d.put (d:=3) (by decide) (aP bb);have y:=v.new u Q;refine kg f y (by decide) Y Y (.cells #[.slice (I ⟨kb,0,K⟩) nk ck,.slice (I ⟨eb,0,K⟩) ne ce,x] 66) trivial (λn=>(aP n)) (vg (v:=pZ kb nk ck eb ne ce x) Y (d.of Y)) λfb ab E R o C=>?_;replace d:=d.put (d:=4) (by decide) (aP fb);have z:=y.new E R;refine oz f d aM λd=>?_;refine oz f d (.bool U5) λd=>?_;refine aj f ?_;refine aJ f ?_;refine bg f [0,1,2,3] Y ?_;refine bX f d λd=>?_;refine dw f d Y (.int .i64 (ws.length:Int)) (sV Y (d.of Y) XT) λd=>?_;refine kg f z (by decide) Y Y (.cells (YH (Value.chan K).cells (ws.length*W.size)) 134) trivial (λn=>.slice (I ⟨n,0,K⟩) ws.length ws.length) (CM Y (d.of Y) (d.of Y) Tryz.underlying133 L U (U7 _) (by rw[G];omega) (by omega)) λcJ X F T l D=>?_;replace d:=d.put (d:=13) (by decide) (.slice (I ⟨cJ,0,K⟩) ws.length ws.length);have J:=z.new F T;refine gw f d λd=>?_;refine aj f ?_;refine aJ f ?_;refine aJ f ?_;refine bg f [0,1,2] Y ?_;refine bX f d λd=>?_;refine dw f d Y (.int .i64 (ws.length:Int)) (sV Y (d.of Y) XT) λd=>?_;refine dw f d Y (.int .i64 ((0:Nat):Int)) (bZ Y Y) λd=>?_;refine aj f ?_;refine fO f ?_;refine uM f ?_;have q:∀b,b<w0.heap.size->S b\/(b<w0.heap.size/\¬S b):=λb j=>by
  rcases Classical.em (S b) with h|h
  ·exact .inl h
  ·exact .inr ⟨j,h⟩
 refine go_loop (bb:=bb) (fb:=fb) (cJ:=cJ) p (λch lb O w a g lN μ h=>M bb fb cJ ch lb O w a g lN μ h) ws.length 0 (by omega) _ X _ (λ_=>0) _ ⟨(((((d.nil.cons (d.slot 2 _ Y)).cons (d.slot 3 _ Y)).cons (d.slot 4 _ Y)).cons (d.slot 8 _ Y)).cons (d.slot 15 _ Y)).cons (d.slot 16 _ Y),by simp only[put_defers],⟨⟨?_,?_,?_,?_,λb j=>?_⟩,λb j=>?_,J,λb j t=>?_,.inl (.inl (.inr Y)),.inl (.inr Y),u,by omega,?_,?_⟩,.inr Y,by omega,by omega,by omega,?_,⟨λA _ m=>absurd m (by omega),λc H=>absurd Y H,λA _ m=>absurd m (by omega),λA m=>absurd m (by omega)⟩⟩
 ·rw[l.os,o.os,r.os]
 ·rw[l.tape,o.tape,r.tape]
 ·rw[l.output,o.output,r.output]
 ·omega
 ·rw[l.at_ b ((q b j).imp (λh=>h) (λh=>.inl (.inl h))),o.at_ b ((q b j).imp (λh=>h) (λh=>.inl h)),r.at_ b (q b j)]
 ·exact(q b j).imp (λh=>h) (λh=>.inl (.inl (.inl h)))
 ·have:=p.sz b j;rcases t with((t|rfl)|rfl)|rfl
  ·exact t.2 j
  ·omega
  ·omega
  ·omega
 ·rw[l.at_ bb (.inr (.inl (.inr Y))),o.at_ bb (.inr (.inr Y))];exact B
 ·rw[l.at_ fb (.inr (.inr Y))];exact C
 ·rw[Ct,<-P];exact D
def Q8 (w:F)(N:Nat)(ws:List Bool)(V:Nat->List aC)(f:X6)(w':F):Prop:=
 ∃lb lN g,f= .returned (.tuple #[.slice (I ⟨lb,0,K⟩) ws.length ws.length,.bool lN])/\aQ w w'/\w.heap.size<=lb/\w'.heap[lb]? =I (.cells (eW ws g V N ws.length).toArray 55 (0,0))/\(∀b,ws[b]? =I Z->Row w' (g b) N (V b)/\w.heap.size<=g b)/\(lN=Z↔∀b,ws[b]? =I Z->(V b).length=N)
def Gf.at(b:Gf S w s k e N cb n kb nk eb ne wb ws V)(d:Nat):Gf S (w.at d) s k e N cb n kb nk eb ne wb ws V:=
 ⟨b.sz,λh f=>⟨(b.sin h f).1.rel λ_ _=>rfl,(b.sin h f).2⟩,b.wl,λh j f=>b.wc h j f,b.nn,b.mm,b.pos⟩
def Gp(p:Gf S w s k e N cb n kb nk eb ne wb ws V):kq (ax U1) U1 Post 39 #[pV (N:Int) cb n cap,pZ kb nk ck eb ne ce x,.slice (I ⟨wb,0,K⟩) ws.length iS] w (Q8 w N ws V):=by
 intro c cs u G F t;refine KN S (λd=>d<w.heap.size/\¬S d) (λd b=>⟨p.sz d b,λh=>h.2 b⟩) (λd b=>b.1) λJ A=>?_;obtain⟨o,rfl⟩:=A;refine Mt (w0:=w.at o) (p.at o) λbb fb cJ ch lb O w' a g lN μ h=>?_;refine Nu (λc=>?_) λr f z=>?_
 ·cases y:μ c with
  |none=>rfl
  |some H=>
   obtain⟨l,m,E,_⟩:=h.UH.no c (by rw[y];simp);omega
 ·have b:=h.own.I2;have v:∀d,d<w.heap.size->r.heap[d]? =w.heap[d]? :=λd q=>(f.at_ d (h.own.low d q)).trans (b.block d q);refine t (.returned (.tuple #[.slice (I ⟨lb,0,K⟩) ws.length ws.length,.bool lN])) r ⟨lb,lN,g,rfl,⟨f.os.trans b.os,f.tape.trans b.tape,f.output.trans b.output,Vm b.size f.size,v⟩,h.ll,(f.at_ lb (.inr h.ol)).trans h.hl,λl j=>?_,?_⟩ z ⟨f.tape.trans b.tape,f.os.trans b.os,f.output.trans b.output,Vm b.size f.size⟩ (lm u _)
  ·obtain⟨B,C,_,D⟩:=h.rows l (Vs.1 j).1 j;exact⟨B.same (f.at_ _ (.inr C)),D⟩
  ·rw[h.ok];exact⟨λm l j=>m l (Vs.1 j).1 j,λm l _ j=>m l j⟩
end
end Cc
namespace Cc
open Go Go.Conc
open Go.RowKit (Below)
open Ec (aC az bT dK tC AO qv)
def nL (rs:List bT)(val:Int->Nat->aC)(p:Nat):Bool:=rs.all λb=>AO (val b.col p) b
def Bv{rs:List bT}{val:Int->Nat->aC}{p:Nat}:nL rs val p=Z↔∀i (h:i<rs.length),AO (val rs[i].col p) rs[i]=Z:=by
 unfold nL;rw[Vx];constructor
 ·intro h i b;exact h _ (Vn b)
 ·intro h e d;obtain⟨i,b,rfl⟩:=List.mem_iff_getElem.1 d;exact h i b
def oG(Go:List cg->Bool)(pre:List cg)(x:cg)(b:List cg):feed Go pre (x::b)=if Go (pre++[x]) then feed Go (pre++[x]) b else(pre++[x],U5):=rfl
section
variable {Post:U->F->Prop}{J:List cg->(Nat->Prop)->F->Prop}{Go:List cg->Bool}{w0 w:F}{M0 M own:Nat->Prop}{l first N p qb:Nat}{pre:List cg}{a:Xa}{cs:List Vg}{ah:List Int}{rs:List bT}{co:Option VI}{cb bH aG:Nat}{ro:Option VI}{rb bF aK lb m mc:Nat}{val:Int->Nat->aC}{a0 b0 c0:U}{sk:Bool}{c:Vg}
def Nb(h:Gk J w0 w M0 M own #[a0,b0,c0,.slice co ah.length aG,.slice ro rs.length aK,.bool sk] (.slice (I ⟨lb,0,K⟩) m mc) l first N N qb pre a)(f:Xe (ax U1) U1 Post own (c.finish (.bool Z)) cs w):
 Xe (ax U1) U1 Post own ((base 40).at a [.code (iw XM),.inLoop (iw XM),.inBlock 0,.code (rj XM)]) (c::cs) w:=by
 have b:=eX (ax U1) U1 Post;have d:=h.kn;refine aJ b ?_;refine bg b [0] Y ?_;refine dw b d Y (.bool U5) (jn Y (d.of Y) (d.of Y) (by simp)) λd=>?_;refine aj b ?_;refine aJ b ?_;refine cY b U5 (d.of Y) ?_;refine sP b (k':=[.code (rj XM)]) Y ?_;refine aJ b ?_;refine bg b [0] Y ?_;refine oz b d (.bool Z) λd=>?_;refine aj b ?_;refine oB b ?_;have e:=iM (P:=U1) Tryz.results40 (d.slot 10 _ Y);exact ig b Y (by simp only[put_defers];exact h.df) Tryz.func40 e.1 e.2 f
def qB{y:Bool}(b:Knows a 33 [(31,.bool y),(13,.int .i64 (p:Int)),(12,.int .i64 (N:Int)),(5,(aP qb)),(4,.func (.yield l) #[] #[]),(2,.int .i64 (first:Int)),(1,.slice (I ⟨lb,0,K⟩) m mc)])(e:a.defers=[])(i:p<N)(h:first+N<=1000000)
 (f:(y=Z->Xe (ax U1) U1 Post own (c.finish (.bool U5)) cs w)/\(y=U5->∀a',Knows a' 33 [(13,.int .i64 ((p+1:Nat):Int)),(12,.int .i64 (N:Int)),(5,(aP qb)),(4,.func (.yield l) #[] #[]),(2,.int .i64 (first:Int)),(1,.slice (I ⟨lb,0,K⟩) m mc)]->a'.defers=[]->Xe (ax U1) U1 Post own ((base 40).at a' [.code (iw XM),.inLoop (iw XM),.inBlock 0,.code (rj XM)]) (c::cs) w)):
 Xe (ax U1) U1 Post own ((base 40).at a (mV XM)) (c::cs) w:=by
 have d:=eX (ax U1) U1 Post;cases y with
 |true=>
  refine cY d Z (b.of Y) ?_;refine aJ d ?_;refine bg d [0] Y ?_;refine oz d b (.bool U5) λb=>?_;refine aj d ?_;refine oB d ?_;have g:=iM (P:=U1) Tryz.results40 (b.slot 10 _ Y);exact ig d Y (by simp only[put_defers];exact e) Tryz.func40 g.1 g.2 (f.1 Y)
 |false=>
  refine cY d U5 (b.of Y) ?_;refine gS d ?_;refine gM d ?_;refine bg d [0,1] Y ?_;refine dw d b Y (.int .i64 ((p+1:Nat):Int)) (n9 (j:=1) Y (b.of Y) Y (by omega)) λb=>?_;refine bX d b λb=>?_;refine aj d ?_;refine kZ d ?_;exact f.2 Y _ ((((((b.nil.cons (b.slot 1 _ Y)).cons (b.slot 2 _ Y)).cons (b.slot 4 _ Y)).cons (b.slot 5 _ Y)).cons (b.slot 12 _ Y)).cons (b.slot 13 _ Y)) (by simp only[put_defers];exact e)
def Kq(h:Gk J w0 w M0 M own #[a0,b0,c0,.slice co ah.length aG,.slice ro rs.length aK,.bool sk] (.slice (I ⟨lb,0,K⟩) m mc) l first N p qb pre a)(f:p<N)
 (e:∀a',Knows a' 33 [(11,.int .i64 (p:Int)),(13,.int .i64 (p:Int)),(12,.int .i64 (N:Int)),(5,(aP qb)),(4,.func (.yield l) #[] #[]),(2,.int .i64 (first:Int)),(1,.slice (I ⟨lb,0,K⟩) m mc)]->a'.defers=[]->Xe (ax U1) U1 Post own ((base 40).at a' (.code (.region 4 (xB XM) U5)::mV XM)) cs w):
 Xe (ax U1) U1 Post own ((base 40).at a [.code (iw XM),.inLoop (iw XM),.inBlock 0,.code (rj XM)]) cs w:=by
 have d:=eX (ax U1) U1 Post;have b:=h.kn;refine aJ d ?_;refine bg d [0] Y ?_;refine dw d b Y (.bool Z) (jn Y (b.of Y) (b.of Y) (by simp;omega)) λb=>?_;refine aj d ?_;refine aJ d ?_;refine cY d Z (b.of Y) ?_;refine gS d ?_;refine aJ d ?_;refine fO d ?_;refine aJ d ?_;refine bg d [0,1] Y ?_;refine bX d b λb=>?_;refine gw d b λb=>?_;refine aj d ?_;refine aJ d ?_;exact e _ ((((((b.nil.cons (b.slot 1 _ Y)).cons (b.slot 2 _ Y)).cons (b.slot 4 _ Y)).cons (b.slot 5 _ Y)).cons (b.slot 12 _ Y)).cons (b.slot 13 _ Y) |>.cons (b.slot 11 _ Y)) (by simp only[put_defers];exact h.df)
def Kr(C:Cons (ax U1) U1 Post l J Go)(hF:∀t,(∀b,b<w0.heap.size->¬M0 b->nH t w0 b)->w0.heap.size<=t.heap.size->T4 t ah rs co cb bH ro rb bF lb m N val)(i:first+N<=1000000)(hc:ah.length<=1000)(Q:rs.length<=Vp):∀(n p:Nat),p+n=N->∀pre own M w a,Go pre=Z->pre.length+n<=2000->
 Gk J w0 w M0 M own #[a0,b0,c0,.slice co ah.length aG,.slice ro rs.length aK,.bool sk] (.slice (I ⟨lb,0,K⟩) m mc) l first N p qb pre a->
 (∀own' g w',J (feed Go pre (dS (nL rs val) (λp=>ah.map λk=>val k p) first p n)).1 g w'->Kept w0 w' M0 g own'->(∀b,own' b->b<w'.heap.size)->Xe (ax U1) U1 Post own' (c.finish (.bool (feed Go pre (dS (nL rs val) (λp=>ah.map λk=>val k p) first p n)).2)) cs w')->
 Xe (ax U1) U1 Post own ((base 40).at a [.code (iw XM),.inLoop (iw XM),.inBlock 0,.code (rj XM)]) (c::cs) w:=by
 intro n
 induction n with
 |zero=>
  intro p P pre own M w a v H d e;have:p=N:=by omega
  subst this;exact Nb d (e own M w d.j d.kept d.bd)
 |succ n B=>
  intro p P pre own M w a v H d e;refine Kq d (by omega) λT D F=>?_;refine Ez (val:=val) C v hF (by omega) (by omega) i hc Q D F d.j d.kept d.bd d.oq d.nq d.lq d.hq (λown' w' E L f o q r j z A=>?_) (λown' g w' E S f o q r j z O A=>?_)
  ·have G:nL rs val p=U5:=by
    cases h:nL rs val p with
    |false=>rfl
    |true=>exact absurd (Bv.1 h) L
   have h:dS (nL rs val) (λp=>ah.map λk=>val k p) first p (n+1)=dS (nL rs val) (λp=>ah.map λk=>val k p) first (p+1) n:=by
    simp[dS,G]
   rw[h] at e;refine qB f o (by omega) i ⟨λd=>(by cases d),λ_ u s x=>?_⟩;exact B (p+1) (by omega) pre own' M w' u v (by omega) ⟨s,x,q,r,j,z,d.nq,d.lq,A⟩ e
  ·have R:=Bv.2 S;have h:dS (nL rs val) (λp=>ah.map λk=>val k p) first p (n+1)=(first+p,ah.map λk=>val k p)::dS (nL rs val) (λp=>ah.map λk=>val k p) first (p+1) n:=by
    simp[dS,R]
   rw[h] at e;rw[oG] at e;cases y:Go (pre++[(first+p,ah.map λk=>val k p)]) with
   |true=>
    rw[y] at f e;simp only[if_true] at e;refine qB f o (by omega) i ⟨λd=>(by cases d),λ_ u s x=>?_⟩;exact B (p+1) (by omega) _ own' g w' u y (by simp;omega) ⟨s,x,q,r,j,z,O,d.lq,A⟩ e
   |false=>
    rw[y] at f e;simp only[Vv,if_false] at e;exact qB f o (by omega) i ⟨λ_=>e own' g w' q r j,λd=>(by cases d)⟩
def UI(v0 v1 v2 d e:U)(m:Nat)(i:5<=m):Knows ⟨#[v0,v1,v2,d,e]++V8 (m-5) V9,[]⟩ m [(0,v0),(1,v1),(2,v2),(3,d),(4,e)]:=by
 have b:∀f v,(#[v0,v1,v2,d,e]:Array U)[f]? =I v->aS ⟨#[v0,v1,v2,d,e]++V8 (m-5) V9,[]⟩ f=v:=λf v g=>by
  unfold aS;rw[Vt,Array.getElem?_append_left (U4.1 g).1,g];rfl
 refine Knows.cons (Knows.cons (Knows.cons (Knows.cons (Knows.cons (l:=[]) ⟨?_,λs v h=>by simp at h⟩ (b 4 e Y)) (b 3 d Y)) (b 2 v2 Y)) (b 1 v1 Y)) (b 0 v0 Y);simp;omega
def Rb (J:List cg->(Nat->Prop)->F->Prop)(M0:Nat->Prop)(w0:F)(e:List cg×Bool)(f:X6)(w':F):Prop:=
 f= .returned (.bool e.2)/\∃d,J e.1 d w'/\(∀b,b<w0.heap.size->¬M0 b->w'.heap[b]? =w0.heap[b]?)/\w0.heap.size<=w'.heap.size/\∀b,d b->M0 b\/w0.heap.size<=b
def GW(C:Cons (ax U1) U1 Post l J Go)(t:Go pre=Z)(r:J pre M0 w0)(hF:∀n,(∀b,b<w0.heap.size->¬M0 b->nH n w0 b)->w0.heap.size<=n.heap.size->T4 n ah rs co cb bH ro rb bF lb m N val)(v:first+N<=1000000)(hc:ah.length<=1000)(F:rs.length<=Vp)(B:pre.length+N<=2000):
 kq (ax U1) U1 Post 40 #[qv a0 b0 c0 (.slice co ah.length aG) (.slice ro rs.length aK) sk,.slice (I ⟨lb,0,K⟩) m mc,.int .i64 (first:Int),.int .i64 (N:Int),.func (.yield l) #[] #[]] w0 (Rb J M0 w0 (feed Go pre (dS (nL rs val) (λp=>ah.map λk=>val k p) first 0 N))):=by
 intro c cs H R D u;have f:=eX (ax U1) U1 Post;refine Xe.go (own:=λb=>b<w0.heap.size) ?_ (λb i=>i) D;rw[enter_at _ Tryz.func40 Y];have e:=UI (qv a0 b0 c0 (.slice co ah.length aG) (.slice ro rs.length aK) sk) (.slice (I ⟨lb,0,K⟩) m mc) (.int .i64 (first:Int)) (.int .i64 (N:Int)) (.func (.yield l) #[] #[]) 33 (by decide);have z:uw KL (λb=>b<w0.heap.size) w0:=λb d=>d.elim YJ (λi=>i);refine aJ f ?_;refine bg f [0,1] Y ?_;refine kg f z (by decide) Y Y (.cells #[a0,b0,c0,.slice co ah.length aG,.slice ro rs.length aK,.bool sk] 68) trivial (λL=>(aP L)) (vg (v:=qv a0 b0 c0 (.slice co ah.length aG) (.slice ro rs.length aK) sk) Y (e.of Y)) λqb O y S G x=>?_;replace e:=e.put (d:=5) (by decide) (aP qb);refine oz f e (.bool U5) λe=>?_;refine aj f ?_;refine aJ f ?_;refine aJ f ?_;refine bg f [0,1] Y ?_;refine bX f e λe=>?_;refine dw f e Y (.int .i64 ((0:Nat):Int)) (bZ Y Y) λe=>?_;refine aj f ?_;refine fO f ?_;refine uM f ?_;have j:=G6 G;have o:=C.bound _ _ _ r;refine Kr (w0:=w0) (M0:=M0) (val:=val) C hF v hc F N 0 (by omega) pre _ M0 O _ t B ⟨((((((e.nil.cons (e.slot 1 _ Y)).cons (e.slot 2 _ Y)).cons (e.slot 4 _ Y)).cons (e.slot 5 _ Y)).cons (e.slot 12 _ Y)).cons (e.slot 13 _ Y)),by simp only[put_defers],C.j4 _ _ _ _ r (λb d=>j.at_ b (o b d)) j.size,⟨λb d q=>⟨.inl d,j.at_ b d⟩,λb d=>.inl d,λb d=>.inl (o b d),j.size,j.tape,j.os,j.output⟩,λb d=>d.elim (λi=>by omega) (λi=>by omega),.inr Y,λi=>by have:=o qb i;omega,y,x⟩ λT s U A g Q=>?_;intro _ P h E;refine u _ P ⟨rfl,s,C.j4 _ _ _ _ A (λb d=>h.at_ b (g.rX b d)) h.size,λb d q=>(h.at_ b (g.keep b d q).1).trans (g.keep b d q).2,Vm g.size h.size,g.ext⟩ E ⟨h.tape.trans g.tape,h.os.trans g.os,h.output.trans g.output,Vm g.size h.size⟩ (lm H _)
end
end Cc
namespace Cc
open Go Go.Conc
open Go.RowKit (Below)
open Ec (aC az bT dK tC As AO qv bQ Bd j8 lZ dF aI ya pN n6)
structure FM(W:F)(l:List (bQ×Int))(bs:List Bd)(ah:List Int)(rs:List bT)(kb eb:Nat)(dO:Option VI)(db:Nat)(cJ lS:Nat->Nat)(co:Option VI)(cb bH:Nat)(ro:Option VI)(rb bF:Nat):Prop where
 k:∀j x,l[j]? =I x->W.cell? ⟨kb,0+j*2+1,K⟩=I (.int .i64 x.1.kind)
 e:∀j x,l[j]? =I x->W.cell? ⟨eb,0+j*1,K⟩=I (.int .i64 x.2)
 d:∀i b,bs[i]? =I b->W.rangeAt db (0+i*2) [.int .i64 (b.rows:Int),.slice (I ⟨cJ i,0,K⟩) l.length (lS i)]
 c:∀i b,bs[i]? =I b->∀j x,b.chunks[j]? =I x->∀t u,(dF x)[t]? =I u->W.cell? ⟨cJ i,j*8+t,K⟩=I u
 lk:kb<W.heap.size
 le:eb<W.heap.size
 da:0<bs.length->dO=I ⟨db,0,K⟩
 ld:0<bs.length->db<W.heap.size
 lc:∀i,i<bs.length->cJ i<W.heap.size
 ca:0<ah.length->co=I ⟨cb,bH,K⟩
 cl:0<ah.length->cb<W.heap.size
 cc:∀j,j<ah.length->W.cell? ⟨cb,bH+j,K⟩=I (.int .i64 (ah.getD j 0))
 nr:dK W ro rb bF rs
structure FQ(l:List (bQ×Int))(bs:List Bd)(ah:List Int)(rs:List bT)(V:Nat->Nat->List aC):Prop where
 len:∀b∈bs,b.chunks.length=l.length
 m:l.length<=1000
 pos:0<l.length
 rows:∀b∈bs,b.rows<=100
 tot:(bs.map (·.rows)).sum<=2000
 nb:bs.length<=100000
 cn:ah.length<=1000
 rn:rs.length<=Vp
 ck:∀k∈ah,0<=k/\k<(l.length:Int)
 rk:∀r∈rs,0<=r.col/\r.col<(l.length:Int)
 dec:∀(i:Nat) b,bs[i]? =I b->∀(j:Nat) x y,b.chunks[j]? =I x->l[j]? =I y->x.text.size<=Vp/\qc x.text y.1.kind y.2 (b.rows:Int) (V i j)
def yS:j8:=⟨⟨#[]⟩,Ec.cK⟩
def rowsOf(bs:List Bd)(i:Nat):Nat:=(bs.map (·.rows)).getD i 0
def eM (bs:List Bd)(i:Nat):Nat:=((bs.take i).map (·.rows)).sum
def y8 (bs:List Bd)(rs:List bT)(i:Nat):Bool:=rs.any λa=>Ec.AR (((bs.getD i ⟨0,[]⟩).chunks.getD a.col.toNat yS).eU) a
def Dz (V:Nat->Nat->List aC)(i:Nat)(k:Int)(p:Nat):aC:=(V i k.toNat).getD p ⟨U5,0,⟨#[]⟩⟩
def Jk (bs:List Bd)(ws:List Bool)(V:Nat->Nat->List aC)(i:Nat):Bool:=(VS ws.length).all λa=> !ws.getD a U5||(V i a).length==rowsOf bs i
def fL (bs:List Bd)(ah:List Int)(rs:List bT)(V:Nat->Nat->List aC)(i:Nat):List cg:=dS (nL rs (Dz V i)) (λb=>ah.map λa=>Dz V i a b) (eM bs i) 0 (rowsOf bs i)
def bV (sk:Bool)(bs:List Bd)(ah:List Int)(rs:List bT)(ws:List Bool)(V:Nat->Nat->List aC)(Go:List cg->Bool):Nat->Nat->List cg->Nat->List cg×Nat×Nat
 |i,0,pre,a=>(pre,a,0)
 |i,b+1,pre,a=>if sk&&y8 bs rs i then bV sk bs ah rs ws V Go (i+1) b pre a else if Jk bs ws V i then(if (feed Go pre (fL bs ah rs V i)).2 then bV sk bs ah rs ws V Go (i+1) b (feed Go pre (fL bs ah rs V i)).1 (a+1) else((feed Go pre (fL bs ah rs V i)).1,a+1,0)) else(pre,a+1,3)
theorem lW(lU:Nat->Bool)(a:Nat->List aC)(first:Nat):∀(n p:Nat),(dS lU a first p n).length<=n
 |0,p=>U7 _
 |n+1,p=>by
  have:=lW lU a first n (p+1)
  simp only[dS]
  split
  ·simp;omega
  ·omega
theorem qA(Go:List cg->Bool):∀(a pre:List cg),(feed Go pre a).1.length<=pre.length+a.length
 | [],pre=>U7 _
 |x::a,pre=>by
  rw[oG]
  split
  ·have:=qA Go a (pre++[x]);simp at this ⊢;omega
  ·simp
theorem I9(Go:List cg->Bool):∀(b pre:List cg),Go pre=Z->(feed Go pre b).2=Z->Go (feed Go pre b).1=Z
 | [],pre=>λa _=>a
 |x::b,pre=>by
  rw[oG]
  split
  ·exact λ_ a=>I9 Go b (pre++[x]) (by assumption) a
  ·exact λ_ a=>by cases a
def me{bs:List Bd}{i:Nat}{b:Bd}(h:bs[i]? =I b):eM bs (i+1)=eM bs i+b.rows:=by
 obtain⟨a,rfl⟩:=Vs.1 h;unfold eM;rw[Vh a,V1,List.sum_append];simp only[Yy,List.map_nil,List.sum_cons,List.sum_nil,Nat.add_zero]
def mU(bs:List Bd):∀i,eM bs i<=(bs.map (·.rows)).sum:=by
 intro i;have a:(bs.map (·.rows)).sum=((bs.take i).map (·.rows)).sum+((bs.drop i).map (·.rows)).sum:=by
  rw[<-List.sum_append,<-V1,X4]
 unfold eM;omega
def oP{bs:List Bd}{i:Nat}{b:Bd}(h:bs[i]? =I b):rowsOf bs i=b.rows:=by
 unfold rowsOf;simp[Vk,h]
def Tc:(Tryz.f37.name == "runtime.NumGoroutine")=U5:=by kernel_rfl
def T0:(Tryz.f38.name == "runtime.NumGoroutine")=U5:=by kernel_rfl
def SY:(VZ.name == "runtime.NumGoroutine")=U5:=by kernel_rfl
def S6:(XM.name == "runtime.NumGoroutine")=U5:=by kernel_rfl
section
variable {W:F}{l:List (bQ×Int)}{bs:List Bd}{ah:List Int}{rs:List bT}{kb eb db:Nat}{dO:Option VI}{cJ lS:Nat->Nat}{co:Option VI}{cb bH:Nat}{ro:Option VI}{rb bF:Nat}{V:Nat->Nat->List aC}
def FM.Us(h:FM W l bs ah rs kb eb dO db cJ lS co cb bH ro rb bF)(q:FQ l bs ah rs V){i:Nat}{b:Bd}(d:bs[i]? =I b):∀r∈rs,As W (cJ i) l.length r.col ((b.chunks.getD r.col.toNat yS).eU):=by
 intro r m;obtain⟨g,s⟩:=q.rk r m;obtain⟨c,e⟩:=XO g;have t:=q.len b (Wv d);have k:c<b.chunks.length:=by omega
 have f:b.chunks[c]? =I b.chunks[c]:=Vf k;have j:b.chunks.getD r.col.toNat yS=b.chunks[c]:=by rw[e,Vk];simp[f]
 rw[j];have a:=λo p n=>h.c i b d c _ f o p n;refine⟨c,e,by omega,h.lc i (Vs.1 d).1,a 1 _ Y,a 2 _ Y,a 3 _ Y,a 4 _ Y,a 5 _ Y,a 6 _ Y,a 7 _ Y⟩
def EL{n:Nat}{b:List Int}{j:Nat}:(aI n b)[j]? =I Z↔j<n/\(j:Int)∈b:=by
 unfold aI;rcases WG j n with a|a
 ·simp[a,List.any_eq_true]
 ·simp[a];omega
def FM.bin(h:FM W l bs ah rs kb eb dO db cJ lS co cb bH ro rb bF)(q:FQ l bs ah rs V){i:Nat}{b:Bd}(a:bs[i]? =I b){g:Nat}(k:W.heap[g]? =I (.cells (ya (aI l.length (ah++rs.map bT.col))).toArray 4 (0,0))):
 Gf (λx=>x=cJ i\/x=kb\/x=eb) W (λj=>(b.chunks.getD j yS).text) (λj=>(l.getD j (⟨⟨#[]⟩,0⟩,0)).1.kind) (λj=>(l.getD j (⟨⟨#[]⟩,0⟩,0)).2) b.rows (cJ i) l.length kb l.length eb l.length g (aI l.length (ah++rs.map bT.col)) (V i):=by
 have r:=q.len b (Wv a);have p:g<W.heap.size:=(U4.1 k).1;refine⟨λx d=>?_,λj e=>?_,p,λj s e=>?_,?_,?_,by omega⟩
 ·rcases d with rfl|rfl|rfl
  ·exact h.lc i (Vs.1 a).1
  ·exact h.lk
  ·exact h.le
 ·have c:=(EL.1 e).1;have d:b.chunks[j]? =I (b.chunks.getD j yS):=by
   have o:j<b.chunks.length:=by omega
   rw[Vk,Vf o];rfl
  have f:l[j]? =I (l.getD j (⟨⟨#[]⟩,0⟩,0)):=by rw[Vk,Vf c];rfl
  obtain⟨m,n⟩:=q.dec i b a j _ _ d f;refine⟨⟨.inl Y,.inr (.inl Y),.inr (.inr Y),c,c,c,?_,h.k j _ f,h.e j _ f⟩,m,n⟩;have:=h.c i b a j _ d 0 _ Y;rw[VV];exact this
 ·unfold Ve;simp only[k,VV,Ze];simp[ya,e]
 ·have:=q.rows b (Wv a);omega
 ·rw[Ec.kR];have:=q.m;omega
end
def iB (fn:XJ):XQ:=match fn.body with
 |some (.seq _ (.seq _ (.seq _ (.seq (.seq _ (.block _ (.loop c))) _))))=>c
 |_=>.skip
def rJ (fn:XJ):XQ:=match fn.body with
 |some (.seq _ (.seq _ (.seq _ (.seq _ c))))=>c
 |_=>.skip
def Fi (fn:XJ):XQ:=match iB fn with
 | .seq _ (.seq _ (.seq (.block _ (.seq _ (.seq (.seq _ (.cond _ c _)) _))) _))=>c
 |_=>.skip
def ud (fn:XJ):List XR:=match iB fn with
 | .seq _ (.seq _ (.seq (.block _ (.seq _ (.seq _ c))) d))=>[.code c,.inBlock 1,.code d,.inLoop (iB fn),.inBlock 0,.code (rJ fn)]
 |_=>[]
structure qj(J:List cg->(Nat->Prop)->F->Prop)(w0 w:F)(M0 M own:Nat->Prop)(q:Array U)(l first n i nb qb wb m:Nat)(bsv:U)(ws:List Bool)(pre:List cg)(a:Xa):Prop where
 kn:Knows a 59 [(18,.int .i64 (i:Int)),(17,.int .i64 (nb:Int)),(16,bsv),(7,.int .i64 (first:Int)),(6,.slice (I ⟨wb,0,K⟩) m m),(4,.int .i64 (n:Int)),(2,(aP qb)),(1,.func (.yield l) #[] #[])]
 df:a.defers=[]
 j:J pre M w
 kept:Kept w0 w M0 M own
 bd:∀b,own b->b<w.heap.size
 oq:own qb
 nq:¬M qb
 lq:w0.heap.size<=qb
 hq:w.heap[qb]? =I (.cells q 68 (0,0))
 ow:own wb
 nw:¬M wb
 lw:w0.heap.size<=wb
 hw:w.heap[wb]? =I (.cells (ya ws).toArray 4 (0,0))
section
variable {Post:U->F->Prop}{J:List cg->(Nat->Prop)->F->Prop}{Go:List cg->Bool}{w0 w:F}{M0 M own:Nat->Prop}{lp first n i qb wb:Nat}{pre:List cg}{a:Xa}{cs:List Vg}{l:List (bQ×Int)}{bs:List Bd}{ah:List Int}{rs:List bT}{kb eb db:Nat}{dO:Option VI}{cJ lS:Nat->Nat}{co:Option VI}{cb bH aG:Nat}{ro:Option VI}{rb bF aK:Nat}{V:Nat->Nat->List aC}{a0 b0:U}{cm:Nat}{sk:Bool}{ws:List Bool}{b:Bd}
def nP{c:F}{q:Array U}{t:Vc}{g:Nat}(h:c.heap[g]? =I (.cells q t (0,0))):c.rangeAt g 0 q.toList:=λe v d=>by
 unfold Ve;simp only[h];rw[VV];simpa using d
def gU{c:F}{q:Array U}{t:Vc}{g o:Nat}{v:U}(h:c.heap[g]? =I (.cells q t (0,0)))(d:q[o]? =I v):c.cell? ⟨g,o,K⟩=I v:=by
 unfold Ve;simp only[h];exact d
def Lf(C:Cons (ax U1) U1 Post lp J Go)(q:FQ l bs ah rs V)(hF:∀g,(∀b,b<w0.heap.size->¬M0 b->nH g w0 b)->w0.heap.size<=g.heap.size->FM g l bs ah rs kb eb dO db cJ lS co cb bH ro rb bF)(f:bs[i]? =I b)(a7:0<bs.length->¬M0 db)
 (h:qj J w0 w M0 M own #[a0,b0,.slice dO bs.length cm,.slice co ah.length aG,.slice ro rs.length aK,.bool sk] lp first n i bs.length qb wb l.length (.slice dO bs.length cm) ws pre a)
 (X:∀own' w' a' e,qj J w0 w' M0 M own' #[a0,b0,.slice dO bs.length cm,.slice co ah.length aG,.slice ro rs.length aK,.bool sk] lp first n i bs.length qb wb l.length (.slice dO bs.length cm) ws pre a'->aS a' 9=(aP e)->own' e->¬M e->w0.heap.size<=e->e≠qb->e≠wb->w'.heap[e]? =I (.cells #[.int .i64 (b.rows:Int),.slice (I ⟨cJ i,0,K⟩) l.length (lS i)] 98 (0,0))->
   Xe (ax U1) U1 Post own' ((base 25).at a' ((if !(sk&&y8 bs rs i) then[.code (Fi Yh)] else[.code .skip])++ud Yh)) cs w'):
 Xe (ax U1) U1 Post own ((base 25).at a [.code (iB Yh),.inLoop (iB Yh),.inBlock 0,.code (rJ Yh)]) cs w:=by
 have d:=eX (ax U1) U1 Post;obtain⟨c,G,a4,r,t,k,al,aa,ba,y,am,ad,bk⟩:=h;have H:i<bs.length:=(Vs.1 f).1;have T:uw KL own w:=λb f=>f.elim YJ (t b);have p:=r.same (λb bA _ h _=>h) (U7 _);have P:=hF w p.1 p.2;have a9:own db:=by
  have s:=hF w0 (λ_ _ _ _ h _=>h) (U7 _);exact(r.keep db (s.ld (by omega)) (a7 (by omega))).1
 obtain rfl:=P.da (by omega);have bv:=q.nb;refine aJ d ?_;refine bg d [0] Y ?_;refine dw d c Y (.bool Z) (jn Y (c.of Y) (c.of Y) (by simp;omega)) λc=>?_;refine aj d ?_;refine aJ d ?_;refine cY d Z (c.of Y) ?_;refine gS d ?_;refine aJ d ?_;refine fO d ?_;refine aJ d ?_;refine bg d [0,1,2,3] Y ?_;refine dw d c Y (.pointer (I ⟨db,0+i*2,K⟩)) (fq Y (c.of Y) (c.of Y) Tryz.underlying64 Tryz.sizeOf98 H) λc=>?_;refine qd d c Y (.agg #[.int .i64 (b.rows:Int),.slice (I ⟨cJ i,0,K⟩) l.length (lS i)]) (eK (cs:=[.int .i64 (b.rows:Int),.slice (I ⟨cJ i,0,K⟩) l.length (lS i)]) Y (c.of Y) Xp Y ov (.inr a9) (P.d i b f)) λc=>?_;refine kg d T (by decide) Y Y (.cells #[.int .i64 0,aM] 98) trivial (λn=>(aP n)) (oL Y Tryz.zeroValue98) λe b1 a8 bd hrel a1=>?_;replace c:=c.put (d:=9) (by decide) (aP e);have U:=T.new a8 bd;refine nY d U (by decide) Y Y (.inr Y) (.cells #[.int .i64 (b.rows:Int),.slice (I ⟨cJ i,0,K⟩) l.length (lS i)] 98) trivial (iy (n:=e) (off:=0) (v:=.agg #[.int .i64 (b.rows:Int),.slice (I ⟨cJ i,0,K⟩) l.length (lS i)]) Y (c.of Y) (c.of Y) ov (λbr S=>by simp[WV] at S;rcases S with rfl|rfl<;>rfl) (ZD (ZD rfl)) a1 (U7 2)) λE j=>?_;replace c:=c.none V9;have bx:=t qb k;have bz:=t wb y;have z:RelB own w E:=⟨λb L=>(j.at_ b (.inr (.inl L)) (by have:=t b L;omega)).trans (hrel.at_ b (.inr L)),Vm hrel.size j.size,j.tape.trans hrel.tape,j.os.trans hrel.os,j.output.trans hrel.output⟩;have u:=r.rel (own':=λb=>own b\/b=e) z (λb h=>.inl h);have W:=C.j4 _ _ _ E a4 (λb f=>z.at_ b (r.rX b f)) z.size;have R:∀b,own b\/b=e->b<E.heap.size:=λb f=>(U.set j) b (.inr f);have D:=(z.at_ qb k).trans ba;have au:=(z.at_ wb y).trans bk;have ar:∀b,M b->b≠e:=λb f F=>by have:=t b (r.rX b f);omega
 have ab:w0.heap.size<=e:=by have:=r.size;omega
 refine aj d ?_;refine aJ d ?_;refine aJ d ?_;refine bg d [0,1,2,3,4,5,6,7,8] Y ?_;refine dw d c Y (.pointer (I ⟨qb,5,K⟩)) (de (off':=5) Y (c.of Y) X3 Y Tryz.sizeOf4 Y) λc=>?_;refine qd d c Y (.bool sk) (bP Y (c.of Y) Tryz.isAgg4 (.inr (.inl k)) (gU D Y)) λc=>?_;refine dw d c Y (.bool (!sk)) (yX Y (c.of Y)) λc=>?_;refine bX d c λc=>?_;cases sk with
 |false=>
  refine tH d c λc=>?_;refine tH d c λc=>?_;refine tH d c λc=>?_;refine tH d c λc=>?_;refine dw d c Y (.bool Z) (yZ Y (c.of Y) Y) λc=>?_;refine aj d ?_;refine cY d Z (c.of Y) ?_;exact X _ E _ e ⟨(((((((c.nil.cons (c.slot 1 _ Y)).cons (c.slot 2 _ Y)).cons (c.slot 4 _ Y)).cons (c.slot 6 _ Y)).cons (c.slot 7 _ Y)).cons (c.slot 16 _ Y)).cons (c.slot 17 _ Y)).cons (c.slot 18 _ Y),by simp only[put_defers];exact G,W,u,R,.inl k,al,aa,D,.inl y,am,ad,au⟩ (c.slot 9 _ Y) (.inr Y) (λh=>ar e h Y) ab (by omega) (by omega) j.set
 |true=>
  refine oZ d (by decide) Y (c.want (d:=25) (want:=U5) (b:=U5) Y Y Y (by decide)) _ (eK (cs:=[a0,b0,.slice (I ⟨db,0,K⟩) bs.length cm,.slice co ah.length aG,.slice ro rs.length aK,.bool Z]) Y (c.of Y) X3 Y vj (.inr (.inl k)) (nP D)) ?_;replace c:=c.put (d:=26) (by decide) (qv a0 b0 (.slice (I ⟨db,0,K⟩) bs.length cm) (.slice co ah.length aG) (.slice ro rs.length aK) Z);refine oZ d (by decide) Y (c.want (d:=25) (want:=U5) (b:=U5) Y Y Y (by decide)) _ (eK (cs:=[.int .i64 (b.rows:Int),.slice (I ⟨cJ i,0,K⟩) l.length (lS i)]) Y (c.of Y) Xp Y ov (.inr (.inr Y)) (nP j.set)) ?_;replace c:=c.put (d:=27) (by decide) (.agg #[.int .i64 (b.rows:Int),.slice (I ⟨cJ i,0,K⟩) l.length (lS i)]);refine DG (R:=λg F O=>∃o,F= .returned (.bool o)/\o=y8 bs rs i) bI Y Y (c.want (d:=25) (want:=U5) (b:=U5) Y Y Y (by decide)) Y (xW (c.of Y) (c.of Y)) Tryz.func38 T0 Y (iW Y Y Y).symm (bL Y (by simp only[put_defers];exact G) (by kernel_rfl)) (λg p N=>?_) λv A g O p N bt bi bu m=>?_
  ·have Q:=hF g (u.same p N).1 (u.same p N).2;refine(n6 rs (λbm=>(b.chunks.getD bm.toNat yS).eU) (b.rows:Int) (cJ i) l.length (lS i) a0 b0 (.slice (I ⟨db,0,K⟩) bs.length cm) (.slice co ah.length aG) ro rb bF aK Z g q.rn Q.nr (Q.Us q f)).mono λF O h=>?_;obtain⟨o,rfl,s,aw⟩:=h;refine⟨aw,_,rfl,o,rfl,?_⟩;have a3:bs.getD i ⟨0,[]⟩=b:=by rw[Vk,f];rfl
   unfold y8;rw[a3];cases B:o with
   |true=>
    symm
    rw[B] at s;apply Xh;intro ae;simp only[Bool.not_eq_true,List.any_eq_false] at ae;have:∀i (h:i<rs.length),Ec.AR ((b.chunks.getD rs[i].col.toNat yS).eU) rs[i]=U5:=λi H=>by
     have:=ae rs[i] (Vn H);simpa using this
    have:=s.2 this;cases this
   |false=>
    symm
    rw[List.any_eq_false];intro bB bc;obtain⟨bo,be,rfl⟩:=List.mem_iff_getElem.1 bc;have:=(s.1 B) bo be;simpa using this
  ·obtain⟨o,B,rfl⟩:=bi;cases B;have a6:=u.rel (own':=grown (λb=>own b\/b=e) g.heap.size A.heap.size) m (λb h=>.inl h);have a5:=C.j4 _ _ _ A W (λb f=>m.at_ b (u.rX b f)) m.size;have bb:=(m.at_ qb (.inl k)).trans D;have bl:=(m.at_ wb (.inl y)).trans au;have bj:=(m.at_ e (.inr Y)).trans j.set;have a2:∀b,grown (λb=>own b\/b=e) g.heap.size A.heap.size b->b<A.heap.size:=λb f=>f.elim (λh=>U9 (R b h) m.size) (λh=>h.2);replace c:=c.put (d:=28) (by decide) (.bool (y8 bs rs i));refine mP d (by decide) Y (c.want (d:=25) (want:=U5) (b:=U5) Y Y Y (by decide)) _ (yX Y (c.of Y)) ?_;replace c:=c.put (d:=29) (by decide) (.bool (!y8 bs rs i));refine dw d c Y (.bool (!y8 bs rs i)) (yY Y (c.of Y) (c.of Y)) λc=>?_;refine aj d ?_;refine cY d (!y8 bs rs i) (c.of Y) ?_;have x:=X _ A _ e ⟨(((((((c.nil.cons (c.slot 1 _ Y)).cons (c.slot 2 _ Y)).cons (c.slot 4 _ Y)).cons (c.slot 6 _ Y)).cons (c.slot 7 _ Y)).cons (c.slot 16 _ Y)).cons (c.slot 17 _ Y)).cons (c.slot 18 _ Y),by simp only[put_defers];exact G,a5,a6,a2,.inl (.inl k),al,aa,bb,.inl (.inl y),am,ad,bl⟩ (c.slot 9 _ Y) (.inl (.inr Y)) (λh=>ar e h Y) ab (by omega) (by omega) bj;rw[Bool.true_and] at x;cases ao:y8 bs rs i with
   |true=>rw[ao] at x;exact x
   |false=>rw[ao] at x;exact x
end
end Cc
namespace Cc
open Go Go.Conc
open Go.RowKit (Below)
open Ec (aC az bT dK tC As AO qv bQ Bd j8 lZ dF aI ya)
def dR (kb g ck eb f ce:Nat)(dO:Option VI)(d cm:Nat)(co:Option VI)(e aG:Nat)(ro:Option VI)(h aK:Nat)(sk:Bool):Array U:= #[.slice (I ⟨kb,0,K⟩) g ck,.slice (I ⟨eb,0,K⟩) f ce,.slice dO d cm,.slice co e aG,.slice ro h aK,.bool sk]
section
variable {Post:U->F->Prop}{J:List cg->(Nat->Prop)->F->Prop}{Go:List cg->Bool}{w0 w:F}{M0 M own:Nat->Prop}{lp first n i qb wb vb:Nat}{pre:List cg}{a:Xa}{cs:List Vg}{l:List (bQ×Int)}{bs:List Bd}{ah:List Int}{rs:List bT}{kb ck eb ce db:Nat}{dO:Option VI}{cJ lS:Nat->Nat}{co:Option VI}{cb bH aG:Nat}{ro:Option VI}{rb bF aK:Nat}{V:Nat->Nat->List aC}{cm:Nat}{sk:Bool}{b:Bd}{c:Vg}
def Jl{ws:List Bool}(g:bs[i]? =I b):Jk bs ws V i=Z↔∀j,ws[j]? =I Z->(V i j).length=b.rows:=by
 unfold Jk;rw[oP g,Vx];constructor
 ·intro f j d;have e:j<ws.length:=(Vs.1 d).1;have:=f j (WK.2 e);rw[Vk,d] at this;simpa using this
 ·intro f j d;have e:=WK.1 d;rw[Vk,Vf e];cases h:ws[j] with
  |false=>simp
  |true=>
   have:=f j (by rw[Vf e,h]);simp[this]
def P5{e w5:F}{lb N:Nat}{g:Nat->Nat}(q:FQ l bs ah rs V)(f:FM e l bs ah rs kb eb dO db cJ lS co cb bH ro rb bF)(u:e.heap[lb]? =I (.cells (eW (aI l.length (ah++rs.map bT.col)) g (V i) N (aI l.length (ah++rs.map bT.col)).length).toArray 55 (0,0)))(B:∀j,(aI l.length (ah++rs.map bT.col))[j]? =I Z->Row e (g j) N (V i j))(A:∀j,(aI l.length (ah++rs.map bT.col))[j]? =I Z->(V i j).length=N):
 T4 e ah rs co cb bH ro rb bF lb l.length N (Dz V i):=by
 refine⟨f.ca,f.cl,f.cc,f.nr,λr L k h=>?_⟩;have y:(0<=k/\k<(l.length:Int))/\k∈ah++rs.map bT.col:=by
  rcases h with h|⟨v,d,rfl⟩
  ·exact⟨q.ck k h,List.mem_append_left _ h⟩
  ·exact⟨q.rk v d,List.mem_append_right _ (Wu.2 ⟨v,d,rfl⟩)⟩
 obtain⟨⟨x,G⟩,z⟩:=y;obtain⟨j,rfl⟩:=XO x;have m:j<l.length:=by omega
 have p:=EL.2 ⟨m,z⟩;have K:=A j p;obtain⟨⟨E,s,H,C⟩,_⟩:=B j p;have o:r<(V i j).length:=by omega
 have d:=vt s C o;have D:Dz V i (j:Int) r=(V i j)[r]:=by
  unfold Dz;rw[Int.toNat_natCast,Vk,Vf o];rfl
 rw[D];refine⟨j,g j,(V i j).length,N,rfl,m,(U4.1 u).1,?_,o,(U4.1 s).1,?_,?_,?_⟩
 ·unfold Ve;simp only[u];have t:j<(aI l.length (ah++rs.map bT.col)).length:=by rw[Ec.kR];exact m
  have:=mX (ws:=aI l.length (ah++rs.map bT.col)) (g:=g) (V:=V i) (N:=N) (i:=(aI l.length (ah++rs.map bT.col)).length) t;rw[if_pos ⟨t,p⟩] at this;simpa using this
 ·have:=d 0 _ Y;rw[VV,Nat.add_zero] at this;exact this
 ·have:=d 1 _ Y;rw[VV] at this;exact this
 ·have:=d 2 _ Y;rw[VV] at this;exact this
end
section
variable {Post:U->F->Prop}{J:List cg->(Nat->Prop)->F->Prop}{Go:List cg->Bool}{w0 w:F}{M0 M own:Nat->Prop}{lp first n i qb wb vb:Nat}{pre:List cg}{a:Xa}{cs:List Vg}{l:List (bQ×Int)}{bs:List Bd}{ah:List Int}{rs:List bT}{kb ck eb ce db:Nat}{dO:Option VI}{cJ lS:Nat->Nat}{co:Option VI}{cb bH aG:Nat}{ro:Option VI}{rb bF aK:Nat}{V:Nat->Nat->List aC}{cm:Nat}{sk:Bool}{b:Bd}{c:Vg}
def mK{a:Xa}{x:V4}{u:U}(h1:a.eval x=u): #[x].map a.eval=#[u]:=by simp[h1]
def Mp{a:Xa}{x y z u v:V4}{f g h d e:U}(h1:a.eval x=f)(j:a.eval y=g)(k:a.eval z=h)(m:a.eval u=d)(o:a.eval v=e): #[x,y,z,u,v].map a.eval=#[f,g,h,d,e]:=by simp[h1,j,k,m,o]
def BO(q:FQ l bs ah rs V)(g:bs[i]? =I b)(C:first<=100000)(D:i<bs.length)
 (h:qj J w0 w M0 M own (dR kb l.length ck eb l.length ce dO bs.length cm co ah.length aG ro rs.length aK sk) lp first n i bs.length qb wb l.length (.slice dO bs.length cm) (aI l.length (ah++rs.map bT.col)) pre a) (f:aS a 9=(aP vb)) (x:own vb) (A:w.heap[vb]? =I (.cells #[.int .i64 (b.rows:Int),.slice (I ⟨cJ i,0,K⟩) l.length (lS i)] 98 (0,0)))
 (o:∀a',qj J w0 w M0 M own (dR kb l.length ck eb l.length ce dO bs.length cm co ah.length aG ro rs.length aK sk) lp (first+b.rows) n (i+1) bs.length qb wb l.length (.slice dO bs.length cm) (aI l.length (ah++rs.map bT.col)) pre a'->Xe (ax U1) U1 Post own ((base 25).at a' [.code (iB Yh),.inLoop (iB Yh),.inBlock 0,.code (rJ Yh)]) cs w):
 Xe (ax U1) U1 Post own ((base 25).at a (ud Yh)) cs w:=by
 have e:=eX (ax U1) U1 Post;obtain⟨d,k,m,p,j,v,t,r,z,y,u,s,B⟩:=h;have F:=q.rows b (Wv g);have E:=q.nb;replace d:=d.cons f;refine bg e [0,1,2,3,4] Y ?_;refine bX e d λd=>?_;refine dw e d Y (aP vb) (de (off':=0) Y (d.of Y) Xp Y Y5 Y) λd=>?_;refine qd e d Y (.int .i64 (b.rows:Int)) (bP Y (d.of Y) Zt (.inr x) (gU A Y)) λd=>?_;refine dw e d Y (.int .i64 ((first+b.rows:Nat):Int)) (n9 Y (d.of Y) (d.of Y) (by omega)) λd=>?_;refine gw e d λd=>?_;refine aj e ?_;refine gM e ?_;refine bg e [0,1] Y ?_;refine dw e d Y (.int .i64 ((i+1:Nat):Int)) (n9 (j:=1) Y (d.of Y) Y (by omega)) λd=>?_;refine bX e d λd=>?_;refine aj e ?_;refine kZ e ?_;exact o _ ⟨(((((((d.nil.cons (d.slot 1 _ Y)).cons (d.slot 2 _ Y)).cons (d.slot 4 _ Y)).cons (d.slot 6 _ Y)).cons (d.slot 7 _ Y)).cons (d.slot 16 _ Y)).cons (d.slot 17 _ Y)).cons (d.slot 18 _ Y),by simp only[put_defers];exact k,m,p,j,v,t,r,z,y,u,s,B⟩
def vu(C:Cons (ax U1) U1 Post lp J Go)(br:Go pre=Z)(q:FQ l bs ah rs V)(hF:∀y,(∀b,b<w0.heap.size->¬M0 b->nH y w0 b)->w0.heap.size<=y.heap.size->FM y l bs ah rs kb eb dO db cJ lS co cb bH ro rb bF)(f:bs[i]? =I b)(bx:first=eM bs i)(cx:pre.length<=first)(cv:n<=100000)
 (h:qj J w0 w M0 M own (dR kb l.length ck eb l.length ce dO bs.length cm co ah.length aG ro rs.length aK sk) lp first n i bs.length qb wb l.length (.slice dO bs.length cm) (aI l.length (ah++rs.map bT.col)) pre a) (bo:aS a 9=(aP vb)) (ab:own vb) (b5:¬M vb) (cu:w0.heap.size<=vb) (be:w.heap[vb]? =I (.cells #[.int .i64 (b.rows:Int),.slice (I ⟨cJ i,0,K⟩) l.length (lS i)] 98 (0,0)))
 (bv:Jk bs (aI l.length (ah++rs.map bT.col)) V i=U5->∀own' w',J pre M w'->Kept w0 w' M0 M own'->(∀b,own' b->b<w'.heap.size)->Xe (ax U1) U1 Post own' (c.finish (.tuple #[.int .i64 ((n+1:Nat):Int),.int .i64 3])) cs w')
 (cd:Jk bs (aI l.length (ah++rs.map bT.col)) V i=Z->(feed Go pre (fL bs ah rs V i)).2=U5->∀own' u w',J (feed Go pre (fL bs ah rs V i)).1 u w'->Kept w0 w' M0 u own'->(∀b,own' b->b<w'.heap.size)->Xe (ax U1) U1 Post own' (c.finish (.tuple #[.int .i64 ((n+1:Nat):Int),.int .i64 0])) cs w')
 (bB:Jk bs (aI l.length (ah++rs.map bT.col)) V i=Z->(feed Go pre (fL bs ah rs V i)).2=Z->∀own' u w' a',qj J w0 w' M0 u own' (dR kb l.length ck eb l.length ce dO bs.length cm co ah.length aG ro rs.length aK sk) lp first (n+1) i bs.length qb wb l.length (.slice dO bs.length cm) (aI l.length (ah++rs.map bT.col)) (feed Go pre (fL bs ah rs V i)).1 a'->aS a' 9=(aP vb)->own' vb->w'.heap[vb]? =I (.cells #[.int .i64 (b.rows:Int),.slice (I ⟨cJ i,0,K⟩) l.length (lS i)] 98 (0,0))->Xe (ax U1) U1 Post own' ((base 25).at a' (ud Yh)) (c::cs) w'):
 Xe (ax U1) U1 Post own ((base 25).at a (.code (Fi Yh)::ud Yh)) (c::cs) w:=by
 have e:=eX (ax U1) U1 Post;obtain⟨d,F,x,p,A,aa,a8,b3,bb,ad,a9,b4,bi⟩:=h;have cB:=q.rows b (Wv f);have a4:(aI l.length (ah++rs.map bT.col)).length=l.length:=Ec.kR _ _;have bz:eM bs (i+1)<=2000:=Vm (mU bs (i+1)) q.tot;rw[me f] at bz;replace d:=d.cons bo;refine aJ e ?_;refine bg e [0,1,2] Y ?_;refine bX e d λd=>?_;refine dw e d Y (.int .i64 ((n+1:Nat):Int)) (n9 (j:=1) Y (d.of Y) Y (by omega)) λd=>?_;refine gw e d λd=>?_;refine aj e ?_;refine aJ e ?_;refine bg e [0,1,2,3,4,5,6,7,8,9] Y ?_;refine qd e d Y (pV (b.rows:Int) (cJ i) l.length (lS i)) (eK (cs:=[.int .i64 (b.rows:Int),.slice (I ⟨cJ i,0,K⟩) l.length (lS i)]) Y (d.of Y) Xp Y ov (.inr ab) (nP be)) λd=>?_;refine dw e d Y (aP qb) (de (off':=0) Y (d.of Y) X3 Y Tryz.sizeOf66 Y) λd=>?_;refine oZ e (by decide) Y Y _ (eK (cs:=[.slice (I ⟨kb,0,K⟩) l.length ck,.slice (I ⟨eb,0,K⟩) l.length ce,.slice dO bs.length cm]) Y (d.of Y) Tryz.underlying66 Y Bp (.inr aa) (λE v x=>nP bb E v (by
  rcases E with _|_|_|E
  ·exact x
  ·exact x
  ·exact x
  ·simp at x))) ?_
 replace d:=d.put (d:=36) (by decide) (pZ kb l.length ck eb l.length ce (.slice dO bs.length cm));refine bX e d λd=>?_;refine oa (R:=λt=>Q8 t b.rows (aI l.length (ah++rs.map bT.col)) (V i)) (vs:= #[pV (b.rows:Int) (cJ i) l.length (lS i),pZ kb l.length ck eb l.length ce (.slice dO bs.length cm),.slice (I ⟨wb,0,K⟩) l.length l.length]) Y Y Y Y (Cl (d.of Y) (d.of Y) (d.of Y)) Tryz.func39 SY Y (bL Y (by simp only[put_defers];exact F) (by kernel_rfl)) (λt s=>?_) (λt v g s N ae b6=>?_) (λt bl w' ⟨_,_,_,o,_⟩=>by cases o) (λt w' ⟨_,_,_,o,_⟩=>by cases o)
 ·have a2:=p.rel s (λb h=>h);have R:=hF t (a2.same (λb O _ h _=>h) (U7 _)).1 a2.size;have:=Gp (Post:=Post) (cap:=lS i) (ck:=ck) (ce:=ce) (x:=.slice dO bs.length cm) (iS:=l.length) (R.bin q f ((s.at_ wb ad).trans bi));rw[a4] at this;exact this
 ·obtain⟨am,lN,m,o,ar,b2,a5,b8,W⟩:=N;cases o;rw[a4];have X:Jk bs (aI l.length (ah++rs.map bT.col)) V i=lN:=by
   cases lN with
   |true=>exact(Jl f).2 (W.1 Y)
   |false=>
    cases o:Jk bs (aI l.length (ah++rs.map bT.col)) V i with
    |false=>rfl
    |true=>exact absurd (W.2 ((Jl f).1 o)) (by decide)
  have G:∀b,own b->g.heap[b]? =w.heap[b]? :=λb ba=>(ar.block b (U9 (A b ba) s.size)).trans (s.at_ b ba);have D:w.heap.size<=g.heap.size:=Vm s.size ar.size;have j:Kept w0 g M0 M (λb=>b<g.heap.size):=⟨λb f k=>⟨by have:=p.size;show b<g.heap.size;omega,(G b (p.keep b f k).1).trans (p.keep b f k).2⟩,p.ext,λb f=>U9 (A b (p.rX b f)) D,Vm p.size D,ae.tape.trans (s.tape.trans p.tape),ae.os.trans (s.os.trans p.os),ae.output.trans (s.output.trans p.output)⟩;have a1:=C.j4 _ _ _ g x (λb f=>G b (p.rX b f)) D;have bc:=(G qb aa).trans bb;have ch:=(G wb ad).trans bi;have N:=(G vb ab).trans be;have ao:qb<g.heap.size:=U9 (A qb aa) D;have bk:wb<g.heap.size:=U9 (A wb ad) D;have bj:vb<g.heap.size:=U9 (A vb ab) D;refine Xe.go (own:=λb=>b<g.heap.size) ?_ (λb h=>h) b6;replace d:=d.put (d:=38) (by decide) (.tuple #[.slice (I ⟨am,0,K⟩) l.length l.length,.bool lN]);refine bX e d λd=>?_;refine qu e d λd=>?_;refine qu e d λd=>?_;refine gw e d λd=>?_;refine gw e d λd=>?_;refine aj e ?_;refine aJ e ?_;refine aJ e ?_;refine bg e [0,1] Y ?_;refine bX e d λd=>?_;refine dw e d Y (.bool (!lN)) (yX Y (d.of Y)) λd=>?_;refine aj e ?_;cases lN with
  |false=>
   refine cY e Z (d.of Y) ?_;refine aJ e ?_;refine bg e [0,1,2] Y ?_;refine bX e d λd=>?_;refine gw e d λd=>?_;refine oz e d (.int .i64 3) λd=>?_;refine aj e ?_;refine oB e ?_;have H:=gI (P:=U1) Tryz.results25 (d.slot 4 _ Y) (d.slot 5 _ Y);exact ig e Y (by simp only[put_defers];exact F) Tryz.func25 H.1 H.2 (bv X _ g a1 j (λb h=>h))
  |true=>
   have bu:=W.1 Y;refine cY e U5 (d.of Y) ?_;refine gS e ?_;refine aJ e ?_;refine bg e [0,1,2,3,4,5,6,7] Y ?_;refine qd e d Y (qv (.slice (I ⟨kb,0,K⟩) l.length ck) (.slice (I ⟨eb,0,K⟩) l.length ce) (.slice dO bs.length cm) (.slice co ah.length aG) (.slice ro rs.length aK) sk) (eK (cs:=(dR kb l.length ck eb l.length ce dO bs.length cm co ah.length aG ro rs.length aK sk).toList) Y (d.of Y) X3 Y vj (.inr ao) (nP bc)) λd=>?_;refine bX e d λd=>?_;refine bX e d λd=>?_;refine dw e d Y (aP vb) (de (off':=0) Y (d.of Y) Xp Y Y5 Y) λd=>?_;refine qd e d Y (.int .i64 (b.rows:Int)) (bP Y (d.of Y) Zt (.inr bj) (gU N Y)) λd=>?_;refine bX e d λd=>?_;refine oa (R:=λP=>Rb J M P (feed Go pre (fL bs ah rs V i))) (vs:= #[qv (.slice (I ⟨kb,0,K⟩) l.length ck) (.slice (I ⟨eb,0,K⟩) l.length ce) (.slice dO bs.length cm) (.slice co ah.length aG) (.slice ro rs.length aK) sk,.slice (I ⟨am,0,K⟩) l.length l.length,.int .i64 (first:Int),.int .i64 (b.rows:Int),.func (.yield lp) #[] #[]]) Y Y Y Y (Mp (d.of Y) (d.of Y) (d.of Y) (d.of Y) (d.of Y)) Tryz.func40 S6 Y (bL Y (by simp only[put_defers];exact F) (by kernel_rfl)) (λP r=>?_) (λP v B r cf al b7=>?_) (λt bl w' ⟨o,_⟩=>by cases o) (λt w' ⟨o,_⟩=>by cases o)
   ·have b0:=C.j4 _ _ _ P a1 (λb f=>r.at_ b (j.rX b f)) r.size;have a0:fL bs ah rs V i=dS (nL rs (Dz V i)) (λcl=>ah.map λci=>Dz V i ci cl) first 0 b.rows:=by
     unfold fL;rw[oP f,bx]
    rw[a0];refine GW (val:=Dz V i) (cb:=cb) (bH:=bH) (rb:=rb) (bF:=bF) C br b0 (λy bt ca=>?_) (by omega) q.cn q.rn (by omega);have z:∀b,b<g.heap.size->¬M b->nH y g b:=λb f k O U S=>bt b (U9 f r.size) k O ((r.at_ b f).trans U) S;have au:∀b,M b->b<t.heap.size:=λb f=>U9 (A b (p.rX b f)) s.size;have R:=hF y (λb f k O U S=>z b (j.keep b f k).1 (λh=>(j.ext b h).elim k (λh=>by omega)) O ((j.keep b f k).2.trans U) S) (Vm j.size (Vm r.size ca));have a6:∀m,t.heap.size<=m->m<g.heap.size->nH y g m:=λm cp bm=>z m bm (λh=>by have:=au m h;omega);refine P5 (g:=m) (w5:=g) q R (a6 am b2 (U4.1 a5).1 _ a5 trivial) (λE x=>?_) bu;obtain⟨bd,bA⟩:=b8 E x;obtain⟨cn,T,_⟩:=bd.ex;exact bd.same ((a6 (m E) bA (U4.1 T).1 _ T trivial).trans T.symm)
   ·obtain⟨o,u,Q,b1,cR,aw⟩:=cf;cases o;have cc:=r.size;have z:∀b,b<g.heap.size->¬M b->B.heap[b]? =g.heap[b]? :=λb f k=>(b1 b (U9 f cc) k).trans (r.at_ b f);have au:∀b,M b->b<w.heap.size:=λb f=>A b (p.rX b f);have a3:Kept w0 B M0 u (λb=>b<B.heap.size):=⟨λb f k=>⟨by have:=j.size;show b<B.heap.size;omega,(z b (j.keep b f k).1 (λh=>(j.ext b h).elim k (λh=>by omega))).trans (j.keep b f k).2⟩,λb f=>(aw b f).elim (j.ext b) (λh=>.inr (by have:=j.size;omega)),λb f=>C.bound _ _ _ Q b f,by have:=j.size;omega,al.tape.trans (r.tape.trans j.tape),al.os.trans (r.os.trans j.os),al.output.trans (r.output.trans j.output)⟩;have a7:∀m,m<g.heap.size->¬M m->¬u m:=λm a0 k h=>(aw m h).elim k (λh=>by omega);refine Xe.go (own:=λb=>b<B.heap.size) ?_ (λb h=>h) b7;replace d:=d.put (d:=50) (by decide) (.bool (feed Go pre (fL bs ah rs V i)).2);refine dw e d Y (.bool (!(feed Go pre (fL bs ah rs V i)).2)) (yX Y (d.of Y)) λd=>?_;refine aj e ?_;cases L:(feed Go pre (fL bs ah rs V i)).2 with
    |false=>
     rw[L] at d;refine cY e Z (d.of Y) ?_;refine aJ e ?_;refine bg e [0,1,2] Y ?_;refine bX e d λd=>?_;refine gw e d λd=>?_;refine oz e d (.int .i64 0) λd=>?_;refine aj e ?_;refine oB e ?_;have H:=gI (P:=U1) Tryz.results25 (d.slot 4 _ Y) (d.slot 5 _ Y);exact ig e Y (by simp only[put_defers];exact F) Tryz.func25 H.1 H.2 (cd X L _ u B Q a3 (λb h=>h))
    |true=>
     rw[L] at d;refine cY e U5 (d.of Y) ?_;refine gS e ?_;exact bB X L _ u B _ ⟨(((((((d.nil.cons (d.slot 1 _ Y)).cons (d.slot 2 _ Y)).cons (d.slot 4 _ Y)).cons (d.slot 6 _ Y)).cons (d.slot 7 _ Y)).cons (d.slot 16 _ Y)).cons (d.slot 17 _ Y)).cons (d.slot 18 _ Y),by simp only[put_defers];exact F,Q,a3,(λb h=>h),by show qb<_;omega,a7 qb ao a8,b3,(z qb ao a8).trans bc,by show wb<_;omega,a7 wb bk a9,b4,(z wb bk a9).trans ch⟩ (d.slot 9 _ Y) (by show vb<_;omega) ((z vb bj b5).trans N)
end
end Cc
namespace Cc
open Go Go.Conc
open Go.RowKit (Below)
open Ec (aC az bT dK tC As AO qv bQ Bd j8 lZ dF aI ya pN)
section
variable {Post:U->F->Prop}{J:List cg->(Nat->Prop)->F->Prop}{Go:List cg->Bool}{w0 w:F}{M0 M own:Nat->Prop}{lp first n i qb wb vb:Nat}{pre:List cg}{a:Xa}{cs:List Vg}{l:List (bQ×Int)}{bs:List Bd}{ah:List Int}{rs:List bT}{kb ck eb ce db:Nat}{dO:Option VI}{cJ lS:Nat->Nat}{co:Option VI}{cb bH aG:Nat}{ro:Option VI}{rb bF aK:Nat}{V:Nat->Nat->List aC}{cm:Nat}{sk:Bool}{b:Bd}{c:Vg}
def N5(h:qj J w0 w M0 M own (dR kb l.length ck eb l.length ce dO bs.length cm co ah.length aG ro rs.length aK sk) lp first n bs.length bs.length qb wb l.length (.slice dO bs.length cm) (aI l.length (ah++rs.map bT.col)) pre a)(g:Xe (ax U1) U1 Post own (c.finish (.tuple #[.int .i64 (n:Int),.int .i64 0])) cs w):
 Xe (ax U1) U1 Post own ((base 25).at a [.code (iB Yh),.inLoop (iB Yh),.inBlock 0,.code (rJ Yh)]) (c::cs) w:=by
 have d:=eX (ax U1) U1 Post;have e:=h.kn;refine aJ d ?_;refine bg d [0] Y ?_;refine dw d e Y (.bool U5) (jn Y (e.of Y) (e.of Y) (by simp)) λe=>?_;refine aj d ?_;refine aJ d ?_;refine cY d U5 (e.of Y) ?_;refine sP d (k':=[.code (rJ Yh)]) Y ?_;refine aJ d ?_;refine bg d [0,1,2] Y ?_;refine bX d e λe=>?_;refine gw d e λe=>?_;refine oz d e (.int .i64 0) λe=>?_;refine aj d ?_;refine oB d ?_;have f:=gI (P:=U1) Tryz.results25 (e.slot 4 _ Y) (e.slot 5 _ Y);exact ig d Y (by simp only[put_defers];exact h.df) Tryz.func25 f.1 f.2 g
def Lg(C:Cons (ax U1) U1 Post lp J Go)(q:FQ l bs ah rs V)(hF:∀y,(∀b,b<w0.heap.size->¬M0 b->nH y w0 b)->w0.heap.size<=y.heap.size->FM y l bs ah rs kb eb dO db cJ lS co cb bH ro rb bF)(R:0<bs.length->¬M0 db):
 ∀(r i:Nat),i+r=bs.length->∀(pre:List cg) (own M:Nat->Prop) (w:F) (a:Xa) (n:Nat),Go pre=Z->n<=i->pre.length<=eM bs i->
 qj J w0 w M0 M own (dR kb l.length ck eb l.length ce dO bs.length cm co ah.length aG ro rs.length aK sk) lp (eM bs i) n i bs.length qb wb l.length (.slice dO bs.length cm) (aI l.length (ah++rs.map bT.col)) pre a->
 (∀own' j w',J (bV sk bs ah rs (aI l.length (ah++rs.map bT.col)) V Go i r pre n).1 j w'->Kept w0 w' M0 j own'->(∀b,own' b->b<w'.heap.size)->Xe (ax U1) U1 Post own' (c.finish (.tuple #[.int .i64 ((bV sk bs ah rs (aI l.length (ah++rs.map bT.col)) V Go i r pre n).2.1:Int),.int .i64 ((bV sk bs ah rs (aI l.length (ah++rs.map bT.col)) V Go i r pre n).2.2:Int)])) cs w')->
 Xe (ax U1) U1 Post own ((base 25).at a [.code (iB Yh),.inLoop (iB Yh),.inBlock 0,.code (rJ Yh)]) (c::cs) w:=by
 intro r
 induction r with
 |zero=>
  intro i P pre own M w a n k Q u d e;have:i=bs.length:=by omega
  subst this;exact N5 d (e own M w d.j d.kept d.bd)
 |succ r L=>
  intro i P pre own M w a n k Q u d e;have E:i<bs.length:=by omega
  have f:bs[i]? =I bs[i]:=Vf E;generalize bs[i]=b at f;have al:=q.nb;have ab:=Vm (mU bs (i+1)) q.tot;have K:=me f;refine Lf C q hF f R d λU W aa vb p s t H G am ao x=>?_;cases v:(sk&&y8 bs rs i) with
  |true=>
   have g:bV sk bs ah rs (aI l.length (ah++rs.map bT.col)) V Go i (r+1) pre n=bV sk bs ah rs (aI l.length (ah++rs.map bT.col)) V Go (i+1) r pre n:=by simp only[bV,v,if_true]
   rw[g] at e;refine gS (eX (ax U1) U1 Post) ?_;refine BO q f (by omega) E p s t x λz m=>?_;rw[<-K] at m;exact L (i+1) (by omega) pre U M W z n k (by omega) (by omega) m e
  |false=>
   cases h:Jk bs (aI l.length (ah++rs.map bT.col)) V i with
   |false=>
    have g:bV sk bs ah rs (aI l.length (ah++rs.map bT.col)) V Go i (r+1) pre n=(pre,n+1,3):=by simp only[bV,v,h,Vv,if_false]
    rw[g] at e;exact vu C k q hF f Y u (by omega) p s t H G x (λ_ own' w' B D A=>e own' M w' B D A) (λd=>by rw[h] at d;cases d) (λd=>by rw[h] at d;cases d)
   |true=>
    cases o:(feed Go pre (fL bs ah rs V i)).2 with
    |false=>
     have g:bV sk bs ah rs (aI l.length (ah++rs.map bT.col)) V Go i (r+1) pre n=((feed Go pre (fL bs ah rs V i)).1,n+1,0):=by simp only[bV,v,h,o,Vv,if_false,if_true]
     rw[g] at e;exact vu C k q hF f Y u (by omega) p s t H G x (λd=>by rw[h] at d;cases d) (λ_ _ own' j w' B D A=>e own' j w' B D A) (λ_ d=>by rw[o] at d;cases d)
    |true=>
     have g:bV sk bs ah rs (aI l.length (ah++rs.map bT.col)) V Go i (r+1) pre n=bV sk bs ah rs (aI l.length (ah++rs.map bT.col)) V Go (i+1) r (feed Go pre (fL bs ah rs V i)).1 (n+1):=by simp only[bV,v,h,o,Vv,if_false,if_true]
     rw[g] at e;refine vu C k q hF f Y u (by omega) p s t H G x (λd=>by rw[h] at d;cases d) (λ_ d=>by rw[o] at d;cases d) (λ_ _ own' j w' X N O S T=>?_);refine BO q f (by omega) E N O S T λz m=>?_;rw[<-K] at m;have ad:=qA Go (fL bs ah rs V i) pre;have ae:(fL bs ah rs V i).length<=b.rows:=by
      unfold fL;rw[oP f];exact lW _ _ _ _ _
     exact L (i+1) (by omega) _ own' j w' z (n+1) (I9 Go _ _ k o) (by omega) (by omega) m e
def Rf (J:List cg->(Nat->Prop)->F->Prop)(M0:Nat->Prop)(w0:F)(d:List cg×Nat×Nat)(f:X6)(w':F):Prop:=
 f= .returned (.tuple #[.int .i64 (d.2.1:Int),.int .i64 (d.2.2:Int)])/\∃e,J d.1 e w'/\(∀b,b<w0.heap.size->¬M0 b->w'.heap[b]? =w0.heap[b]?)/\w0.heap.size<=w'.heap.size/\∀b,e b->M0 b\/w0.heap.size<=b
def HJ(C:Cons (ax U1) U1 Post lp J Go)(R:Go []=Z)(q:FQ l bs ah rs V)(F:J [] M0 w0)(hF:∀h,(∀b,b<w0.heap.size->¬M0 b->nH h w0 b)->w0.heap.size<=h.heap.size->FM h l bs ah rs kb eb dO db cJ lS co cb bH ro rb bF)(ar:0<bs.length->¬M0 db):
 kq (ax U1) U1 Post 25 #[qv (.slice (I ⟨kb,0,K⟩) l.length ck) (.slice (I ⟨eb,0,K⟩) l.length ce) (.slice dO bs.length cm) (.slice co ah.length aG) (.slice ro rs.length aK) sk,.func (.yield lp) #[] #[]] w0 (Rf J M0 w0 (bV sk bs ah rs (aI l.length (ah++rs.map bT.col)) V Go 0 bs.length [] 0)):=by
 intro c cs a2 ba aw S;have e:=eX (ax U1) U1 Post;refine Xe.go (own:=λb=>b<w0.heap.size) ?_ (λb f=>f) aw;rw[enter_at _ Tryz.func25 Y];have d:=Ut (qv (.slice (I ⟨kb,0,K⟩) l.length ck) (.slice (I ⟨eb,0,K⟩) l.length ce) (.slice dO bs.length cm) (.slice co ah.length aG) (.slice ro rs.length aK) sk) (.func (.yield lp) #[] #[]) 59 (by decide);have ab:uw KL (λb=>b<w0.heap.size) w0:=λb g=>g.elim YJ (λf=>f);have t:=C.bound _ _ _ F;have ao:Kept w0 w0 M0 M0 (λb=>b<w0.heap.size):=⟨λb g _=>⟨g,rfl⟩,λb g=>.inl g,t,U7 _,rfl,rfl,rfl⟩;refine aJ e ?_;refine bg e [0,1,2] Y ?_;refine kg e ab (by decide) Y Y (.cells (dR kb l.length ck eb l.length ce dO bs.length cm co ah.length aG ro rs.length aK sk) 68) trivial (λn=>(aP n)) (vg (v:=qv (.slice (I ⟨kb,0,K⟩) l.length ck) (.slice (I ⟨eb,0,K⟩) l.length ce) (.slice dO bs.length cm) (.slice co ah.length aG) (.slice ro rs.length aK) sk) Y (d.of Y)) λqb L U bb a1 E=>?_;replace d:=d.put (d:=2) (by decide) (aP qb);refine oz e d (.int .i64 ((0:Nat):Int)) λd=>?_;refine oz e d (.int .i64 0) λd=>?_;refine aj e ?_;have B:=G6 a1;have u:=ao.rel (own':=λb=>b<w0.heap.size\/b=qb) B (λb f=>.inl f);have ae:=C.j4 _ _ _ L F (λb g=>B.at_ b (t b g)) B.size;have W:∀b,(b<w0.heap.size\/b=qb)->b<L.heap.size:=λb g=>by omega
 refine aJ e ?_;refine bg e [0,1,2] Y ?_;refine qd e d Y (qv (.slice (I ⟨kb,0,K⟩) l.length ck) (.slice (I ⟨eb,0,K⟩) l.length ce) (.slice dO bs.length cm) (.slice co ah.length aG) (.slice ro rs.length aK) sk) (eK (cs:=(dR kb l.length ck eb l.length ce dO bs.length cm co ah.length aG ro rs.length aK sk).toList) Y (d.of Y) X3 Y vj (.inr (.inr Y)) (nP E)) λd=>?_;refine DG (vs:= #[qv (.slice (I ⟨kb,0,K⟩) l.length ck) (.slice (I ⟨eb,0,K⟩) l.length ce) (.slice dO bs.length cm) (.slice co ah.length aG) (.slice ro rs.length aK) sk]) (R:=λh r y=>∃o,r= .returned (.slice (I ⟨o,0,K⟩) l.length l.length)/\h.heap.size<=o/\y.heap[o]? =I (.cells (ya (aI l.length (ah++rs.map bT.col))).toArray 4 (0,0))) bI Y Y Y Y (mK (d.of Y)) Tryz.func37 Tc Y (iW Y Y Y).symm (bL Y (by simp only[put_defers]) (by kernel_rfl)) (λh z D=>?_) λv m h y z D a7 a3 T p=>?_
 ·have s:=hF h (u.same z D).1 (u.same z D).2;have A:=q.m;have a9:=q.cn;refine(pN l.length ah rs (I ⟨kb,0,K⟩) ck (.slice (I ⟨eb,0,K⟩) l.length ce) (.slice dO bs.length cm) co cb bH aG ro rb bF aK sk h q.m (by unfold Vp;omega) q.rn s.ca s.cl s.cc s.nr q.ck q.rk).mono λr y f=>?_;obtain⟨O,o,rfl,P,Q⟩:=f;exact⟨O,_,rfl,o,rfl,P,Q⟩
 ·obtain⟨wb,r,a4,x⟩:=a3;cases r;have am:=u.rel (own':=grown (λb=>b<w0.heap.size\/b=qb) h.heap.size m.heap.size) p (λb f=>.inl f);have al:=C.j4 _ _ _ m ae (λb g=>p.at_ b (u.rX b g)) p.size;have H:=(p.at_ qb (.inr Y)).trans E;have X:∀b,grown (λb=>b<w0.heap.size\/b=qb) h.heap.size m.heap.size b->b<m.heap.size:=λb g=>g.elim (λf=>U9 (W b f) p.size) (λf=>f.2);replace x:=T.row.1 x;have a5:wb<m.heap.size:=(U4.1 x).1;have G:grown (λb=>b<w0.heap.size\/b=qb) h.heap.size m.heap.size qb:=.inl (.inr Y);have au:grown (λb=>b<w0.heap.size\/b=qb) h.heap.size m.heap.size wb:=.inr ⟨a4,a5⟩;replace d:=d.put (d:=13) (by decide) (.slice (I ⟨wb,0,K⟩) l.length l.length);refine gw e d λd=>?_;refine aj e ?_;refine aJ e ?_;refine bg e [0] Y ?_;refine oz e d (.int .i64 ((0:Nat):Int)) λd=>?_;refine aj e ?_;refine aJ e ?_;refine aJ e ?_;refine bg e [0,1,2,3,4] Y ?_;refine dw e d Y (aP qb) (de (off':=0) Y (d.of Y) X3 Y Tryz.sizeOf66 Y) λd=>?_;refine dw e d Y (.pointer (I ⟨qb,2,K⟩)) (de (off':=2) Y (d.of Y) Tryz.underlying66 Y Tryz.sizeOf64 Y) λd=>?_;refine qd e d Y (.slice dO bs.length cm) (bP Y (d.of Y) Tryz.isAgg64 (.inr G) (gU H Y)) λd=>?_;refine dw e d Y (.int .i64 (bs.length:Int)) (sV Y (d.of Y) Tryz.underlying64) λd=>?_;refine dw e d Y (.int .i64 ((0:Nat):Int)) (bZ Y Y) λd=>?_;refine aj e ?_;refine fO e ?_;refine uM e ?_;have aa:eM bs 0=0:=by simp[eM]
  refine Lg (w0:=w0) (M0:=M0) C q hF ar bs.length 0 (by omega) [] _ M0 m _ 0 R (U7 _) (VB _) (by
   rw[aa];exact⟨(((((((d.nil.cons (d.slot 1 _ Y)).cons (d.slot 2 _ Y)).cons (d.slot 4 _ Y)).cons (d.slot 6 _ Y)).cons (d.slot 7 _ Y)).cons (d.slot 16 _ Y)).cons (d.slot 17 _ Y)).cons (d.slot 18 _ Y),by simp only[put_defers],al,am,X,G,λf=>by have:=t qb f;omega,U,H,au,λf=>by have:=t wb f;omega,by omega,x⟩) λbc N bd ad j a8=>?_
  intro _ a6 k a0;exact S _ a6 ⟨rfl,N,C.j4 _ _ _ _ ad (λb g=>k.at_ b (j.rX b g)) k.size,λb g A=>(k.at_ b (j.keep b g A).1).trans (j.keep b g A).2,Vm j.size k.size,j.ext⟩ a0 ⟨k.tape.trans j.tape,k.os.trans j.os,k.output.trans j.output,Vm j.size k.size⟩ (lm a2 _)
end
end Cc
end Go.Proofs.YtjidbonhhpkljabGreat
