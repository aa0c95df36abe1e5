/- What the proof stands on, in short names. -/
import Derived.Test.YtjidbonhhpkljabGreatMb
import Derived.Deep.CutBlock
import Derived.WalkSpells
import Derived.Lib.Bytealg
import Derived.Deep.RegionHeld
import Derived.WalkLawsBesides
import Derived.Recover
import Derived.Lib.BufferWrite
import Derived.Lib.UnsafeStr
import Derived.Deep.RegionHeld3
import Derived.Deep.AppendLies
import Derived.OrdersHeld
import Derived.RegionTactic
import Derived.Outline
import Derived.Lib.SlBytesConst
set_option linter.all false
open Array renaming getElem?_eq_none->Wl,getElem?_eq_some_iff->U4,length_toList->WW,replicate->V8
open BitVec renaming ofInt->Yf
open Bool renaming and_eq_true->Vr,false->U5,false_eq_true->Vv,true->Z
open Go renaming Act->Xa,Addr->VI,Ending->X6,Obj->Yk,Oper->Ww,PanicEntry->Ws,Program->Vb,TypeId->Vc,Value->U,World->F,bodyPost->Xw,execOp->Vw,getD_set_ne->YF,heap_alloc_new->Xf,heap_setCell_other->Vj,heap_setCell_same->Vl,info_parts->Wo,lt_of_block->Va,madeCells->YH,maxLen->Vp,results->V0,undef->V9,wpList_append_fits->WL,wpList_make_own->XD,yielded->We
open Go.Act renaming put->WH
open Go.Addr renaming add->Zl
open Go.Addr.mk renaming injEq->Xk
open Go.Extern.BytealgCompare renaming compare->YA
open Go.Instr renaming makeSlice->YZ
open Go.IntKind renaming bits->Zf,i64->ZA,signed->YV,u64->Xu,u8->Zs
open Go.Lib renaming compareBytes->Wy,size_eq->Y4
open Go.Proofs.Tryz renaming prog->U1
open Go.Region renaming binds->Wn,ready->VX,wanted->VA
open Go.RowKit renaming Below->XC,intOf->V3,wrap64->Wj
open Go.RowKit.Below renaming heap_alloc->VH,refl->Vi
open Go.Sem renaming run_bind->XW
open Go.Value renaming int->Xm,ownBlock->Wz,slice->VR
open Go.Value.slice renaming injEq->V7
open Go.World renaming cell?->Ve,frozen?->VW,ownsRow_nil->Xj
open Go.World.grownBy renaming block->XI,refl->ZR,size->Yr
open List renaming all_eq_true->Vx,append_assoc->Vu,append_nil->WM,cons_append->XF,flatMap_append->Wi,flatMap_cons->Xq,flatMap_singleton->Wd,getD->ZB,getD_eq_getElem?_getD->Vk,getElem?_append_left->Wx,getElem?_eq_getElem->Vf,getElem?_eq_some_iff->Vs,getElem_mem->Vn,getElem_of_mem->WN,getElem_take->WE,length_append->U8,length_cons->WS,length_drop->Yd,length_eq_zero_iff->Xn,length_map->VQ,length_nil->Y1,length_take->WB,map_append->V1,map_cons->Yy,map_singleton->Xz,mem_append->VM,mem_cons->WI,mem_map->Wu,mem_of_mem_take->XV,mem_range->WK,nil_append->Yn,range->VS,range_succ->Y2,replicate->VP,setIfInBounds_toArray->Vq,set_cons_succ->Vz,set_cons_zero->VD,take_append_drop->X4,take_length->Wh,take_of_length_le->VJ,take_succ_eq_append_getElem->Vh
open List.cons renaming injEq->Yl
open Nat renaming add_assoc->Wc,le_refl->U7,le_trans->Vm,lt_of_lt_of_le->U9,lt_or_ge->WG,mod_eq_of_lt->Yw,pow_add->Y7,pow_le_pow_right->Xx,pow_succ->Yz,zero_add->VV,zero_le->VB
open Option renaming bind_some->YT,getD_some->Ye,none->K,some->I
open Option.some renaming injEq->VY
open Prod renaming fst->Vy
set_option maxRecDepth 100000
set_option maxHeartbeats 8000000
namespace Go.Proofs.YtjidbonhhpkljabGreat
namespace Ec
open Go.RowKit Pk
structure bQ where
 name:ByteArray
 kind:Int
def ij (l:List bQ):List U:=l.flatMap λa=>[.string a.name,.int .i64 a.kind]
structure Cb(w:F)(ao:Option VI)(b off:Nat)(l:List bQ):Prop where
 addr:0<l.length->ao=I ⟨b,off,K⟩
 lt:0<l.length->b<w.heap.size
 c0:∀j (h:j<l.length),w.cell? ⟨b,off+j*2,K⟩=I (.string l[j].name)
 c1:∀j (h:j<l.length),w.cell? ⟨b,off+j*2+1,K⟩=I (.int .i64 l[j].kind)
def Cb.below{w w':F}{e:Option VI}{b off:Nat}{l:List bQ}(h:Cb w e b off l)(c:aQ w w'):Cb w' e b off l:=
 ⟨h.addr,λf=>U9 (h.lt f) c.size,
  λa d=>(c.cell (p:=⟨b,off+a*2,K⟩) (h.lt (by omega))).trans (h.c0 a d),
  λa d=>(c.cell (p:=⟨b,off+a*2+1,K⟩) (h.lt (by omega))).trans (h.c1 a d)⟩
def Cb.take{w:F}{e:Option VI}{b off:Nat}{l:List bQ}(h:Cb w e b off l)(n:Nat):Cb w e b off (l.take n):=by
 refine⟨λa=>h.addr ?_,λa=>h.lt ?_,λd c=>?_,λd c=>?_⟩
 ·simp at a;omega
 ·simp at a;omega
 ·rw[WE];exact h.c0 d (by simp at c;omega)
 ·rw[WE];exact h.c1 d (by simp at c;omega)
def Cd (w:F)(v:U)(l:List bQ):Prop:=∃a c d b,v= .slice a l.length b/\l.length<=b/\Cb w a c d l
def Cd.below{w w':F}{v:U}{l:List bQ}(h:Cd w v l)(d:aQ w w'):Cd w' v l:=by
 obtain⟨a,b,f,c,rfl,e,h⟩:=h;exact⟨a,b,f,c,rfl,e,h.below d⟩
def pX (c:bQ):Bool:=decide ((1:Int)<=(c.name.size:Int))&&decide ((c.name.size:Int)<=16)&&gC c.kind
def qg (l:List bQ)(i:Nat):Prop:=∀b:i<l.length,pX l[i]=Z/\∀a (c:a<i),l[a].name≠l[i].name
def mF (l:List bQ):Prop:=1<=l.length/\l.length<=8/\∀a,qg l a
def CH(c:bQ)(w:F):
 bK 50 #[.agg #[.string c.name,.int .i64 c.kind]] w λe w'=>e= .returned (.bool (pX c))/\aQ w w':=by
 have a:=o6 c.kind;cases b:decide ((1:Int)<=(c.name.size:Int))<;>cases d:decide ((c.name.size:Int)<=16)
 all_goals
  go_enter av.func50,Tryz.ntmps50
  go_wp2_with (go_at_call 75;refine(a _).mono ?_;rintro e w' ⟨rfl,rfl⟩)
  all_goals go_ret
  all_goals refine⟨qO ?_,(Vi _ _).alloc (U7 _) _⟩
  all_goals simp_all [pX]
  all_goals try (intros;omega)
def EA(l:List bQ)(s:ByteArray)(q:Option VI)(b off cap:Nat)(w:F)(D:l.length<=Vp)(d:Cb w q b off l):
 bK 51 #[.slice q l.length cap,.string s] w λe w'=>∃bb,e= .returned (.bool bb)/\(bb=Z↔∃k,∃h:k<l.length,l[k].name=s)/\aQ w w':=by
 unfold Vp at D;have u:=af d;go_enter av.func51,Tryz.ntmps51
 go_wp2_with fail
 go_loopw [9] (λn wr=>∃a:Nat,a<=l.length/\n= .int .i64 a/\(∀c,(m:c<l.length)->c<a->l[c].name≠s)/\aQ w wr) (λn _=>l.length-(V3 n).toNat)
 case atStart=>exact⟨0,VB _,rfl,λc _ h=>by omega,Vi _ _⟩
 case round=>
  obtain⟨a,H,rfl,C,i⟩:=hrel;have p:=af C;have g:=af i;have r:=i.size;by_cases j:a<l.length
  ·have d:=u.o.below i;obtain rfl:=d.addr (by omega);have I:=d.c0 a j;have J:=d.c1 a j;have v:X (l[a].name=s->∃k,∃h:k<l.length,l[k].name=s):=λh=>⟨a,j,h⟩;have z:X (l[a].name≠s->∀c,(m:c<l.length)->c<a+1->l[c].name≠s):=λh c m G=>by
    by_cases B:c=a
    ·subst B;exact h
    ·exact p.o c m (by omega)
   generalize l[a]=o at*;by_cases f:o.name=s
   ·have x:=v.o f;have y:=af x;have E:(o.name.toList==s.toList)=Z:=by rw[f];simp
    go_wp2;go_ret;exact⟨Z,rfl,by simp only[true_iff];exact y.o,g.o.alloc r _⟩
   ·have A:=af (z.o f);have E:(o.name.toList==s.toList)=U5:=by rw[beq_eq_false_iff_ne];exact λh=>f (toList_inj h)
    go_wp2
    go_roundw
    case rel=>exact⟨a+1,by omega,by go_num,A.o,g.o.alloc r _⟩
    case measure=>simp[V3];omega
  ·have t:X (¬∃k,∃h:k<l.length,l[k].name=s):=by
    rintro⟨k,h,e⟩;exact p.o k h (by omega) e
   go_wp2;go_ret;exact⟨U5,rfl,by simp only[Vv,false_iff];exact t.o,g.o⟩
def oU(w:F)(a b:U)(t:Vc):(w.alloc (.cells #[a,b] t)).cell? ⟨w.heap.size,0,K⟩=I a/\(w.alloc (.cells #[a,b] t)).cell? ⟨w.heap.size,1,K⟩=I b:=by
 constructor<;>simp
def EN (a b:Int):Int:=if a<b then -1 else if b<a then 1 else 0
def jI (x y:aC):Int:=if x.n<y.n then -1 else if y.n<x.n then 1 else Wy x.s.data.toList y.s.data.toList
def QO(x y:aC):jI x y=if EN x.n y.n=0 then Wy x.s.data.toList y.s.data.toList else EN x.n y.n:=by
 unfold jI EN;by_cases a:x.n<y.n
 ·rw[if_pos a,if_pos a,if_neg (by omega)]
 ·rw[if_neg a,if_neg a];by_cases b:y.n<x.n
  ·rw[if_pos b,if_pos b,if_neg (by omega)]
  ·rw[if_neg b,if_neg b,if_pos Y]
def Kx(a:Int)(w:F):bK 107 #[.int .i64 a] w λe w'=>e= .returned (.bool U5)/\w'=w:=by
 go_enter av.func107,Tryz.ntmps107;go_wp2;go_ret;exact⟨rfl,rfl⟩
def yj(a b:Int)(w:F):bK 96 #[.int .i64 a,.int .i64 b] w λe w'=>e= .returned (.int .i64 (EN a b))/\w'=w:=by
 have c:=Kx;unfold EN;go_enter av.func96,Tryz.ntmps96;by_cases d:a<b
 ·rw[if_pos d]
  go_wp2_with (go_at_call 107;refine(c _ _).mono ?_;rintro g w' ⟨rfl,rfl⟩)
  go_ret;exact⟨rfl,rfl⟩
 ·rw[if_neg d];by_cases f:b<a
  ·rw[if_pos f]
   go_wp2_with (go_at_call 107;refine(c _ _).mono ?_;rintro g w' ⟨rfl,rfl⟩)
   go_ret;exact⟨rfl,rfl⟩
  ·rw[if_neg f]
   go_wp2_with (go_at_call 107;refine(c _ _).mono ?_;rintro g w' ⟨rfl,rfl⟩)
   go_ret;exact⟨rfl,rfl⟩
def AA(a b:ByteArray)(w:F):bK 108 #[.string a,.string b] w λe w'=>e= .returned (.int .i64 (Wy a.data.toList b.data.toList))/\w'=w:=by
 go_enter av.func108,Tryz.ntmps108;go_wp2;rw[run_callFunc_extern av.func116 (by kernel_rfl) (by kernel_rfl) (by kernel_rfl) (e:=YA) (by kernel_rfl),Lib.run_compareString];simp only[Result.andThen];rw[Oper.upon_value];go_wp2;go_ret;exact⟨rfl,rfl⟩
def Dd(a b:ByteArray)(w:F):bK 97 #[.string a,.string b] w λe w'=>e= .returned (.int .i64 (Wy a.data.toList b.data.toList))/\w'=w:=by
 go_enter av.func97,Tryz.ntmps97
 go_wp2_with (go_at_call 108;refine(AA _ _ _).mono ?_;rintro e w' ⟨rfl,rfl⟩)
 go_ret;exact⟨rfl,rfl⟩
def J6(a b:Int)(g:Nat)(w:F)(p:w.cell? ⟨g,0,K⟩=I (.int .i64 a))(h1:w.cell? ⟨g,1,K⟩=I (.int .i64 b)):
 bK 95 #[.slice (I ⟨g,0,K⟩) 2 2] w λe w'=>e= .returned (.int .i64 (if a=0 then b else a))/\w'=w:=by
 go_enter av.func95,Tryz.ntmps95
 go_wp2_with fail
 go_loopw [8] (λi wr=>∃d:Nat,d<=2/\i= .int .i64 (d:Int)/\(1<=d->a=0)/\(2<=d->b=0)/\wr=w) (λi _=>2-(V3 i).toNat)
 case atStart=>exact⟨0,by omega,rfl,λl=>by omega,λl=>by omega,rfl⟩
 case round=>
  obtain⟨d,o,rfl,m,n,rfl⟩:=hrel;have j:=af m;have k:=af n
  match d,o with
  |0,_=>
   by_cases c:a=0
   ·have h:(a !=0)=U5:=by simp[c]
    have f:=af c;go_wp2
    go_roundw
    case rel=>
     refine⟨1,by omega,rfl,λ_=>f.o,?_⟩;simp
    case measure=>simp[V3]
   ·have h:(a !=0)=Z:=by simp[c]
    have f:=af c;go_wp2;go_ret;exact⟨rfl,rfl⟩
  |1,_=>
   obtain rfl:a=0:=j.o (by omega);by_cases c:b=0
   ·have h:(b !=0)=U5:=by simp[c]
    have f:=af c;go_wp2
    go_roundw
    case rel=>
     refine⟨2,by omega,rfl,?_⟩;simp
     try exact f.o
    case measure=>simp[V3]
   ·have h:(b !=0)=Z:=by simp[c]
    go_wp2;go_ret;exact⟨rfl,rfl⟩
  |2,_=>
   obtain rfl:a=0:=j.o (by omega);obtain rfl:b=0:=k.o (by omega);go_wp2;go_ret;exact⟨rfl,rfl⟩
def kA{w:F}(o p:Yk):aQ w ((w.alloc o).alloc p):=((Vi _ _).alloc (U7 _) o).alloc (by simp) p
def Mw(w:F)(x y:aC):(λa:F=>a.cell? ⟨w.heap.size,1,K⟩=I (.int .i64 x.n)/\a.cell? ⟨w.heap.size,2,K⟩=I (.string x.s)/\a.cell? ⟨w.heap.size+1,1,K⟩=I (.int .i64 y.n)/\a.cell? ⟨w.heap.size+1,2,K⟩=I (.string y.s)) ((w.alloc (.cells (j9 x) 54)).alloc (.cells (j9 y) 54)):=by
 refine⟨?_,?_,?_,?_⟩<;>simp
def jC(x y:aC)(w:F):
 bK 80 #[.agg (j9 x),.agg (j9 y)] w λe w'=>e= .returned (.int .i64 (jI x y))/\aQ w w':=by
 have j:=yj x.n y.n;have k:=Dd x.s y.s;have l:X (∀(a:F) (d:Nat),d=a.heap.size->bK 95 #[.slice (I ⟨d,0,K⟩) 2 2] ((a.alloc (.cells #[.int .i64 (EN x.n y.n),.int .i64 (Wy x.s.data.toList y.s.data.toList)] 3)).drew) λe w'=>e= .returned (.int .i64 (jI x y))/\w'=((a.alloc (.cells #[.int .i64 (EN x.n y.n),.int .i64 (Wy x.s.data.toList y.s.data.toList)] 3)).drew)):=λa d i=>by
  rw[QO];subst i;exact J6 _ _ a.heap.size _ (by simp) (by simp)
 generalize EN x.n y.n=n at*;generalize Wy x.s.data.toList y.s.data.toList=o at*;generalize jI x y=p at*;go_enter av.func80,Tryz.ntmps80
 go_upto_region 1 with fail
 have h:aQ w ((w.alloc (.cells (j9 x) 54)).alloc (.cells (j9 y) 54)):=kA _ _;have m:=Mw w x y;have i:w.heap.size+1<((w.alloc (.cells (j9 x) 54)).alloc (.cells (j9 y) 54)).heap.size:=by simp
 generalize (w.alloc (.cells (j9 x) 54)).alloc (.cells (j9 y) 54)=f at*;obtain⟨s,t,u,v⟩:=m;have q:w.heap.size≠f.heap.size:=by omega
 have r:w.heap.size+1≠f.heap.size:=by omega
 generalize w.heap.size+1=g at*
 go_region_held (λa=>a.cell? ⟨w.heap.size,1,K⟩=I (.int .i64 x.n)/\a.cell? ⟨w.heap.size,2,K⟩=I (.string x.s)/\a.cell? ⟨g,1,K⟩=I (.int .i64 y.n)/\a.cell? ⟨g,2,K⟩=I (.string y.s)) (go_keep) (first
  |(go_at_call 96;refine(j _).mono ?_;rintro e c ⟨rfl,b⟩;rw[b];clear b c)
  |(go_at_call 97;refine(k _).mono ?_;rintro e c ⟨rfl,b⟩;rw[b];clear b c)
  |(go_at_call 95;refine(l.o _ _ Y).mono ?_;rintro e c ⟨rfl,b⟩;rw[b];clear b c))
 all_goals go_wp2_with fail
 all_goals go_ret
 all_goals exact⟨rfl,(h.alloc h.size _).drew⟩
theorem Bl:∀A B:List UInt8,Wy A B= - Wy B A
 | [],[]=>rfl
 | [],_::_=>rfl
 |_::_,[]=>rfl
 |a::f,d::g=>by
  have e:=Bl f g;simp only[Wy];by_cases b:a<d
  ·rw[if_pos b,if_neg (by rw[UInt8.lt_iff_toNat_lt] at b ⊢;omega),if_pos b]
  ·rw[if_neg b];by_cases c:d<a
   ·rw[if_pos c,if_pos c];rfl
   ·rw[if_neg c,if_neg c,if_neg b,e]
def vL(x y:aC):jI x y= - jI y x:=by
 unfold jI;by_cases a:x.n<y.n
 ·rw[if_pos a,if_neg (by omega),if_pos a]
 ·rw[if_neg a];by_cases b:y.n<x.n
  ·rw[if_pos b,if_pos b];rfl
  ·rw[if_neg b,if_neg b,if_neg a];exact Bl _ _
def vM(x:aC):jI x x=0:=by
 have:=vL x x;omega
structure lZ where
 there:Bool
 least:aC
 most:aC
def cK:lZ:=⟨U5,⟨U5,0,⟨#[]⟩⟩,⟨U5,0,⟨#[]⟩⟩⟩
def ox (b:lZ)(v:aC):lZ:=
 if v.null then b
 else⟨Z,if b.there=U5\/jI v b.least<0 then v else b.least,if b.there=U5\/0<jI v b.most then v else b.most⟩
def cy (l:List aC):lZ:=l.foldl ox cK
def Cp(l:List aC)(k:Nat)(h:k<l.length):cy (l.take (k+1))=ox (cy (l.take k)) l[k]:=by
 unfold cy;rw[Vh h,List.foldl_append];rfl
end Ec
namespace Ec
open Go.RowKit Pk Pm
def aL(w:F)(g o:Nat)(v:U):w.grownBy (w.setCell ⟨g,o,K⟩ v) (I g):=
 ⟨rfl,rfl,rfl,by simp,λc _ b=>Vj _ _ _ _ (λa=>b (by cases a;rfl))⟩
def eT{n:Nat}{w a:F}(h:XC n w a)(c:n<=a.heap.size){g:Nat}(e:n<=g)(o:Nat)(v:U):XC n w (a.setCell ⟨g,o,K⟩ v):=
 h.grown (aL a g o v) c (by intro d b;simp at b;omega)
def cH{n:Nat}{w a:F}(h:XC n w a)(c:n<=w.heap.size){g:Nat}(b:n<=g)(o:Nat)(v:U):XC n w (a.setCell ⟨g,o,K⟩ v):=
 eT h (Vm c h.size) b o v
def bC(w:F)(o:Yk):(w.alloc o).heap[w.heap.size]? =I o:=by
 show(w.heap.push o)[w.heap.size]? =I o;simp
def alloc_old{w:F}{k:Nat}{x:Option Yk}(o:Yk)(h:k<w.heap.size)(a:w.heap[k]? =x):(w.alloc o).heap[k]? =x:=
 (((Vi w.heap.size w).alloc (U7 _) o).block k h).trans a
def kw(w:F)(o p:Yk):((w.alloc o).alloc p).heap[w.heap.size+1]? =I p:=by
 have:=bC (w.alloc o) p;rwa [show(w.alloc o).heap.size=w.heap.size+1 by simp] at this
def fX (b:lZ):Array U:= #[.bool b.there,.bool b.least.null,.int .i64 b.least.n,.string b.least.s,.bool b.most.null,.int .i64 b.most.n,.string b.most.s]
def Gy (b:lZ):U:=.agg #[.bool b.there,.bool b.least.null,.int .i64 b.least.n,.string b.least.s,.bool b.most.null,.int .i64 b.most.n,.string b.most.s]
structure Gg(w W:F)(gv:Nat)(x:aC)(b:lZ):Prop where
 box:W.heap[w.heap.size+1]? =I (.cells (fX b) 100 (0,0))
 res:W.heap[w.heap.size]? =I (.cells (fX cK) 100 (0,0))
 one:W.heap[gv]? =I (.cells (j9 x) 54 (0,0))
 uy:w.heap.size+1<gv
 fW:aQ w W
def Gg.below{w c d:F}{e:Nat}{x:aC}{b:lZ}(h:Gg w c e x b)(a:aQ c d):Gg w d e x b:=
 ⟨(a.block _ (Va h.box)).trans h.box,(a.block _ (Va h.res)).trans h.res,(a.block _ (Va h.one)).trans h.one,h.uy,h.fW.trans (a.mono h.fW.size)⟩
def Gg.least{w a:F}{d:Nat}{x:aC}{b:lZ}(h:Gg w a d x b):
 Gg w (((a.setCell ⟨w.heap.size+1,1,K⟩ (.bool x.null)).setCell ⟨w.heap.size+1,2,K⟩ (.int .i64 x.n)).setCell ⟨w.heap.size+1,3,K⟩ (.string x.s)) d x ⟨b.there,x,b.most⟩:=by
 have e:=Vl a (w.heap.size+1) 1 _ _ (.bool x.null) h.box;have f:=Vl _ (w.heap.size+1) 2 _ _ (.int .i64 x.n) e;have g:=Vl _ (w.heap.size+1) 3 _ _ (.string x.s) f;have c:=h.fW.size;have i:=h.uy;refine⟨g,?_,?_,h.uy,?_⟩
 ·rw[Vj _ _ _ _ (by simp),Vj _ _ _ _ (by simp),Vj _ _ _ _ (by simp)];exact h.res
 ·rw[Vj _ _ _ _ (by simp;omega),Vj _ _ _ _ (by simp;omega),Vj _ _ _ _ (by simp;omega)];exact h.one
 ·exact eT (eT (eT h.fW c (by omega) _ _) (by simpa using c) (by omega) _ _) (by simpa using c) (by omega) _ _
def Gg.most{w a:F}{d:Nat}{x:aC}{b:lZ}(h:Gg w a d x b):
 Gg w (((a.setCell ⟨w.heap.size+1,4,K⟩ (.bool x.null)).setCell ⟨w.heap.size+1,5,K⟩ (.int .i64 x.n)).setCell ⟨w.heap.size+1,6,K⟩ (.string x.s)) d x ⟨b.there,b.least,x⟩:=by
 have e:=Vl a (w.heap.size+1) 4 _ _ (.bool x.null) h.box;have f:=Vl _ (w.heap.size+1) 5 _ _ (.int .i64 x.n) e;have g:=Vl _ (w.heap.size+1) 6 _ _ (.string x.s) f;have c:=h.fW.size;have i:=h.uy;refine⟨g,?_,?_,h.uy,?_⟩
 ·rw[Vj _ _ _ _ (by simp),Vj _ _ _ _ (by simp),Vj _ _ _ _ (by simp)];exact h.res
 ·rw[Vj _ _ _ _ (by simp;omega),Vj _ _ _ _ (by simp;omega),Vj _ _ _ _ (by simp;omega)];exact h.one
 ·exact eT (eT (eT h.fW c (by omega) _ _) (by simpa using c) (by omega) _ _) (by simpa using c) (by omega) _ _
def Gg.set{w a:F}{c:Nat}{x:aC}{b:lZ}(h:Gg w a c x b):Gg w (a.setCell ⟨w.heap.size+1,0,K⟩ (.bool Z)) c x ⟨Z,b.least,b.most⟩:=by
 have d:=Vl a (w.heap.size+1) 0 _ _ (.bool Z) h.box;have e:=h.fW.size;have f:=h.uy;refine⟨d,?_,?_,h.uy,?_⟩
 ·rw[Vj _ _ _ _ (by simp)];exact h.res
 ·rw[Vj _ _ _ _ (by simp;omega)];exact h.one
 ·exact eT h.fW e (by omega) _ _
def dW{w:F}{g:Nat}{b:lZ}{t:Vc}(h:w.heap[g]? =I (.cells (fX b) t (0,0))):
 (w.cell? ⟨g,0,K⟩=I (.bool b.there)/\w.cell? ⟨g,1,K⟩=I (.bool b.least.null)/\w.cell? ⟨g,2,K⟩=I (.int .i64 b.least.n)/\w.cell? ⟨g,3,K⟩=I (.string b.least.s)/\
   w.cell? ⟨g,4,K⟩=I (.bool b.most.null)/\w.cell? ⟨g,5,K⟩=I (.int .i64 b.most.n)/\w.cell? ⟨g,6,K⟩=I (.string b.most.s))/\
 (w.frozen? ⟨g,0,K⟩=U5/\w.frozen? ⟨g,1,K⟩=U5/\w.frozen? ⟨g,2,K⟩=U5/\w.frozen? ⟨g,3,K⟩=U5/\w.frozen? ⟨g,4,K⟩=U5/\w.frozen? ⟨g,5,K⟩=U5/\w.frozen? ⟨g,6,K⟩=U5):=by
 unfold fX at h;refine⟨⟨?_,?_,?_,?_,?_,?_,?_⟩,?_,?_,?_,?_,?_,?_,?_⟩<;>first|simp[Ve,h]|simp[VW,h]
def bW{w:F}{g:Nat}{a b c:U}{t:Vc}(h:w.heap[g]? =I (.cells #[a,b,c] t (0,0))):
 w.cell? ⟨g,0,K⟩=I a/\w.cell? ⟨g,1,K⟩=I b/\w.cell? ⟨g,2,K⟩=I c:=by
 refine⟨?_,?_,?_⟩<;>simp[Ve,h]
def Gg.start{w wr:F}{b:lZ}(x:aC)(d:wr.heap[w.heap.size+1]? =I (.cells (fX b) 100 (0,0)))(e:wr.heap[w.heap.size]? =I (.cells (fX cK) 100 (0,0)))(c:aQ w wr):
 Gg w (wr.alloc (.cells (j9 x) 54)) wr.heap.size x b:=by
 have f:=Va d;have g:=Va e;have a:=(Vi wr.heap.size wr).alloc (U7 _) (.cells (j9 x) 54);refine⟨(a.block _ f).trans d,(a.block _ g).trans e,bC _ _,by omega,c.trans (a.mono c.size)⟩
def Pp{w:F}{g:Nat}{a:lZ}(b:lZ){t:Vc}(h:w.heap[g]? =I (.cells (fX a) t (0,0))):
 (((((((w.setCell ⟨g,0,K⟩ (.bool b.there)).setCell ⟨g,1,K⟩ (.bool b.least.null)).setCell ⟨g,2,K⟩ (.int .i64 b.least.n)).setCell ⟨g,3,K⟩ (.string b.least.s)).setCell ⟨g,4,K⟩ (.bool b.most.null)).setCell ⟨g,5,K⟩ (.int .i64 b.most.n)).setCell ⟨g,6,K⟩ (.string b.most.s)).heap[g]? =I (.cells (fX b) t (0,0)):=by
 have c:(w.setCell ⟨g,0,K⟩ (.bool b.there)).heap[g]? =I (.cells (fX ⟨b.there,⟨a.least.null,a.least.n,a.least.s⟩,⟨a.most.null,a.most.n,a.most.s⟩⟩) t (0,0)):=Vl _ g 0 _ _ (.bool b.there) h;have d:((w.setCell ⟨g,0,K⟩ (.bool b.there)).setCell ⟨g,1,K⟩ (.bool b.least.null)).heap[g]? =I (.cells (fX ⟨b.there,⟨b.least.null,a.least.n,a.least.s⟩,⟨a.most.null,a.most.n,a.most.s⟩⟩) t (0,0)):=Vl _ g 1 _ _ (.bool b.least.null) c;have e:(((w.setCell ⟨g,0,K⟩ (.bool b.there)).setCell ⟨g,1,K⟩ (.bool b.least.null)).setCell ⟨g,2,K⟩ (.int .i64 b.least.n)).heap[g]? =I (.cells (fX ⟨b.there,⟨b.least.null,b.least.n,a.least.s⟩,⟨a.most.null,a.most.n,a.most.s⟩⟩) t (0,0)):=Vl _ g 2 _ _ (.int .i64 b.least.n) d;have f:((((w.setCell ⟨g,0,K⟩ (.bool b.there)).setCell ⟨g,1,K⟩ (.bool b.least.null)).setCell ⟨g,2,K⟩ (.int .i64 b.least.n)).setCell ⟨g,3,K⟩ (.string b.least.s)).heap[g]? =I (.cells (fX ⟨b.there,⟨b.least.null,b.least.n,b.least.s⟩,⟨a.most.null,a.most.n,a.most.s⟩⟩) t (0,0)):=Vl _ g 3 _ _ (.string b.least.s) e;have i:(((((w.setCell ⟨g,0,K⟩ (.bool b.there)).setCell ⟨g,1,K⟩ (.bool b.least.null)).setCell ⟨g,2,K⟩ (.int .i64 b.least.n)).setCell ⟨g,3,K⟩ (.string b.least.s)).setCell ⟨g,4,K⟩ (.bool b.most.null)).heap[g]? =I (.cells (fX ⟨b.there,⟨b.least.null,b.least.n,b.least.s⟩,⟨b.most.null,a.most.n,a.most.s⟩⟩) t (0,0)):=Vl _ g 4 _ _ (.bool b.most.null) f;have j:((((((w.setCell ⟨g,0,K⟩ (.bool b.there)).setCell ⟨g,1,K⟩ (.bool b.least.null)).setCell ⟨g,2,K⟩ (.int .i64 b.least.n)).setCell ⟨g,3,K⟩ (.string b.least.s)).setCell ⟨g,4,K⟩ (.bool b.most.null)).setCell ⟨g,5,K⟩ (.int .i64 b.most.n)).heap[g]? =I (.cells (fX ⟨b.there,⟨b.least.null,b.least.n,b.least.s⟩,⟨b.most.null,b.most.n,a.most.s⟩⟩) t (0,0)):=Vl _ g 5 _ _ (.int .i64 b.most.n) i;have k:(((((((w.setCell ⟨g,0,K⟩ (.bool b.there)).setCell ⟨g,1,K⟩ (.bool b.least.null)).setCell ⟨g,2,K⟩ (.int .i64 b.least.n)).setCell ⟨g,3,K⟩ (.string b.least.s)).setCell ⟨g,4,K⟩ (.bool b.most.null)).setCell ⟨g,5,K⟩ (.int .i64 b.most.n)).setCell ⟨g,6,K⟩ (.string b.most.s)).heap[g]? =I (.cells (fX ⟨b.there,⟨b.least.null,b.least.n,b.least.s⟩,⟨b.most.null,b.most.n,b.most.s⟩⟩) t (0,0)):=Vl _ g 6 _ _ (.string b.most.s) j;exact k
def Aw{w w0:F}{g:Nat}(b:lZ){n:Nat}(d:XC n w0 w)(c:n<=w0.heap.size)(a:n<=g):
 XC n w0 (((((((w.setCell ⟨g,0,K⟩ (.bool b.there)).setCell ⟨g,1,K⟩ (.bool b.least.null)).setCell ⟨g,2,K⟩ (.int .i64 b.least.n)).setCell ⟨g,3,K⟩ (.string b.least.s)).setCell ⟨g,4,K⟩ (.bool b.most.null)).setCell ⟨g,5,K⟩ (.int .i64 b.most.n)).setCell ⟨g,6,K⟩ (.string b.most.s)):=
 cH (cH (cH (cH (cH (cH (cH d c a _ _) c a _ _) c a _ _) c a _ _) c a _ _) c a _ _) c a _ _
def Co(au:U)(l:List aC)(w:F)(bt:l.length<=100)(bc:tE w au l):
 bK 57 #[au] w λe w'=>e= .returned (Gy (cy l))/\aQ w w':=by
 obtain⟨bm,bo,bx,br,rfl,M⟩:=bc;have a1:=af M;have bj:=λN be g=>jC N be g;go_enter av.func57,Tryz.ntmps57
 go_wp2_with fail
 go_loopw [8] (λad wr=>∃a:Nat,a<=l.length/\ad= .int .i64 (a:Int)/\wr.heap[w.heap.size+1]? =I (.cells (fX (cy (l.take a))) 100 (0,0))/\wr.heap[w.heap.size]? =I (.cells (fX cK) 100 (0,0))/\aQ w wr) (λad _=>l.length-(V3 ad).toNat)
 case atStart=>exact⟨0,VB _,rfl,kw _ _ _,alloc_old _ (by simp) (bC _ _),kA _ _⟩
 case round=>
  obtain⟨a,bs,rfl,aa,T,R⟩:=hrel;have bi:=af R;by_cases S:a<l.length
  ·have M:=a1.o.below R;obtain rfl:=M.addr (by omega);have bz:=M.c0 a S;have bA:=M.c1 a S;have bB:=M.c2 a S;have V:=af (Cp l a S);generalize cy (l.take a)=am at*;generalize l[a]=N at*;have f:=af (Gg.start N aa T R)
   go_upto_region 5 with fail
   generalize wr.alloc (.cells (j9 N) 54)=bk at*;generalize wr.heap.size=ar at*;have bu:¬ar=w.heap.size+1:=by have:=f.o.uy;omega
   have bv:¬w.heap.size+1=ar:=by have:=f.o.uy;omega
   obtain⟨B,D,E⟩:=bW f.o.one;obtain⟨⟨k,m,n,o,p,q,r⟩,s,t,u,v,x,y,z⟩:=dW f.o.box;by_cases ab:N.null=Z
   ·have L:X (cy (l.take (a+1))=am):=by show _=_;rw[V.o];unfold ox;rw[if_pos ab]
    rw[ab] at B;go_wp2
    go_roundw
    case rel=>exact⟨a+1,by omega,by go_num,by rw[L.o];exact f.o.box,f.o.res,f.o.fW⟩
    case measure=>simp[V3];omega
   ·obtain⟨bd,c,d⟩:=N;obtain rfl:bd=U5:=by simpa using ab
    obtain⟨a3,j,h⟩:=am;cases a3
    ·have L:X (cy (l.take (a+1))=⟨Z,⟨U5,c,d⟩,⟨U5,c,d⟩⟩):=by show _=_;rw[V.o];unfold ox;simp
     go_wp2
     go_roundw
     case rel=>exact⟨a+1,by omega,by go_num,by rw[L.o];exact f.o.least.most.set.box,f.o.least.most.set.res,f.o.least.most.set.fW⟩
     case measure=>simp[V3];omega
    ·have ao:X (∀g,bK 80 #[.agg #[.bool U5,.int .i64 c,.string d],.agg (j9 j)] g λe w'=>e= .returned (.int .i64 (jI ⟨U5,c,d⟩ j))/\aQ g w'):=λg=>jC ⟨U5,c,d⟩ j g;have P:X (∀g,bK 80 #[.agg #[.bool U5,.int .i64 c,.string d],.agg (j9 h)] g λe w'=>e= .returned (.int .i64 (jI ⟨U5,c,d⟩ h))/\aQ g w'):=λg=>jC ⟨U5,c,d⟩ h g;have L:X (cy (l.take (a+1))=⟨Z,if jI ⟨U5,c,d⟩ j<0 then⟨U5,c,d⟩ else j,if 0<jI ⟨U5,c,d⟩ h then⟨U5,c,d⟩ else h⟩):=by show _=_;rw[V.o];unfold ox;simp
     generalize jI ⟨U5,c,d⟩ j=ae at*;generalize jI ⟨U5,c,d⟩ h=C at*;by_cases Q:ae<0
     ·have a4:decide (ae<0)=Z:=by simpa using Q
      have O:X (cy (l.take (a+1))=⟨Z,⟨U5,c,d⟩,if 0<C then⟨U5,c,d⟩ else h⟩):=by show _=_;rw[L.o,if_pos Q]
      go_upto_region 8 with(go_at_call 80;refine(ao.o _).mono ?_;rintro e aw ⟨rfl,Y⟩;have J:=f.o.below Y;obtain⟨B,D,E⟩:=bW J.one;obtain⟨⟨k,m,n,o,p,q,r⟩,s,t,u,v,x,y,z⟩:=dW J.box)
      have i:=af J.least;generalize ((aw.setCell ⟨w.heap.size+1,1,K⟩ (.bool U5)).setCell ⟨w.heap.size+1,2,K⟩ (.int .i64 c)).setCell ⟨w.heap.size+1,3,K⟩ (.string d)=bl at*;obtain⟨B,D,E⟩:=bW i.o.one;obtain⟨⟨k,m,n,o,p,q,r⟩,s,t,u,v,x,y,z⟩:=dW i.o.box;by_cases A:0<C
      ·have W:decide (0<C)=Z:=by simpa using A
       have G:X (cy (l.take (a+1))=⟨Z,⟨U5,c,d⟩,⟨U5,c,d⟩⟩):=by show _=_;rw[O.o,if_pos A]
       go_wp2_with (go_at_call 80;refine(P.o _).mono ?_;rintro e al ⟨rfl,H⟩;have b:=i.o.below H;obtain⟨B,D,E⟩:=bW b.one;obtain⟨⟨k,m,n,o,p,q,r⟩,s,t,u,v,x,y,z⟩:=dW b.box)
       go_roundw
       case rel=>exact⟨a+1,by omega,by go_num,by rw[G.o];exact b.most.set.box,b.most.set.res,b.most.set.fW⟩
       case measure=>simp[V3];omega
      ·have W:decide (0<C)=U5:=by simpa using A
       have G:X (cy (l.take (a+1))=⟨Z,⟨U5,c,d⟩,h⟩):=by show _=_;rw[O.o,if_neg A]
       go_wp2_with (go_at_call 80;refine(P.o _).mono ?_;rintro e al ⟨rfl,H⟩;have b:=i.o.below H;obtain⟨B,D,E⟩:=bW b.one;obtain⟨⟨k,m,n,o,p,q,r⟩,s,t,u,v,x,y,z⟩:=dW b.box)
       go_roundw
       case rel=>exact⟨a+1,by omega,by go_num,by rw[G.o];exact b.set.box,b.set.res,b.set.fW⟩
       case measure=>simp[V3];omega
     ·have a4:decide (ae<0)=U5:=by simpa using Q
      have O:X (cy (l.take (a+1))=⟨Z,j,if 0<C then⟨U5,c,d⟩ else h⟩):=by show _=_;rw[L.o,if_neg Q]
      go_upto_region 8 with(go_at_call 80;refine(ao.o _).mono ?_;rintro e aw ⟨rfl,Y⟩;have J:=f.o.below Y;obtain⟨B,D,E⟩:=bW J.one;obtain⟨⟨k,m,n,o,p,q,r⟩,s,t,u,v,x,y,z⟩:=dW J.box)
      have i:=af J;obtain⟨B,D,E⟩:=bW i.o.one;obtain⟨⟨k,m,n,o,p,q,r⟩,s,t,u,v,x,y,z⟩:=dW i.o.box;by_cases A:0<C
      ·have W:decide (0<C)=Z:=by simpa using A
       have G:X (cy (l.take (a+1))=⟨Z,j,⟨U5,c,d⟩⟩):=by show _=_;rw[O.o,if_pos A]
       go_wp2_with (go_at_call 80;refine(P.o _).mono ?_;rintro e al ⟨rfl,H⟩;have b:=i.o.below H;obtain⟨B,D,E⟩:=bW b.one;obtain⟨⟨k,m,n,o,p,q,r⟩,s,t,u,v,x,y,z⟩:=dW b.box)
       go_roundw
       case rel=>exact⟨a+1,by omega,by go_num,by rw[G.o];exact b.most.set.box,b.most.set.res,b.most.set.fW⟩
       case measure=>simp[V3];omega
      ·have W:decide (0<C)=U5:=by simpa using A
       have G:X (cy (l.take (a+1))=⟨Z,j,h⟩):=by show _=_;rw[O.o,if_neg A]
       go_wp2_with (go_at_call 80;refine(P.o _).mono ?_;rintro e al ⟨rfl,H⟩;have b:=i.o.below H;obtain⟨B,D,E⟩:=bW b.one;obtain⟨⟨k,m,n,o,p,q,r⟩,s,t,u,v,x,y,z⟩:=dW b.box)
       go_roundw
       case rel=>exact⟨a+1,by omega,by go_num,by rw[G.o];exact b.set.box,b.set.res,b.set.fW⟩
       case measure=>simp[V3];omega
  ·obtain rfl:a=l.length:=by omega
   rw[Wh] at aa;obtain⟨⟨k,m,n,o,p,q,r⟩,-⟩:=dW aa;obtain⟨-,s,t,u,v,x,y,z⟩:=dW T;obtain⟨⟨b0,b1,b2,b3,b4,b5,b6⟩,-⟩:=dW T;have a2:=af (Pp (cy l) T);have a0:=af (Aw (cy l) R (U7 _) (U7 w.heap.size));go_wp2;obtain⟨⟨a5,a6,a7,a8,a9,ba,bb⟩,-⟩:=dW a2.o;simp[Xw,V0,Tryz.results57,go_sem,a5,a6,a7,a8,a9,ba,bb];exact⟨rfl,a0.o⟩
end Ec
namespace Ec
open Go.RowKit Pk
def Kt{l:List bQ}{j:Nat}(b:∀i,i<j->qg l i)(c:qg l j):∀i,i<j+1->qg l i:=by
 intro i d;by_cases a:i=j
 ·rw[a];exact c
 ·exact b i (by omega)
def MK{l:List bQ}{j:Nat}(b:1<=l.length)(c:l.length<=8)(d:∀i,i<j->qg l i)(e:¬j<l.length):mF l:=
 ⟨b,c,λi a=>d i (by omega) a⟩
def mL(l:List bQ)(R:U)(w:F)(a8:l.length<=Vp)(a6:Cd w R l):
 bK 31 #[R] w λe w'=>∃bb,e= .returned (.bool bb)/\(bb=Z↔mF l)/\XC w.heap.size w w':=by
 obtain⟨bk,s,y,Q,rfl,br,g⟩:=a6;unfold Vp at a8;by_cases B:1<=l.length/\l.length<=8
 ·obtain⟨B,a2⟩:=B;have O:=af g;obtain rfl:=g.addr (by omega);clear g;have S:decide ((l.length:Int)<1)=U5:=by simp;omega
  have au:decide (8<(l.length:Int))=U5:=by simp;omega
  go_enter av.func31,Tryz.ntmps31
  go_wp2_with fail
  go_loopw [15] (λd wr=>∃a:Nat,a<=l.length/\d= .int .i64 a/\(∀d,d<a->qg l d)/\XC w.heap.size w wr) (λd _=>l.length-(V3 d).toNat)
  case atStart=>exact⟨0,VB _,rfl,λbA b=>by omega,Vi _ _⟩
  case round=>
   obtain⟨a,bs,rfl,V,v⟩:=hrel;have z:=af V;have M:=af v;have bc:=v.size;clear V;by_cases x:a<l.length
   ·have g:=O.o.below v;have bu:=g.c0 a x;have bv:=g.c1 a x;have m:X (∀i,XC wr.heap.size wr i->∀t,bK 51 #[.slice (I ⟨s,y,K⟩) a t,.string l[a].name] i λe w'=>∃bb,e= .returned (.bool bb)/\(bb=Z↔∃c,∃b:c<a,l[c].name=l[a].name)/\XC i.heap.size i w'):=λi a4 t=>by
     have:=EA (l.take a) l[a].name (I ⟨s,y,K⟩) s y t i (by simp;unfold Vp;omega) ((g.below a4).take a);have aw:(l.take a).length=a:=by simp;omega
     have ba:VR (I ⟨s,y,K⟩) a t= .slice (I ⟨s,y,K⟩) (l.take a).length t:=by rw[aw]
     rw[ba];refine this.mono ?_;rintro e w' ⟨bb,rfl,C,a5⟩;refine⟨bb,rfl,C.trans ?_,a5⟩;constructor
     ·rintro⟨c,b,e⟩;rw[WE] at e;exact⟨c,by simp at b;omega,e⟩
     ·rintro⟨c,b,e⟩;refine⟨c,by simp;omega,?_⟩;rw[WE];exact e
    have o:=λi=>CH l[a] i;have q:X (pX l[a]=U5->¬mF l):=λb f=>by
     have:=(f.2.2 a x).1;rw[b] at this;cases this
    have A:X ((∃c,∃b:c<a,l[c].name=l[a].name)->¬mF l):=by
     rintro⟨c,b,e⟩ f;exact(f.2.2 a x).2 c b e
    have r:X (pX l[a]=Z->(¬∃c,∃b:c<a,l[c].name=l[a].name)->∀d,d<a+1->qg l d):=λa0 a1=>Kt z.o (λ_=>⟨a0,λc a7 e=>a1 ⟨c,a7,e⟩⟩);clear g v z O;have am:X (∀P:Prop,P=(∃c,∃b:c<a,l[c].name=l[a].name)->True):=λ_ _=>trivial;clear am;generalize a3:(∃c,∃b:c<a,l[c].name=l[a].name)=P at*;clear a3;generalize l[a]=h at*
    go_upto_region 6 with fail
    have bd:=oU wr (.string h.name) (.int .i64 h.kind) 51;have H:wr.heap.size<(wr.alloc (.cells #[.string h.name,.int .i64 h.kind] 51)).heap.size:=by simp
    have W:XC wr.heap.size wr (wr.alloc (.cells #[.string h.name,.int .i64 h.kind] 51)):=(Vi _ _).alloc (U7 _) _;generalize wr.alloc (.cells #[.string h.name,.int .i64 h.kind] 51)=j at*;generalize ab:wr.heap.size=E at*;have al:=af ab;clear ab;obtain⟨be,bx⟩:=bd
    go_cut [30] from 16 to 31 (λbi ad=>∃bb,bi= .bool bb/\(bb=U5->∀d,d<a+1->qg l d)/\(bb=Z->¬mF l)/\XC E wr ad)
    case first=>
     cases f:pX h
     ·have D:=af (q.o f);rw[f] at o;clear q A r f m
      first
       |go_region_with (go_at_call 50;refine(o _).mono ?_;rintro e L ⟨rfl,u⟩)
       |fail
      all_goals
       have p:XC j.heap.size j L:=((Vi j.heap.size j).drew).trans u;have n:=af (W.trans (p.mono (Nat.le_of_lt H)));clear u p
       go_wp2_with fail
       go_meet
       exact⟨Z,rfl,(λb=>by cases b),λ_=>D.o,n.o⟩
     ·have ar:=af (r.o f);rw[f] at o;have bl:(0:Int)<=(a:Int):=by omega
      have bm:(a:Int)<=(Q:Int):=by omega
      have bo:a<=Q:=by omega
      clear q r f
      first
       |go_region_with (first
        |(go_at_call 50;refine(o _).mono ?_;rintro e L ⟨rfl,u⟩;have p:XC j.heap.size j L:=((Vi j.heap.size j).drew).trans u;have k:=W.trans (p.mono (Nat.le_of_lt H));have bz:=(p.cell (p:=⟨E,0,K⟩) H).trans be;clear u p)
        |(go_at_call 51;refine(m.o _ k _).mono ?_;rintro e bj ⟨bb,rfl,C,aa⟩))
       |fail
      all_goals
       have n:X (XC E wr bj):=k.trans (aa.mono (by have:=k.size;rw[al.o] at this;exact this));have N:=af C;clear aa C k
       go_wp2_with fail
       go_meet
       refine⟨bb,rfl,λb=>ar.o (λa9=>?_),λb=>A.o (N.o.1 b),n.o⟩;rw[N.o.2 a9] at b;cases b
    case rest=>
     rename F=>ad
     obtain⟨bb,rfl,J,G,k⟩:=hcut;have n:=af (M.o.trans (k.mono bc));cases bb
     ·have ae:=af (J Y);clear J G k q A r m o;go_wp2
      go_roundw
      case rel=>exact⟨a+1,by omega,by go_num,ae.o,n.o⟩
      case measure=>simp[V3];omega
     ·have D:=af (G Y);clear J G k q A r m o;go_wp2;go_ret;exact⟨U5,rfl,by simp only[Vv,false_iff];exact D.o,n.o⟩
   ·have ao:=af (MK B a2 z.o x);clear z v;go_wp2;go_ret;exact⟨Z,rfl,by simp only[true_iff];exact ao.o,M.o⟩
 ·have T:¬mF l:=λb=>B ⟨b.1,b.2.1⟩;have m:=af T;clear g T;by_cases bt:l.length<1
  ·have S:decide ((l.length:Int)<1)=Z:=by simp;omega
   go_enter av.func31,Tryz.ntmps31;go_wp2
   all_goals go_ret
   all_goals exact⟨U5,rfl,by simp only[Vv,false_iff];exact m.o,Vi _ _⟩
  ·have S:decide ((l.length:Int)<1)=U5:=by simp;omega
   have au:decide (8<(l.length:Int))=Z:=by simp;omega
   go_enter av.func31,Tryz.ntmps31;go_wp2
   all_goals go_ret
   all_goals exact⟨U5,rfl,by simp only[Vv,false_iff];exact m.o,Vi _ _⟩
def r8 (b:List aC)(cs:List bQ):Prop:=b.length=cs.length/\∀a,(c:a<b.length)->(d:a<cs.length)->gD b[a] cs[a].kind=Z
def Ky(b:List aC)(cs:List bQ)(Q H:U)(w:F)(am:b.length<=Vp)(ao:cs.length<=Vp)(N:∀c∈cs,c.kind=1\/c.kind=2\/c.kind=3)(ar:tE w Q b)(al:Cd w H cs):
 bK 32 #[Q,H] w λe w'=>∃bb,e= .returned (.bool bb)/\(bb=Z↔r8 b cs)/\aQ w w':=by
 obtain⟨a4,a5,bd,a6,rfl,a9,g⟩:=al;obtain⟨bi,v,bF,aK,rfl,f⟩:=ar;unfold Vp at am ao;by_cases q:b.length=cs.length
 ·have P:((b.length:Int) !=(cs.length:Int))=U5:=by simp[q]
  have A:=af q;have C:=af g;have D:=af f;have z:=af N;clear g q f N;go_enter av.func32,Tryz.ntmps32
  go_wp2_with fail
  clear P
  go_loopw [14] (λd wr=>∃a:Nat,a<=cs.length/\d= .int .i64 a/\(∀d,(k:d<b.length)->(l:d<cs.length)->d<a->gD b[d] cs[d].kind=Z)/\aQ w wr) (λd _=>cs.length-(V3 d).toNat)
  case atStart=>exact⟨0,VB _,rfl,λbj _ _ h=>by omega,Vi _ _⟩
  case round=>
   obtain⟨a,ba,rfl,I,i⟩:=hrel;have o:=af I;have x:=af i;have au:=i.size;clear I;by_cases n:a<cs.length
   ·have g:=C.o.below i;have f:=D.o.below i;have r:a<b.length:=by rw[A.o];exact n
    obtain rfl:=g.addr (by omega);obtain rfl:=f.addr (by omega);have u:=f.lt (by omega);have aw:=g.c0 a n;have a0:=g.c1 a n;have R:=f.c0 a r;have S:=f.c1 a r;have T:=f.c2 a r;have O:=z.o cs[a] (Vn n);have B:X (∀p,bK 48 #[.agg #[.bool b[a].null,.int .i64 b[a].n,.string b[a].s],.int .i64 cs[a].kind] p λe w'=>e= .returned (.bool (gD b[a] cs[a].kind))/\aQ p w'):=λp=>ru b[a] cs[a].kind p O;have s:X (gD b[a] cs[a].kind=U5->¬r8 b cs):=λh ae=>by
     have:=ae.2 a r n;rw[h] at this;cases this
    have t:X (gD b[a] cs[a].kind=Z->∀d,(k:d<b.length)->(l:d<cs.length)->d<a+1->gD b[d] cs[d].kind=Z):=λh d k l a8=>by
     by_cases ad:d=a
     ·subst ad;exact h
     ·exact o.o d k l (by omega)
    clear g f i o C D z O;generalize b[a]=W at*;generalize cs[a]=c at*;have bc:(a:Int)<(b.length:Int):=by omega
    go_upto_region 6 with fail
    obtain⟨a1,be⟩:=oU wr (.string c.name) (.int .i64 c.kind) 51;have m:aQ wr (wr.alloc (.cells #[.string c.name,.int .i64 c.kind] 51)):=(Vi _ _).alloc (U7 _) _;have u0:=(m.cell (p:=⟨v,bF+a*3,K⟩) u).trans R;have u1:=(m.cell (p:=⟨v,bF+a*3+1,K⟩) u).trans S;have u2:=(m.cell (p:=⟨v,bF+a*3+2,K⟩) u).trans T;have y:=af (x.o.trans (m.mono au));clear m aw a0 R S T a1;generalize wr.alloc (.cells #[.string c.name,.int .i64 c.kind] 51)=G at*;generalize wr.heap.size=a7 at*
    go_cut [26] from 15 to 27 (λa2 V=>a2= .bool (!gD W c.kind)/\aQ w V)
    case first=>
     go_region_with (go_at_call 48;refine(B.o _).mono ?_;rintro e a3 ⟨rfl,L⟩)
     all_goals
      have j:X (aQ w a3):=y.o.trans ((((Vi G.heap.size G).drew).trans L).mono y.o.size);clear L
      go_wp2_with fail
      go_meet
      exact⟨rfl,j.o⟩
    case rest=>
     rename F=>V
     obtain⟨rfl,M⟩:=hcut;have j:=af M;clear M B;cases J:gD W c.kind
     ·have E:=af (s.o J);clear s t;go_wp2;go_ret
      first
       |exact⟨U5,rfl,by simp only[Vv,false_iff];exact E.o,j.o⟩
       |exact .inl ⟨rfl,E.o,j.o⟩
     ·have ab:=af (t.o J);clear s t;go_wp2
      go_roundw
      case rel=>exact⟨a+1,by omega,by go_num,ab.o,j.o⟩
      case measure=>simp[V3];omega
   ·have aa:X (r8 b cs):=⟨A.o,λd k l=>o.o d k l (by omega)⟩;clear o i;go_wp2;go_ret;exact⟨Z,rfl,by simp only[true_iff];exact aa.o,x.o⟩
 ·have P:((b.length:Int) !=(cs.length:Int))=Z:=by simp;omega
  have Y:X (¬r8 b cs):=λh=>q h.1;clear g f;go_enter av.func32,Tryz.ntmps32;go_wp2
  all_goals go_ret
  all_goals exact⟨U5,rfl,by simp only[Vv,false_iff];exact Y.o,Vi _ _⟩
structure xS(w:F)(ao:Option VI)(b off:Nat)(l:List (List aC)):Prop where
 addr:0<l.length->ao=I ⟨b,off,K⟩
 lt:0<l.length->b<w.heap.size
 c:∀j (h:j<l.length),∃v,w.cell? ⟨b,off+j,K⟩=I v/\tE w v l[j]
def xS.below{w w':F}{c:Option VI}{b off:Nat}{l:List (List aC)}(h:xS w c b off l)(a:XC w.heap.size w w'):xS w' c b off l:=
 ⟨h.addr,λe=>U9 (h.lt e) a.size,λd i=>by
  obtain⟨v,f,g⟩:=h.c d i;exact⟨v,(a.cell (p:=⟨b,off+d,K⟩) (h.lt (by omega))).trans f,g.below a⟩⟩
def DL (w:F)(v:U)(l:List (List aC)):Prop:=∃a c d b,v= .slice a l.length b/\l.length<=b/\xS w a c d l
def DL.below{w w':F}{v:U}{l:List (List aC)}(h:DL w v l)(d:XC w.heap.size w w'):DL w' v l:=by
 obtain⟨a,b,f,c,rfl,e,h⟩:=h;exact⟨a,b,f,c,rfl,e,h.below d⟩
def iG (cs:List bQ)(a:List (List aC)):Prop:=mF cs/\a.length<=2000/\∀b,(c:b<a.length)->r8 a[b] cs
def qE{cs:List bQ}(h:mF cs):∀c∈cs,c.kind=1\/c.kind=2\/c.kind=3:=by
 intro c a;obtain⟨d,b,rfl⟩:=WN a;have:=(h.2.2 d b).1;simp[pX,gC] at this;omega
def qz{Q:Prop}{R:F->Prop}{P:Vb}{f:Nat}{args:Array U}{w:F}(h:Calls P f args w λe w'=>∃bb,e= .returned (.bool bb)/\(bb=Z↔Q)/\R w')(c:Q):Calls P f args w λe w'=>e= .returned (.bool Z)/\R w':=
 h.mono (by rintro e w' ⟨bb,rfl,b,a⟩;rw[b.2 c];exact⟨rfl,a⟩)
def oE{Q:Prop}{R:F->Prop}{P:Vb}{f:Nat}{args:Array U}{w:F}(h:Calls P f args w λe w'=>∃bb,e= .returned (.bool bb)/\(bb=Z↔Q)/\R w')(c:¬Q):Calls P f args w λe w'=>e= .returned (.bool U5)/\R w':=
 h.mono (by
  rintro e w' ⟨bb,rfl,b,a⟩;cases bb
  ·exact⟨rfl,a⟩
  ·exact absurd (b.1 Y) c)
def EG(cs:List bQ)(a:List (List aC))(M T:U)(w:F)(O:cs.length<=Vp)(a7:a.length<=Vp)(a8:∀r∈a,r.length<=Vp)(N:Cd w M cs)(ba:DL w T a):
 bK 20 #[.agg #[M,T]] w λe w'=>∃bb,e= .returned (.bool bb)/\(bb=Z↔iG cs a)/\XC w.heap.size w w':=by
 have a5:=N;obtain⟨n,bi,br,o,rfl,bk,-⟩:=a5;obtain⟨u,bs,bF,aK,rfl,bo,q⟩:=ba;have ab:=af N;have ao:=af q;have C:=af O;have ad:=af a8;unfold Vp at O a7;go_enter av.func20,Tryz.ntmps20
 go_upto_region 1 with fail
 obtain⟨t,I⟩:=oU w (.slice n cs.length o) (.slice u a.length aK) 57;have E:XC w.heap.size w (w.alloc (.cells #[.slice n cs.length o,.slice u a.length aK] 57)):=(Vi _ _).alloc (U7 _) _;have k:w.heap.size<(w.alloc (.cells #[.slice n cs.length o,.slice u a.length aK] 57)).heap.size:=by simp
 have aa:=ab.o.below E;have al:=ao.o.below E;have x:=af E;generalize w.alloc (.cells #[.slice n cs.length o,.slice u a.length aK] 57)=m at*;have z:=af aa;have am:=af al;generalize a6:w.heap.size=j at*;have A:=af a6;by_cases p:mF cs
 ·have i:=qz (mL cs _ m C.o z.o) p;have J:=af p;by_cases P:a.length<=2000
  ·have a1:decide (2000<(a.length:Int))=U5:=by simp;omega
   go_wp2_with (go_at_call 31;refine i.mono ?_;rintro e V ⟨rfl,f⟩;have R:=(f.cell (p:=⟨j,0,K⟩) k).trans t;have S:=(f.cell (p:=⟨j,1,K⟩) k).trans I)
   have Y:=af f
   go_loopw [18] (λb wr=>∃c:Nat,c<=a.length/\b= .int .i64 c/\(∀b,(g:b<a.length)->b<c->r8 a[b] cs)/\XC m.heap.size m wr) (λb _=>a.length-(V3 b).toNat)
   case atStart=>exact⟨0,VB _,rfl,λbt _ g=>by omega,Y.o⟩
   case round=>
    rename F=>wr
    obtain⟨c,bm,rfl,a3,l⟩:=hrel;have i:=af a3;have W:=af l;have y:X (XC w.heap.size w wr):=by
     show XC w.heap.size w wr;have d:=x.o;have h:=l.mono d.size;rw[A.o] at h ⊢;exact d.trans h
    have bu:=(l.cell (p:=⟨j,0,K⟩) k).trans t;have bc:=l.size;by_cases H:c<a.length
    ·have q:=am.o.below l;obtain rfl:=q.addr (by omega);obtain⟨v,bl,Q⟩:=q.c c H;have a9:=ad.o a[c] (Vn H);have L:=af (Ky a[c] cs v _ wr a9 C.o (qE J.o) Q (z.o.below l));have ar:X (¬r8 a[c] cs->¬iG cs a):=λg a4=>g (a4.2.2 c H);have aw:X (r8 a[c] cs->∀b,(g:b<a.length)->b<c+1->r8 a[b] cs):=λg b d bj=>by
      by_cases a2:b=c
      ·subst a2;exact g
      ·exact i.o b d (by omega)
     obtain⟨bz,bv,bA,bx,rfl,-⟩:=Q;generalize a[c]=be at*;by_cases s:r8 be cs
     ·have B:=af (qz L.o s);have a0:=af (aw.o s)
      go_wp2_with (go_at_call 32;refine B.o.mono ?_;rintro e bd ⟨rfl,G⟩)
      go_roundw
      case rel=>exact⟨c+1,by omega,by go_num,a0.o,W.o.trans (G.mono bc)⟩
      case measure=>simp[V3];omega
     ·have B:=af (oE L.o s);have au:=af (ar.o s)
      go_wp2_with (go_at_call 32;refine B.o.mono ?_;rintro e bd ⟨rfl,G⟩)
      go_ret;exact⟨U5,rfl,by simp only[Vv,false_iff];exact au.o,y.o.trans (G.mono y.o.size)⟩
    ·have ae:X (iG cs a):=⟨J.o,P,λb d=>i.o b d (by omega)⟩;go_wp2;go_ret;exact⟨Z,rfl,by simp only[true_iff];exact ae.o,y.o⟩
  ·have a1:decide (2000<(a.length:Int))=Z:=by simp;omega
   have D:X (¬iG cs a):=λg=>P g.2.1
   go_wp2_with (go_at_call 31;refine i.mono ?_;rintro e V ⟨rfl,f⟩;have R:=(f.cell (p:=⟨j,0,K⟩) k).trans t;have S:=(f.cell (p:=⟨j,1,K⟩) k).trans I)
   go_ret;refine⟨U5,rfl,by simp only[Vv,false_iff];exact D.o,?_⟩;have d:=x.o;have h:=f.mono d.size;rw[A.o] at h ⊢;exact d.trans h
 ·have i:=oE (mL cs _ m C.o z.o) p;have D:X (¬iG cs a):=λg=>p g.1
  go_wp2_with (go_at_call 31;refine i.mono ?_;rintro e V ⟨rfl,f⟩;have R:=(f.cell (p:=⟨j,0,K⟩) k).trans t;have S:=(f.cell (p:=⟨j,1,K⟩) k).trans I)
  go_ret;refine⟨U5,rfl,by simp only[Vv,false_iff];exact D.o,?_⟩;have d:=x.o;have h:=f.mono d.size;rw[A.o] at h ⊢;exact d.trans h
end Ec
namespace Pk
open Go.RowKit Pm
def Ew(s:ByteArray)(p:Nat)(h:p<s.size):s.extract p (p+1)=⟨#[s[p]]⟩:=by
 apply nK;unfold bytesOf;congr 1;rw[ByteArray.data_extract];simp only[Array.toList_extract];have a:p<s.data.toList.length:=h;rw[show List.extract s.data.toList p (p+1)=(s.data.toList.drop p).take 1 from by simp[List.extract],List.drop_eq_getElem_cons a];rfl
def bY (s:ByteArray)(p:Nat):Yk:=.cells #[.string s,.int .i64 (p:Int)] 146 (0,0)
def ez (p:Nat):List Ws:=[{v:=.iface 161 (.agg #[.int .i64 (p:Int)]),recovered:=U5}]
def kL{w:F}{r p:Nat}{s:ByteArray}(h:w.heap[r]? =I (bY s p)):
 w.cell? ⟨r,0,K⟩=I (.string s)/\w.cell? ⟨r,1,K⟩=I (.int .i64 (p:Int))/\w.frozen? ⟨r,0,K⟩=U5/\w.frozen? ⟨r,1,K⟩=U5:=by
 unfold bY at h;refine⟨?_,?_,?_,?_⟩
 ·simp[Ve,h]
 ·simp[Ve,h]
 ·simp[VW,h]
 ·simp[VW,h]
def Er(w:F)(a:VI)(v:U)(m n:Nat):((w.drewN m).setCell a v).drewN n=(w.setCell a v).drewN (m+n):=by
 rw[show(w.drewN m).setCell a v=(w.setCell a v).drewN m from by unfold World.setCell;rfl,World.drewN_drewN]
def bU(r p:Nat)(s:ByteArray)(w:F)(h:w.heap[r]? =I (bY s p)):
 bK 73 #[(aP r)] w λe w'=>e= .panicked (ez p)/\w'=w:=by
 obtain⟨a,b,c,d⟩:=kL h;go_enter av.func73,Tryz.ntmps73;go_wp2;exact⟨rfl,rfl,rfl⟩
def OF(r p:Nat)(s:ByteArray)(w:F)(b:s.size<=Vp)(j:¬p<s.size)(k:p<=s.size)(h:w.heap[r]? =I (bY s p)):
 bK 84 #[(aP r),.int .i64 1] w λe w'=>e= .panicked (ez p)/\∃n,w'=w.drewN n:=by
 obtain⟨c,d,f,g⟩:=kL h;unfold Vp at b;have a:=af h;have i:decide ((s.size:Int)-(p:Int)<1)=Z:=by simp;omega
 go_enter av.func84,Tryz.ntmps84
 go_wp2_with fail
 go_quiet (fail)
 go_wp2_with (go_at_call 73;refine(bU r p s _ (by exact a.o)).mono ?_;rintro e w' ⟨rfl,rfl⟩)
 exact⟨rfl,rfl,nq,rfl⟩
def QI(r p:Nat)(s:ByteArray)(w:F)(a:s.size<=Vp)(b:p<s.size)(h:w.heap[r]? =I (bY s p)):
 bK 84 #[(aP r),.int .i64 1] w λe w'=>e= .returned (.string ⟨#[s[p]]⟩)/\∃n,w'=(w.setCell ⟨r,1,K⟩ (.int .i64 ((p+1:Nat):Int))).drewN n:=by
 obtain⟨c,d,f,g⟩:=kL h;unfold Vp at a;have i:decide ((s.size:Int)-(p:Int)<1)=U5:=by simp;omega
 have j:(0:Int)<=(p:Int)+1:=by omega
 have k:(p:Int)+1<=(s.size:Int):=by omega
 have l:(p:Int)<=(p:Int)+1:=by omega
 have o:((p:Int)+1).toNat=p+1:=by omega
 have q:=Ew s p b;go_enter av.func84,Tryz.ntmps84
 go_wp2_with fail
 go_quiet (fail)
 generalize nq=m at*
 go_wp2_with fail
 go_quiet (fail)
 go_wp2;go_ret;exact⟨rfl,m+nq,Er _ _ _ _ _⟩
def tG(r p:Nat)(s:ByteArray)(w:F)(b:s.size<=Vp)(c:¬p<s.size)(d:p<=s.size)(h:w.heap[r]? =I (bY s p)):
 bK 85 #[(aP r)] w λe w'=>e= .panicked (ez p)/\∃n,w'=w.drewN n:=by
 have a:=af h;go_enter av.func85,Tryz.ntmps85
 go_wp2_with (go_at_call 84;refine(OF r p s _ b c d a.o).mono ?_;rintro e w' ⟨rfl,n,rfl⟩)
 exact⟨rfl,rfl,n,rfl⟩
def xw(r p:Nat)(s:ByteArray)(w:F)(b:s.size<=Vp)(c:p<s.size)(h:w.heap[r]? =I (bY s p)):
 bK 85 #[(aP r)] w λe w'=>e= .returned (.int .u8 (s[p].toNat:Int))/\∃n,w'=(w.setCell ⟨r,1,K⟩ (.int .i64 ((p+1:Nat):Int))).drewN n:=by
 have a:=af h;go_enter av.func85,Tryz.ntmps85
 go_wp2_with (go_at_call 84;refine(QI r p s _ b c a.o).mono ?_;rintro e w' ⟨rfl,n,rfl⟩)
 go_ret;exact⟨rfl,n,rfl⟩
def CA(r p:Nat)(s:ByteArray)(w:F)(b:s.size<=Vp)(j:p<s.size)(h:w.heap[r]? =I (bY s p)):
 bK 68 #[(aP r)] w λe w'=>e= .panicked (ez p)/\∃n,w'=w.drewN n:=by
 obtain⟨c,d,f,g⟩:=kL h;unfold Vp at b;have a:=af h;have i:decide ((p:Int)<(s.size:Int))=Z:=by simp;omega
 go_enter av.func68,Tryz.ntmps68
 go_wp2_with fail
 go_quiet (fail)
 go_wp2_with (go_at_call 73;refine(bU r p s _ (by exact a.o)).mono ?_;rintro e w' ⟨rfl,rfl⟩)
 exact⟨rfl,rfl,nq,rfl⟩
def GQ(r p:Nat)(s:ByteArray)(w:F)(a:s.size<=Vp)(i:¬p<s.size)(h:w.heap[r]? =I (bY s p)):
 bK 68 #[(aP r)] w λe w'=>e= .returned (.tuple #[])/\∃n,w'=w.drewN n:=by
 obtain⟨b,c,d,f⟩:=kL h;unfold Vp at a;have g:decide ((p:Int)<(s.size:Int))=U5:=by simp;omega
 go_enter av.func68,Tryz.ntmps68
 go_wp2_with fail
 go_quiet (fail)
 go_wp2
 go_end0
 exact⟨rfl,nq,rfl⟩
def n7(s:ByteArray)(w:F):
 bK 45 #[.string s] w λe w'=>e= .returned (aP w.heap.size)/\w'=w.alloc (bY s 0):=by
 go_enter av.func45,Tryz.ntmps45;go_wp2;go_ret;exact⟨rfl,rfl⟩
def mo{w:F}{r p q:Nat}{s:ByteArray}(h:w.heap[r]? =I (bY s p))(n:Nat):((w.setCell ⟨r,1,K⟩ (.int .i64 (q:Int))).drewN n).heap[r]? =I (bY s q):=by
 show(w.setCell ⟨r,1,K⟩ (.int .i64 (q:Int))).heap[r]? =_;unfold bY at*;rw[Vl w r 1 _ _ _ h];rfl
def Kp (r:Nat)(w w':F):Prop:=w.grownBy w' (I r)
def Kp.refl(r:Nat)(w:F):Kp r w w:=ZR w _
def Kp.size{r:Nat}{w w':F}(h:Kp r w w'):w.heap.size<=w'.heap.size:=Yr h
def Kp.trans{r:Nat}{w d e:F}(h:Kp r w d)(k:Kp r d e):Kp r w e:=
 ⟨k.os.trans h.os,k.tape.trans h.tape,k.output.trans h.output,Vm (Yr h) (Yr k),λc a b=>(XI k c (U9 a (Yr h)) b).trans (XI h c a b)⟩
def Kp.drewN{r:Nat}{w a:F}(h:Kp r w a)(n:Nat):Kp r w (a.drewN n):=Kp.trans h ⟨rfl,rfl,rfl,U7 _,λ_ _ _=>rfl⟩
def Kp.alloc{r:Nat}{w a:F}(h:Kp r w a)(o:Yk):Kp r w (a.alloc o):=Kp.trans h (World.grownBy_alloc a o _)
def Kp.grown{r:Nat}{w d e:F}{c:Option Nat}(h:Kp r w d)(k:d.grownBy e c)(j:∀g,c=I g->w.heap.size<=g):Kp r w e:=
 ⟨k.os.trans h.os,k.tape.trans h.tape,k.output.trans h.output,Vm (Yr h) k.size,λa b i=>(k.block a (U9 b (Yr h)) (λf=>by have:=j a f.symm;omega)).trans (XI h a b i)⟩
def Kp.set{r:Nat}{w a:F}(h:Kp r w a)(o:Nat)(v:U)(n:Nat):Kp r w ((a.setCell ⟨r,o,K⟩ v).drewN n):=
 Kp.trans h ⟨rfl,rfl,rfl,by simp,λd e c=>by
  show(a.setCell ⟨r,o,K⟩ v).heap[d]? =_;exact Vj _ _ _ _ (λb=>c (by cases b;rfl))⟩
def Kp.below{r:Nat}{w a:F}(h:Kp r w a)(e:r<=w.heap.size):XC r w a:=⟨h.os,h.tape,h.output,Yr h,λc d=>XI h c (by omega) (λb=>by cases b;omega)⟩
def Kp.cr{r:Nat}{w a:F}(h:aQ w a):Kp r w a:=⟨h.os,h.tape,h.output,h.size,λc b _=>h.block c b⟩
def Kp.own{r:Nat}{w b:F}{base e a n:Nat}{v:U}{c:List U}(k:Kp r w b)(h:w.ownsRow base e a v n c)(g:r<base):b.ownsRow base e a v n c:=
 h.kept k (by
  cases d:v.ownBlock with
  |none=>exact .inl Y
  |some f=>exact .inr (λe=>by cases e;have:=(h.lt r d).1;omega))
def Kp.block{r:Nat}{w a:F}(k:Kp r w a){i:Nat}{o:Yk}(h:w.heap[i]? =I o)(c:i≠r):a.heap[i]? =I o:=by
 rw[XI k i (Va h) (λb=>c (by cases b;rfl))];exact h
end Pk
namespace Ec
open Go.RowKit Pk Pm
def ai (B:List Nat)(p:Nat)(a:List Nat):Prop:=a <+:B.drop p
def nl(B:List Nat)(p:Nat):ai B p []:=List.nil_prefix
def ap{B:List Nat}{p:Nat}{a b:List Nat}:ai B p (a++b)↔ai B p a/\ai B (p+a.length) b:=by
 unfold ai;constructor
 ·rintro⟨e,c⟩;refine⟨⟨b++e,by rw[<-c];simp⟩,⟨e,?_⟩⟩;rw[<-List.drop_drop,<-c];simp
 ·rintro⟨⟨e,c⟩,⟨f,d⟩⟩;refine⟨f,?_⟩;rw[<-List.drop_drop,<-c] at d;simp at d;rw[<-c,Vu,d]
def eS{B:List Nat}{p x:Nat}{r:List Nat}:ai B p (x::r)↔B[p]? =I x/\ai B (p+1) r:=by
 rw[show x::r=[x]++r from rfl,ap];have:ai B p [x]↔B[p]? =I x:=by
  unfold ai;rw[<-List.head?_drop];cases B.drop p with
  |nil=>simp
  |cons b a=>simp[List.cons_prefix_cons];exact eq_comm
 rw[this];rfl
def dA{B:List Nat}{p x:Nat}:ai B p [x]↔B[p]? =I x:=by
 rw[eS];simp[nl]
def gJ{B:List Nat}{p:Nat}{a:List Nat}(h:ai B p a)(b:p<=B.length):p+a.length<=B.length:=by
 have:=h.length_le;rw[Yd] at this;omega
def Dr{B a:List Nat}(h:ai B 0 a)(b:¬ 0+a.length<B.length):a=B:=by
 unfold ai at h;rw[List.drop_zero] at h;exact h.eq_of_length_le (by omega)
def eN{B a:List Nat}(h:a=B):ai B 0 a:=by
 subst h;unfold ai;exact List.prefix_refl _
def iD{B:List Nat}{p:Nat}{a b:List Nat}(c:ai B p a)(d:ai B p b)(e:a.length=b.length):a=b:=
 (List.prefix_of_prefix_length_le c d (by omega)).eq_of_length e
def qY{B:List Nat}{p f c x:Nat}(hc:B[p]? =I c)(h:128<=c)(a:ai B p (jl (f+1) x)):128<=x/\x%128+128=c/\ai B (p+1) (jl f (x/128)):=by
 by_cases b:x<128
 ·rw[gm f x b,dA,hc] at a;simp at a;omega
 ·rw[iR f x b,eS,hc] at a;simp at a;exact⟨by omega,a.1.symm,a.2⟩
def nt{B:List Nat}{p f c x:Nat}(hc:B[p]? =I c)(h:c<128):ai B p (jl (f+1) x)↔x=c:=by
 by_cases a:x<128
 ·rw[gm f x a,dA,hc];simp;exact eq_comm
 ·rw[iR f x a,eS,hc];simp;omega
structure Ck(B:List Nat)(p j acc:Nat):Prop where
 lt:acc<128^j
 all:∀v,v<18446744073709551616->(ai B p (aH v)↔∃x,v=acc+128^j*x/\(x≠0\/j=0)/\ai B (p+j) (jl (10-j) x))
 len:∀x,(x≠0\/j=0)->(aH (acc+128^j*x)).length=j+(jl (10-j) x).length
def Ck.zero(B:List Nat)(p:Nat):Ck B p 0 0:=
 ⟨by simp,λv _=>⟨λb=>⟨v,by simp,.inr Y,b⟩,fun⟨d,a,_,c⟩=>by simp at a;subst a;exact c⟩,λd _=>by simp[aH]⟩
def Ck.more{B:List Nat}{p j b c:Nat}(h:Ck B p j b)(r:j<10)(hc:B[p+j]? =I c)(h1:128<=c)(n:c<256):Ck B p (j+1) (b+128^j*(c-128)):=by
 have t:=h.lt;have g:10-j=(10-(j+1))+1:=by omega
 have s:∀a,c-128+128*a=128*a+(c-128):=λa=>by omega
 have f:∀a,b+128^j*(c-128)+128^(j+1)*a=b+128^j*(c-128+128*a):=λa=>by
  rw[Yz,Nat.mul_add,Nat.mul_assoc];omega
 refine⟨?_,?_,?_⟩
 ·have d:128^j*(c-128)<=128^j*127:=Nat.mul_le_mul_left _ (by omega);rw[Yz];omega
 ·intro v m;rw[h.all v m];constructor
  ·rintro⟨a,d,k,e⟩;rw[g] at e;obtain⟨o,q,l⟩:=qY hc h1 e;refine⟨a/128,?_,.inl (by omega),by rw[<-Wc];exact l⟩;rw[f,d];congr 2;omega
  ·rintro⟨a,d,k,e⟩;have i:a≠0:=by rcases k with h|h;exact h;omega
   refine⟨c-128+128*a,by rw[d,f],.inl (by omega),?_⟩;rw[g,iR _ _ (by omega),eS];refine⟨by rw[hc];congr 1;omega,?_⟩;rw[show(c-128+128*a)/128=a by omega,Wc];exact e
 ·intro a i;have i:a≠0:=by rcases i with h|h;exact h;omega
  rw[f,h.len _ (.inl (by omega)),g,iR _ _ (by omega),show(c-128+128*a)/128=a by omega];simp;omega
def Ck.fin{B:List Nat}{p j d c:Nat}(h:Ck B p j d)(i:j<10)(hc:B[p+j]? =I c)(h1:c<128)(v:Nat)(g:v<18446744073709551616):
 ai B p (aH v)↔v=d+128^j*c/\(c≠0\/j=0):=by
 rw[h.all v g];have f:10-j=(10-(j+1))+1:=by omega
 constructor
 ·rintro⟨k,a,b,e⟩;rw[f,nt hc h1] at e;subst e;exact⟨a,b⟩
 ·rintro⟨a,b⟩;exact⟨c,a,b,by rw[f,nt hc h1]⟩
def Ck.PL{B:List Nat}{p j a c:Nat}(h:Ck B p j a)(b:j<10)(h1:c<128)(hc:c≠0\/j=0):(aH (a+128^j*c)).length=j+1:=by
 rw[h.len c hc,show 10-j=(10-(j+1))+1 by omega,gm _ _ h1];rfl
def Ck.none{B:List Nat}{p j d:Nat}(h:Ck B p j d)(k:j<10)(l:¬p+j<B.length)(v:Nat)(e:v<18446744073709551616):¬ai B p (aH v):=by
 rw[h.all v e];rintro⟨f,g,i,a⟩;rw[show 10-j=(10-(j+1))+1 by omega] at a;have b:B[p+j]? =K:=List.getElem?_eq_none (by omega);by_cases c:f<128
 ·rw[gm _ _ c,dA,b] at a;simp at a
 ·rw[iR _ _ c,eS,b] at a;simp at a
def Ck.UY{B:List Nat}{p a:Nat}(h:Ck B p 10 a)(v:Nat)(c:v<18446744073709551616):¬ai B p (aH v):=by
 rw[h.all v c];rintro⟨f,b,d,e⟩;have:(128:Nat)^10=1180591620717411303424:=by decide
 rw[this] at b;omega
def Ck.top{B:List Nat}{p j a c:Nat}(h:Ck B p j a)(f:j<9\/(j=9/\c<=1))(hc:c<128):a+128^j*c<18446744073709551616:=by
 have g:=h.lt;rcases f with d|⟨rfl,d⟩
 ·have e:128^(j+1)<=128^9:=Xx (by omega) (by omega);have b:(128:Nat)^9=9223372036854775808:=by decide
  rw[Yz] at e;have i:128^j*c<=128^j*127:=Nat.mul_le_mul_left _ (by omega);omega
 ·have b:(128:Nat)^9=9223372036854775808:=by decide
  rw[b] at g ⊢;omega
def Ck.over{B:List Nat}{p a c:Nat}(h:1<c):¬a+128^9*c<18446744073709551616:=by
 have b:(128:Nat)^9=9223372036854775808:=by decide
 rw[b];omega
def ct{B:List Nat}{p a b:Nat}(e:a<18446744073709551616)(n:b<18446744073709551616)(h1:ai B p (aH a))(d:ai B p (aH b)):a=b:=by
 have j:∀f a b p,a<128^f->b<128^f->ai B p (jl f a)->ai B p (jl f b)->a=b:=by
  intro f
  induction f with
  |zero=>intro a b p h1 d;simp at h1 d;omega
  |succ f i=>
   intro a b p h1 d c g;by_cases e:a<128
   ·rw[gm f a e,dA] at c;exact((nt c e).1 g).symm
   ·rw[iR f a e,eS] at c;obtain⟨k,l,h⟩:=qY c.1 (by omega) g;have m:=i (a/128) (b/128) (p+1) (by rw[Yz] at h1;omega) (by rw[Yz] at d;omega) c.2 h;omega
 have c:(128:Nat)^10=1180591620717411303424:=by decide
 exact j 10 a b p (by omega) (by omega) h1 d
def od (l:List Int):Prop:=∀a∈l,a=0\/a=1
def lX(x:Int)(r:List Int):0<dz x (x::r):=by simp[dz]
def H9:∀(f:Nat) (l:List Int),l.length<=f->iC (f+1) l=iC f l:=by
 intro f
 induction f with
 |zero=>intro l c;cases l with
  |nil=>rfl
  |cons a b=>simp at c
 |succ f e=>
  intro l c;cases l with
  |nil=>rfl
  |cons a b=>
   have g:=lX a b;have d:=e ((a::b).drop (dz a (a::b))) (by rw[Yd];simp at c ⊢;omega);rw[iC,iC];simp only[d]
def Oa(f:Nat)(l:List Int)(h:l.length<=f):iC f l=cC l:=by
 induction f with
 |zero=>
  have:l=[]:=Xn.1 (by omega);subst this;rfl
 |succ f b=>
  by_cases a:l.length<=f
  ·rw[H9 f l a,b a]
  ·unfold cC;rw[show l.length=f+1 by omega]
def Ll:cC []=[]:=rfl
def zE(x:Int)(r:List Int):cC (x::r)=aH (dz x (x::r))++([byteOf x]++cC ((x::r).drop (dz x (x::r)))):=by
 have a:=lX x r;rw[<-Oa r.length ((x::r).drop (dz x (x::r))) (by rw[Yd];simp;omega)];rfl
def H8(b:Int)(n:Nat)(m:List Int)(h:m.head? ≠I b):dz b (VP n b++m)=n:=by
 induction n with
 |zero=>
  cases m with
  |nil=>rfl
  |cons e d=>simp[dz];intro a;subst a;simp at h
 |succ n c=>rw[List.replicate_succ,XF,dz,if_pos Y,c]
def Ln(b:Int)(n:Nat)(m:List Int)(e:n≠0)(h:m.head? ≠I b):cC (VP n b++m)=aH n++([byteOf b]++cC m):=by
 obtain⟨a,rfl⟩:∃a,n=a+1:=⟨n-1,by omega⟩;have c:VP (a+1) b++m=b::(VP a b++m):=by rw[List.replicate_succ];rfl
 have d:=H8 b (a+1) m h;rw[c] at d ⊢;rw[zE,d,<-c];simp
def Da(x:Int)(l:List Int):l=VP (dz x l) x++l.drop (dz x l):=by
 induction l with
 |nil=>rfl
 |cons d c b=>
  simp only[dz]
  split
  ·rename_i a;subst a;rw[List.replicate_succ,XF,List.drop_succ_cons,<-b]
  ·simp
def C9(x:Int)(l:List Int):(l.drop (dz x l)).head? ≠I x:=by
 intro a;rw[List.head?_drop] at a;obtain⟨b,c⟩:=Vs.1 a;exact zD x l b c
structure L6(B:List Nat)(p cn:Nat)(l:List Int)(R:List Nat):Prop where
 le:l.length<=cn
 bits:od l
 st:ai B p R
 ext:∀m:List Int,(m=[]\/l=[]\/m.head? ≠l.getLast?)->cC (l++m)=R++cC m
 JJ:∀L:List Int,L.length=cn->od L->ai B p (cC L)->∃m,L=l++m/\(m=[]\/l=[]\/m.head? ≠l.getLast?)
def L6.zero(B:List Nat)(p cn:Nat):L6 B p cn [] []:=
 ⟨VB _,λc b=>by simp at b,nl _ _,λm _=>rfl,λa _ _ _=>⟨a,rfl,.inr (.inl Y)⟩⟩
def kC{b:Int}(h:b=0\/b=1):byteOf b=b.toNat:=by rcases h with rfl|rfl<;>rfl
def L6.next{B:List Nat}{p cn:Nat}{l:List Int}{R:List Nat}(h:L6 B p cn l R)(k:l.length<cn)(L:List Int)(hL:L.length=cn)(g:od L)(e:ai B p (cC L)):
 ∃(n:Nat) (b:Int) (m:List Int),1<=n/\n<=cn-l.length/\(b=0\/b=1)/\(l=[]\/l.getLast? ≠I b)/\ai B (p+R.length) (aH n)/\ai B (p+R.length+(aH n).length) [b.toNat]/\
  L=(l++VP n b)++m/\m.head? ≠I b:=by
 obtain⟨m,rfl,i⟩:=h.JJ L hL g e;rw[U8] at hL;cases m with
 |nil=>simp at hL;omega
 |cons a c=>
  rw[h.ext _ i,ap] at e;have f:=e.2;rw[zE,ap,ap] at f;have j:a=0\/a=1:=g a (by simp);refine⟨dz a (a::c),a,(a::c).drop (dz a (a::c)),lX a c,?_,j,?_,f.1,?_,?_,C9 a (a::c)⟩
  ·have:=BP a (a::c);omega
  ·rcases i with d|d|d
   ·simp at d
   ·exact .inl d
   ·right;simpa [eq_comm] using d
  ·rw[<-kC j];exact f.2.1
  ·rw[Vu,<-Da]
def L6.more{B:List Nat}{p cn:Nat}{l:List Int}{R:List Nat}(h:L6 B p cn l R){n:Nat}{b:Int}(c:n≠0)(N:n<=cn-l.length)(D:n<18446744073709551616)(e:b=0\/b=1)(z:l=[]\/l.getLast? ≠I b)
 (j:ai B (p+R.length) (aH n)) (a:ai B (p+R.length+(aH n).length) [b.toNat]) (M:cn<=100) (A:l.length<cn):L6 B p cn (l++VP n b) (R++(aH n++[b.toNat])):=by
 have O:VP n b≠[]:=by simp;exact c
 have f:(l++VP n b).getLast?= I b:=by
  rw[List.getLast?_append,List.getLast?_replicate,if_neg c];rfl
 have y:∀m,(VP n b++m).head?= I b:=by
  intro m;obtain⟨i,rfl⟩:∃i,n=i+1:=⟨n-1,by omega⟩;rw[List.replicate_succ];rfl
 refine⟨by simp;omega,?_,?_,?_,?_⟩
 ·intro H F;rcases VM.1 F with h1|h1
  ·exact h.bits H h1
  ·rw[(List.mem_replicate.1 h1).2];exact e
 ·rw[ap,ap];exact⟨h.st,j,a⟩
 ·intro m g;rw[f] at g;have C:m.head? ≠I b:=by
   rcases g with h1|h1|h1
   ·subst h1;simp
   ·simp at h1;omega
   ·exact h1
  rw[Vu,h.ext _ (by rw[y];rcases z with h1|h1;exact .inr (.inl h1);exact .inr (.inr (λq=>h1 q.symm))),Ln b n m c C,kC e];simp
 ·intro k w x E;obtain⟨G,o,m,h1,J,K,L,t,d,u,v⟩:=h.next A k w x E;have r:G=n:=ct (by omega) D t j;subst r;have s:o=b:=by
   rw[dA] at d a;rw[d] at a;simp at a;omega
  subst s;exact⟨m,u,.inr (.inr (by rw[f];exact v))⟩
def L6.done{B:List Nat}{p cn:Nat}{l:List Int}{R:List Nat}(h:L6 B p cn l R)(e:¬l.length<cn):
 l.length=cn/\cC l=R/\(∀L:List Int,L.length=cn->od L->ai B p (cC L)->L=l):=by
 have c:l.length=cn:=by have:=h.le;omega
 refine⟨c,?_,?_⟩
 ·have:=h.ext [] (.inl Y);simpa [Ll] using this
 ·intro L a b d;obtain⟨m,rfl,_⟩:=h.JJ L a b d;rw[U8] at a;have:m=[]:=Xn.1 (by omega);rw[this];simp
def tF(s:ByteArray)(p:Nat)(h:p<s.size):(bytesOf s)[p]? =I s[p].toNat:=by
 rw[Vf (by rw[ak];exact h),vS s p h]
def RH(c:Nat)(h:c<256):bits .and .u8 (c:Int) 127=((c%128:Nat):Int):=by
 have:=bits_mask .u8 8 (by decide) wraps_u8 7 (by decide) (c:Int) (by omega) (by omega);rw[show(127:Int)=2^7-1 from by decide,this];omega
def vO(n:Int)(a:0<=n)(b:n<2^64):Xu.wrap n=n:=by rw[wrap_u64];omega
def dm(s:ByteArray)(p q:Nat):bytesOf (s.extract p q)=((bytesOf s).drop p).take (q-p):=by
 unfold bytesOf;rw[ByteArray.data_extract];simp only[Array.toList_extract,List.extract_eq_take_drop,List.map_take,List.map_drop]
def BZ(r p c:Nat)(s:ByteArray)(w:F)(b:s.size<=Vp)(hc:c<=2147483648)(l:¬p+c<=s.size)(m:p<=s.size)(h:w.heap[r]? =I (bY s p)):
 bK 84 #[(aP r),.int .i64 (c:Int)] w λe w'=>e= .panicked (ez p)/\∃n,w'=w.drewN n:=by
 obtain⟨d,f,g,i⟩:=kL h;unfold Vp at b;have a:=af h;have k:decide ((c:Int)<0)=U5:=by simp
 have j:decide ((s.size:Int)-(p:Int)<(c:Int))=Z:=by simp;omega
 go_enter av.func84,Tryz.ntmps84
 go_wp2_with fail
 go_quiet (fail)
 go_wp2_with (go_at_call 73;refine(bU r p s _ (by exact a.o)).mono ?_;rintro e w' ⟨rfl,rfl⟩)
 exact⟨rfl,rfl,nq,rfl⟩
def FP(r p c:Nat)(s:ByteArray)(w:F)(a:s.size<=Vp)(k:p+c<=s.size)(h:w.heap[r]? =I (bY s p)):
 bK 84 #[(aP r),.int .i64 (c:Int)] w λe w'=>e= .returned (.string (s.extract p (p+c)))/\∃n,w'=(w.setCell ⟨r,1,K⟩ (.int .i64 ((p+c:Nat):Int))).drewN n:=by
 obtain⟨b,d,f,g⟩:=kL h;unfold Vp at a;have j:decide ((c:Int)<0)=U5:=by simp
 have i:decide ((s.size:Int)-(p:Int)<(c:Int))=U5:=by simp;omega
 have l:(0:Int)<=(p:Int)+(c:Int):=by omega
 have o:(p:Int)+(c:Int)<=(s.size:Int):=by omega
 have q:(p:Int)<=(p:Int)+(c:Int):=by omega
 have t:((p:Int)+(c:Int)).toNat=p+c:=by omega
 go_enter av.func84,Tryz.ntmps84
 go_wp2_with fail
 go_quiet (fail)
 generalize nq=m at*
 go_wp2_with fail
 go_quiet (fail)
 go_wp2;go_ret;exact⟨rfl,m+nq,Er _ _ _ _ _⟩
def Cn(r p:Nat)(s:ByteArray)(w:F)(k:s.size<=Vp)(l:p<=s.size)(h:w.heap[r]? =I (bY s p)):
 bK 103 #[(aP r)] w λe w'=>Kp r w w'/\((∃b:Int,e= .returned (.int .i64 b)/\(b=0\/b=1)/\ai (bytesOf s) p [b.toNat]/\w'.heap[r]? =I (bY s (p+1))/\p+1<=s.size)\/
  (∃q,e= .panicked (ez q)/\∀b:Int,(b=0\/b=1)->¬ai (bytesOf s) p [b.toNat])):=by
 have c:=af h;by_cases g:p<s.size
 ·have m:=tF s p g;have j:X (∀w,w.heap[r]? =I (bY s p)->bK 85 #[(aP r)] w λe w'=>e= .returned (.int .u8 (s[p].toNat:Int))/\∃a,w'=(w.setCell ⟨r,1,K⟩ (.int .i64 ((p+1:Nat):Int))).drewN a):=
   λw u=>xw r p s w k g u
  have x:s[p].toNat<256:=s[p].toNat_lt;have i:=af m;generalize s[p].toNat=d at*;by_cases v:d<=1
  ·have o:decide ((1:Int)<(d:Int))=U5:=by simp;omega
   go_enter av.func103,Tryz.ntmps103
   go_wp2_with (go_at_call 85;refine(j.o _ c.o).mono ?_;rintro e w' ⟨rfl,a,rfl⟩)
   go_ret;refine⟨(Kp.refl _ _).set _ _ a,.inl ⟨(d:Int),by first|rfl|(congr 2;omega),by omega,?_,mo c.o a,by omega⟩⟩;rw[dA,i.o];simp
  ·have o:decide ((1:Int)<(d:Int))=Z:=by simp;omega
   have f:X (∀b:Int,(b=0\/b=1)->¬ai (bytesOf s) p [b.toNat]):=by
    intro b n;rw[dA,i.o];simp;omega
   go_enter av.func103,Tryz.ntmps103
   go_wp2_with first|(go_at_call 85;refine(j.o _ c.o).mono ?_;rintro e w' ⟨rfl,a,rfl⟩)|(go_at_call 73;refine(bU r (p+1) s _ (by exact mo c.o _)).mono ?_;rintro e w' ⟨rfl,rfl⟩)
   exact⟨rfl,(Kp.refl _ _).set _ _ a,.inr ⟨_,rfl,f.o⟩⟩
 ·have f:X (∀b:Int,(b=0\/b=1)->¬ai (bytesOf s) p [b.toNat]):=by
   intro b n t;have:=gJ t (by rw[ak];exact l);rw[ak] at this;simp at this;omega
  go_enter av.func103,Tryz.ntmps103
  go_wp2_with (go_at_call 85;refine(tG r p s _ k g l c.o).mono ?_;rintro e w' ⟨rfl,a,rfl⟩)
  exact⟨rfl,(Kp.refl _ _).drewN a,.inr ⟨_,rfl,f.o⟩⟩
def Sy(j:Nat):(128:Nat)^j=2^(7*j):=by rw[Nat.pow_mul]
def Qh(b c j:Nat)(h:j<=9)(f:b<128^j)(hc:c<128):∃d:Nat,bits .or .u64 (b:Int) (Xu.wrap ((c:Int)*2^(7*j)))=(d:Int)/\d<18446744073709551616/\((j<=8\/c<=1)->d=b+128^j*c):=by
 have o:(128:Nat)^9=9223372036854775808:=by decide
 have l:128^j<=128^9:=Xx (by omega) h;have g:(c:Int)*2^(7*j)=((2^(7*j)*c:Nat):Int):=by push_cast;rw[Int.mul_comm]
 have m:Xu.wrap ((c:Int)*2^(7*j))=((2^(7*j)*c%18446744073709551616:Nat):Int):=by rw[g,wrap_u64];omega
 have k:=(bits_nat .u64 64 (by decide) vO b (2^(7*j)*c%18446744073709551616) (by omega) (by omega)).2;rw[m];refine⟨_,k,?_,?_⟩
 ·exact Nat.or_lt_two_pow (n:=64) (by omega) (by omega)
 ·intro a;have i:2^(7*j)*c<18446744073709551616:=by
   rw[<-Sy];rcases a with a|a
   ·have e:128^j<=128^8:=Xx (by omega) a;have n:(128:Nat)^8=72057594037927936:=by decide
    have:=Nat.mul_le_mul e (show c<=127 by omega);omega
   ·have:=Nat.mul_le_mul l a;omega
  rw[Yw i,Nat.or_comm,<-Nat.two_pow_add_eq_or_of_lt (by rw[<-Sy];exact f) c,Nat.add_comm,Sy]
def B3(r p:Nat)(s:ByteArray)(w:F)(N:s.size<=Vp)(ae:p<=s.size)(h:w.heap[r]? =I (bY s p)):
 bK 86 #[(aP r)] w λe w'=>Kp r w w'/\((∃v:Nat,e= .returned (.int .u64 (v:Int))/\v<18446744073709551616/\ai (bytesOf s) p (aH v)/\w'.heap[r]? =I (bY s (p+(aH v).length)))\/
  (∃q,e= .panicked (ez q)/\∀v,v<18446744073709551616->¬ai (bytesOf s) p (aH v))):=by
 have z:=af h;clear h;go_enter av.func86,Tryz.ntmps86
 go_wp2_with fail
 go_loopw [3,4] (λc sh wr=>∃(a o d:Nat),a<=10/\sh= .int .i64 ((7*a:Nat):Int)/\c= .int .u64 (d:Int)/\(a<=9->d=o)/\Ck (bytesOf s) p a o/\p+a<=s.size/\wr.heap[r]? =I (bY s (p+a))/\Kp r w wr) (λ_ sh _=>71-(V3 sh).toNat)
 case atStart=>exact⟨0,0,0,by omega,rfl,rfl,λ_=>rfl,Ck.zero _ _,by omega,z.o,Kp.refl _ _⟩
 case round=>
  clear z;obtain⟨a,o,d,ad,rfl,rfl,G,E,V,D,C⟩:=hrel;have i:=af E;have g:=af D;have j:=af C;clear E D C;by_cases M:a<=9
  ·obtain rfl:=G M;clear G;by_cases m:p+a<s.size
   ·have n:X (∀w,w.heap[r]? =I (bY s (p+a))->bK 85 #[(aP r)] w λe w'=>e= .returned (.int .u8 (s[p+a].toNat:Int))/\∃c,w'=(w.setCell ⟨r,1,K⟩ (.int .i64 ((p+a+1:Nat):Int))).drewN c):=
     λw Y=>xw r (p+a) s w N m Y
    have J:s[p+a].toNat<256:=s[p+a].toNat_lt;have x:=af (tF s (p+a) m);generalize s[p+a].toNat=b at*;have ab:bits .and .u8 (b:Int) 127=(b:Int)%128:=by rw[RH b J];omega
    obtain⟨l,t,aa,H⟩:=Qh d (b%128) a M i.o.lt (by omega);rw[show((b%128:Nat):Int)=(b:Int)%128 from by omega] at t;have B:=af H;clear H;by_cases T:128<=b
    ·go_wp2_with (go_at_call 85;refine(n.o _ g.o).mono ?_;rintro e w' ⟨rfl,c,rfl⟩)
     refine⟨⟨a+1,d+128^a*(b-128),l,by omega,by go_num,by first|rfl|rw[t],?_,i.o.more (by omega) x.o T J,by omega,mo g.o c,j.o.set _ _ c⟩,by simp[V3];omega⟩;intro Z;rw[B.o (.inl (by omega)),show b%128=b-128 by omega]
    ·have U:(b:Int)%128=(b:Int):=by omega
     rw[U] at t;have L:=λv f=>i.o.fin (v:=v) (by omega) x.o (by omega) f;have y:=af L;clear L;by_cases u:(b≠0\/a=0)/\(b<=1\/a<=8)
     ·have A:X (d+128^a*b<18446744073709551616):=i.o.top (by omega) (by omega);have O:X _:=i.o.PL (c:=b) (by omega) (by omega) u.1;have P:X (l=d+128^a*b):=by rw[show X (l=d+128^a*b)↔l=d+128^a*b from⟨λh=>h.o,λh=>h⟩,B.o (by omega),Yw (by omega)]
      go_wp2_with (go_at_call 85;refine(n.o _ g.o).mono ?_;rintro e w' ⟨rfl,c,rfl⟩)
      all_goals
       go_ret;exact⟨j.o.set _ _ c,.inl ⟨d+128^a*b,by rw[<-P.o];rfl,A.o,(y.o _ A.o).2 ⟨rfl,u.1⟩,by rw[O.o,<-Wc];exact mo g.o c⟩⟩
     ·have k:X (∀v,v<18446744073709551616->¬ai (bytesOf s) p (aH v)):=by
       intro v f W;obtain⟨Q,R⟩:=(y.o v f).1 W;by_cases S:b<=1\/a<=8
       ·exact u ⟨R,S⟩
       ·obtain rfl:a=9:=by omega
        rw[Q] at f;exact Ck.over (B:=bytesOf s) (p:=p) (by omega) f
      go_wp2_with first|(go_at_call 85;refine(n.o _ g.o).mono ?_;rintro e w' ⟨rfl,c,rfl⟩)|(go_at_call 73;refine(bU r (p+a+1) s _ (by exact mo g.o _)).mono ?_;rintro e w' ⟨rfl,rfl⟩)
      all_goals exact⟨rfl,j.o.set _ _ c,.inr ⟨_,rfl,k.o⟩⟩
   ·have k:X (∀v,v<18446744073709551616->¬ai (bytesOf s) p (aH v)):=λv f=>i.o.none (by omega) (by rw[ak];exact m) v f
    go_wp2_with (go_at_call 85;refine(tG r (p+a) s _ N m V g.o).mono ?_;rintro e w' ⟨rfl,c,rfl⟩)
    exact⟨rfl,j.o.drewN c,.inr ⟨_,rfl,k.o⟩⟩
  ·obtain rfl:a=10:=by omega
   have k:X (∀v,v<18446744073709551616->¬ai (bytesOf s) p (aH v)):=λv f=>i.o.UY v f
   go_wp2_with (go_at_call 73;refine(bU r (p+10) s _ g.o).mono ?_;rintro e w' ⟨rfl,rfl⟩)
   exact⟨rfl,j.o,.inr ⟨_,rfl,k.o⟩⟩
def jF(r p:Nat)(s:ByteArray)(w:F)(y:s.size<=Vp)(j:p<=s.size)(h:w.heap[r]? =I (bY s p)):
 bK 70 #[(aP r)] w λe w'=>Kp r w w'/\((∃v:Nat,e= .returned (.int .i64 (v:Int))/\v<2147483648/\ai (bytesOf s) p (aH v)/\p+(aH v).length<=s.size/\w'.heap[r]? =I (bY s (p+(aH v).length)))\/
  (∃q,e= .panicked (ez q)/\∀v,v<2147483648->¬ai (bytesOf s) p (aH v))):=by
 have n:=af h;go_enter av.func70,Tryz.ntmps70
 go_wp2_with fail
 refine(B3 r p s _ y j n.o).mono ?_;rintro e C ⟨i,⟨v,rfl,k,c,t⟩|⟨q,rfl,z⟩⟩
 ·have b:=af i;have g:=af c;have f:=af t;have l:X (p+(aH v).length<=s.size):=by have:=gJ c (by rw[ak];exact j);rwa [ak] at this
  have o:=af k;by_cases x:v<2147483648
  ·have m:=af x;have u:decide ((2147483648:Int)<=(v:Int))=U5:=by rw[decide_eq_false_iff_not];omega
   have B:Wj (v:Int)=(v:Int):=by unfold Wj;omega
   go_wp2;go_ret;exact⟨b.o,.inl ⟨v,by first|rfl|go_num,m.o,g.o,l.o,f.o⟩⟩
  ·have d:X (∀a,a<2147483648->¬ai (bytesOf s) p (aH a)):=by
    intro a A c;have:=ct (by omega) o.o c g.o;omega
   have u:decide ((2147483648:Int)<=(v:Int))=Z:=by rw[decide_eq_true_iff];omega
   go_wp2_with (go_at_call 73;refine(bU r (p+(aH v).length) s _ f.o).mono ?_;rintro e w' ⟨rfl,rfl⟩)
   exact⟨rfl,b.o,.inr ⟨_,rfl,d.o⟩⟩
 ·have b:=af i;have d:X (∀a,a<2147483648->¬ai (bytesOf s) p (aH a)):=λv k=>z v (by omega);go_wp2;exact⟨rfl,b.o,.inr ⟨q,rfl,d.o⟩⟩
structure A8{α:Type}(E:List α->List Nat)(ok:α->Prop)(B:List Nat)(p cn:Nat)(l:List α):Prop where
 le:l.length<=cn
 Sn:∀x∈l,ok x
 st:ai B p (E l)
 JJ:∀L:List α,L.length=cn->(∀x∈L,ok x)->ai B p (E L)->∃m,L=l++m
def zK{α:Type}{E:List α->List Nat}{e:List α->α->List Nat}(b:∀l x,E (l++[x])=E l++e l x)(l m:List α):∃t,E (l++m)=E l++t:=by
 induction m generalizing l with
 |nil=>exact⟨[],by simp⟩
 |cons x a d=>
  obtain⟨t,c⟩:=d (l++[x]);refine⟨e l x++t,?_⟩;rw[show l++x::a=l++[x]++a by simp,c,b,Vu]
def A8.zero{α:Type}{E:List α->List Nat}{ok:α->Prop}{B:List Nat}{p cn:Nat}(b:E []=[]):A8 E ok B p cn []:=
 ⟨VB _,λd c=>by simp at c,by rw[b];exact nl _ _,λa _ _ _=>⟨a,rfl⟩⟩
def A8.next{α:Type}{E:List α->List Nat}{ok:α->Prop}{e:List α->α->List Nat}{B:List Nat}{p cn:Nat}{l:List α}(h:A8 E ok B p cn l)(c:∀l x,E (l++[x])=E l++e l x)(g:l.length<cn)
 (L:List α) (hL:L.length=cn) (d:∀x∈L,ok x) (b:ai B p (E L)):∃x m,L=(l++[x])++m/\ok x/\ai B (p+(E l).length) (e l x):=by
 obtain⟨m,rfl⟩:=h.JJ L hL d b;cases m with
 |nil=>simp at hL;omega
 |cons x a=>
  obtain⟨i,f⟩:=zK c (l++[x]) a;refine⟨x,a,by simp,d x (by simp),?_⟩;rw[show l++x::a=l++[x]++a by simp,f,c,Vu,ap,ap] at b;exact b.2.1
def A8.more{α:Type}{E:List α->List Nat}{ok:α->Prop}{e:List α->α->List Nat}{B:List Nat}{p cn:Nat}{l:List α}(h:A8 E ok B p cn l)(b:∀l x,E (l++[x])=E l++e l x)(i:l.length<cn)
 {x:α} (q:ok x) (k:ai B (p+(E l).length) (e l x)) (o:∀y,ok y->ai B (p+(E l).length) (e l y)->y=x):A8 E ok B p cn (l++[x]):=by
 refine⟨by simp;omega,?_,by rw[b,ap];exact⟨h.st,k⟩,?_⟩
 ·intro y r;rcases VM.1 r with a|a
  ·exact h.Sn y a
  ·simp at a;rw[a];exact q
 ·intro c g j n;obtain⟨y,m,a,d,f⟩:=h.next b i c g j n;rw[o y d f] at a;exact⟨m,a⟩
def A8.fail{α:Type}{E:List α->List Nat}{ok:α->Prop}{e:List α->α->List Nat}{B:List Nat}{p cn:Nat}{l:List α}(h:A8 E ok B p cn l)(c:∀l x,E (l++[x])=E l++e l x)(d:l.length<cn)
 (i:∀y,ok y->¬ai B (p+(E l).length) (e l y)) (L:List α) (hL:L.length=cn) (f:∀x∈L,ok x):¬ai B p (E L):=by
 intro g;obtain⟨y,m,j,a,b⟩:=h.next c d L hL f g;exact i y a b
def A8.done{α:Type}{E:List α->List Nat}{ok:α->Prop}{B:List Nat}{p cn:Nat}{l:List α}(h:A8 E ok B p cn l)(e:¬l.length<cn):
 l.length=cn/\(∀L:List α,L.length=cn->(∀x∈L,ok x)->ai B p (E L)->L=l):=by
 have c:l.length=cn:=by have:=h.le;omega
 refine⟨c,?_⟩;intro L a b d;obtain⟨m,rfl⟩:=h.JJ L a b d;rw[U8] at a;have:m=[]:=Xn.1 (by omega);rw[this];simp
def uz (m:Nat):Int:=if m%2=1 then -((m/2:Nat):Int)-1 else((m/2:Nat):Int)
def T2(m:Nat):zz (uz m)=m:=by
 unfold zz uz
 split<;>split<;>omega
def JK(n:Int):uz (zz n)=n:=by
 unfold zz uz
 split<;>split<;>omega
def OP(m:Nat)(h:m<18446744073709551616): -9223372036854775808<=uz m/\uz m<=9223372036854775807:=by
 unfold uz
 split<;>omega
structure VK(k:Int)(v:aC):Prop where
 there:v.null=U5
 lo: -9223372036854775808<=v.n
 hi:v.n<=9223372036854775807
 s1:k=1->v.s=⟨#[]⟩
 s2:k=2->(v.n=0\/v.n=1)/\v.s=⟨#[]⟩
 s3:k=3->v.n=0/\v.s.size<=32
def kS{s:ByteArray}(h:s.toList=[]):s=⟨#[]⟩:=by
 rw[ByteArray.toList_eq s] at h;apply ByteArray.ext;apply Array.ext';simpa using h
def LS{k:Int}{v:aC}(c:k=1\/k=2\/k=3)(b:v.null=U5)(h:L7 v)(a:gD v k=Z):VK k v:=by
 unfold gD at a;rw[b] at a;refine⟨b,h.lo,h.hi,?_,?_,?_⟩
 ·rintro rfl;simp at a;exact kS a
 ·rintro rfl;simp at a;exact⟨a.1,kS a.2⟩
 ·rintro rfl;simp at a;exact⟨a.1,by omega⟩
def VK.ok{k:Int}{v:aC}(a:k=1\/k=2\/k=3)(h:VK k v):tv v:=by
 refine⟨h.lo,h.hi,?_⟩;rcases a with rfl|rfl|rfl
 ·rw[h.s1 Y];decide
 ·rw[(h.s2 Y).2];decide
 ·exact(h.s3 Y).2
def mA{k:Int}(i:k=1\/k=2\/k=3){B:List Nat}{p:Nat}{x y:aC}(b:VK k x)(c:VK k y)(h1:ai B p (aU k x))(a:ai B p (aU k y)):x=y:=by
 have e:x.n=y.n->x.s=y.s->x=y:=by
  intro f g;have h:=b.there.trans c.there.symm;cases x;cases y;simp at f g h;simp[f,g,h]
 rcases i with rfl|rfl|rfl
 ·have d:∀v,aU 1 v=aH (zz v.n):=λv=>rfl;rw[d] at h1 a;have:=ct (Ca _ b.lo b.hi) (Ca _ c.lo c.hi) h1 a;refine e ?_ (by rw[b.s1 Y,c.s1 Y]);rw[<-JK x.n,this,JK]
 ·have d:∀v,aU 2 v=[byteOf v.n]:=λv=>rfl;rw[d,dA] at h1 a;rw[h1] at a;simp at a;refine e ?_ (by rw[(b.s2 Y).2,(c.s2 Y).2]);rw[kC (b.s2 Y).1,kC (c.s2 Y).1] at a;have:=(b.s2 Y).1;have:=(c.s2 Y).1;omega
 ·have d:∀v,aU 3 v=aH v.s.size++bytesOf v.s:=λv=>rfl;rw[d,ap] at h1 a;have j:=(b.s3 Y).2;have l:=(c.s3 Y).2;have:=ct (by omega) (by omega) h1.1 a.1;rw[this] at h1;refine e (by rw[(b.s3 Y).1,(c.s3 Y).1]) ?_;exact nK (iD h1.2 a.2 (by rw[ak,ak,this]))
def mj(k:Int)(l:List aC)(x:aC):aV k (l++[x])=aV k l++aU k x:=by
 unfold aV;rw[Wi,Wd]
def wR(a n d:Int)(b: -9223372036854775808<=n)(c:n<=9223372036854775807)(h:Wj (n-a)=d):Wj (a+d)=n:=by
 unfold Wj at*;omega
def DF(a d:Int)(b: -9223372036854775808<=d)(c:d<=9223372036854775807):Wj (Wj (a+d)-a)=d:=by
 unfold Wj;omega
def Kh{a:Int}{B:List Nat}{p:Nat}{x y:aC}(b:VK 1 x)(c:VK 1 y)(h1:ai B p (aH (zz (Wj (x.n-a)))))(l:ai B p (aH (zz (Wj (y.n-a))))):x=y:=by
 have g:=iT (x.n-a);have h:=iT (y.n-a);have j:=ct (Ca _ g.1 g.2) (Ca _ h.1 h.2) h1 l;have k:Wj (x.n-a)=Wj (y.n-a):=by rw[<-JK (Wj (x.n-a)),j,JK]
 have d:=wR a x.n _ b.lo b.hi Y;have i:=wR a y.n _ c.lo c.hi Y;rw[k,i] at d;have e:=b.there.trans c.there.symm;have f:=(b.s1 Y).trans (c.s1 Y).symm;cases x;cases y;simp at d e f;simp[d,e,f]
def KA(x:Nat)(a:x<9223372036854775808):bits .xor .i64 (x:Int) 0=(x:Int):=by
 show ZA.wrap (((Yf 64 (x:Int))^^^(Yf 64 0)).toNat:Int)=_;rw[BitVec.ofInt_natCast,show Yf 64 0=0#64 from rfl,BitVec.xor_zero,BitVec.toNat_ofNat,IntKind.wrap_i64];omega
def Kz(x:Nat)(a:x<9223372036854775808):bits .xor .i64 (x:Int) (-1)= -(x:Int)-1:=by
 show ZA.wrap (((Yf 64 (x:Int))^^^(Yf 64 (-1))).toNat:Int)=_;rw[BitVec.ofInt_natCast,show Yf 64 (-1)=BitVec.allOnes 64 from by decide +kernel,BitVec.xor_allOnes,BitVec.toNat_not,BitVec.toNat_ofNat,IntKind.wrap_i64];omega
def Pj(n:Nat)(a:n<18446744073709551616):bits .and .u64 (n:Int) 1=((n%2:Nat):Int):=by
 have:=bits_mask .u64 64 (by decide) vO 1 (by decide) (n:Int) (by omega) (by omega);rw[show(1:Int)=2^1-1 from by decide,this];omega
def OO(n:Nat)(b:n<18446744073709551616):bits .xor .i64 ((n:Int)/2) (-((n:Int)%2))=uz n:=by
 rw[show(n:Int)/2=((n/2:Nat):Int) from by omega];unfold uz;by_cases a:n%2=1
 ·rw[show -((n:Int)%2)= -1 from by omega,Kz _ (by omega),if_pos a]
 ·rw[show -((n:Int)%2)=0 from by omega,KA _ (by omega),if_neg a]
def Dy(n:Nat)(w:F)(a:n<18446744073709551616):bK 113 #[.int .u64 (n:Int)] w λe w'=>e= .returned (.int .i64 (uz n))/\w'=w:=by
 have c:=Pj n a;have d:Wj ((n:Int)/2)=((n/2:Nat):Int):=by unfold Wj;omega
 have b:=af a;go_enter av.func113,Tryz.ntmps113;go_wp2;go_ret;exact⟨by rw[<-OO n b.o];rfl,rfl⟩
def Ie(s:ByteArray)(w:F)(E:s.size<=32):bK 74 #[.string s] w λe w'=>e= .returned (.string s)/\aQ w w':=by
 by_cases j:s.size=0
 ·obtain rfl:s=⟨#[]⟩:=ByteArray.ext (Array.eq_empty_of_size_eq_zero j);go_enter av.func74,Tryz.ntmps74;go_wp2;go_ret;exact⟨rfl,Vi _ _⟩
 ·obtain⟨m,g,x,h,y⟩:=Wo av.tQ;have u:((ax U1).info? 5).map (·.size)=I 1:=by rw[g];simp[h]
  have q:(ax U1).cellsOf 5=1:=by simp[Program.cellsOf,g,h]
  obtain⟨a,d⟩:∃a,a=YH (Xm .u8 0).cells (((s.size:Nat):Int).toNat*m.size):=⟨_,rfl⟩;have A:a.size=s.size:=by rw[d,size_madeCells,h];simp
  have D:∀c:F,(YZ 95 (.int .i64 (s.size:Int)) (.int .i64 (s.size:Int))).run (ax U1) c= .ok (.slice (I ⟨c.heap.size,0,K⟩) s.size s.size) (c.alloc (.cells a 5)):=λc=>by
   have i:=run_make (P:=(ax U1)) c 95 5 m (.int .u8 0) av.underlying95 g x .i64 .i64 (s.size:Int) (s.size:Int) (by omega) (by omega) (by rw[y];omega) (by omega);rw[<-d] at i;simpa using i
  clear d;have r:=Lib.run_copy_row_string (P:=(ax U1)) (w.alloc (.cells a 5)) 95 9 3 5 w.heap.size 0 s.size s.size s a 5 av.underlying95 u (Xf w _) (U7 _) (by omega);obtain⟨b,f⟩:∃b,b=(a.toList.take 0++Lib.byteCells s.data.toList++a.toList.drop (0+s.size)).toArray:=⟨_,rfl⟩;rw[<-f] at r;have k:b.toList=Lib.byteCells s.data.toList:=by
   rw[f,List.toList_toArray,List.take_zero,Yn,List.drop_of_length_le (by rw[WW];omega),WM]
  have B:b.size=s.size:=by rw[<-WW,k,Lib.byteCells_length,<-Y4]
  have l:((w.alloc (.cells a 5)).setRow w.heap.size b).heap[w.heap.size]? =I (.cells b 5 (0,0)):=setRow_heap _ _ a _ 5 (0,0) (Xf w _);have t:s.data.toList≠[]:=λe=>j (by rw[Y4,e];rfl);have n:=Lib.run_unsafeString_row (P:=(ax U1)) ((w.alloc (.cells a 5)).setRow w.heap.size b) 162 3 9 5 av.underlying162 q w.heap.size b.size (by unfold World.shape?;rw[l]) s.data.toList t (by rw[<-Y4];omega) (by rw[<-Y4];omega)
   (λz H v=>Lib.cells_of_row l b.size z _ (by rw[VJ (by rw[WW];exact U7 _),k];simp[Lib.byteCells,v]))
  rw[<-Y4] at n;clear f;go_enter av.func74,Tryz.ntmps74;go_wp2;go_ret;have o:aQ w (w.alloc (.cells a 5)):=(Vi _ w).alloc (U7 _) _;have p:XC w.heap.size (w.alloc (.cells a 5)) ((w.alloc (.cells a 5)).setRow w.heap.size b):=⟨rfl,rfl,rfl,by simp,λG C=>setRow_other _ _ _ _ (by omega)⟩;exact⟨rfl,Lib.below_freeze (o.trans p) (p:=⟨w.heap.size,0,K⟩) (U7 _) _⟩
def uS(s:ByteArray)(w:F)(b:s.size<=32):bK 46 #[.string s] w λe w'=>e= .returned (.string s)/\aQ w w':=by
 go_enter av.func46,Tryz.ntmps46
 go_wp2_with fail
 refine(Ie s _ b).mono ?_;rintro e w' ⟨rfl,a⟩;go_wp2;go_ret;exact⟨rfl,a⟩
def C5(r p:Nat)(s:ByteArray)(w:F)(j:s.size<=Vp)(P:p<=s.size)(h:w.heap[r]? =I (bY s p)):
 bK 114 #[(aP r)] w λe w'=>Kp r w w'/\((∃t:ByteArray,e= .returned (.string t)/\t.size<=32/\ai (bytesOf s) p (aH t.size++bytesOf t)/\w'.heap[r]? =I (bY s (p+(aH t.size++bytesOf t).length)))\/
  (∃q,e= .panicked (ez q)/\∀t:ByteArray,t.size<=32->¬ai (bytesOf s) p (aH t.size++bytesOf t))):=by
 have T:=Va h;have E:=af h;go_enter av.func114,Tryz.ntmps114
 go_wp2_with fail
 refine(jF r p s _ j P E.o).mono ?_;rintro e V ⟨i,⟨a,rfl,N,Q,x,M⟩|⟨q,rfl,O⟩⟩
 ·have c:=af i;have g:=af Q;have f:=af M;have l:=af N;have U:=i.size;by_cases S:32<a
  ·have d:X (∀t:ByteArray,t.size<=32->¬ai (bytesOf s) p (aH t.size++bytesOf t)):=by
    intro t y b;rw[ap] at b;have:=ct (by omega) (by have:=l.o;omega) b.1 g.o;omega
   go_wp2_with (go_at_call 73;refine(bU r _ s _ f.o).mono ?_;rintro e w' ⟨rfl,rfl⟩)
   exact⟨rfl,c.o,.inr ⟨_,rfl,d.o⟩⟩
  ·by_cases v:p+(aH a).length+a<=s.size
   ·have z:(s.extract (p+(aH a).length) (p+(aH a).length+a)).size=a:=by rw[ByteArray.size_extract];omega
    have J:X (bytesOf (s.extract (p+(aH a).length) (p+(aH a).length+a))=((bytesOf s).drop (p+(aH a).length)).take a):=by
     show _=_;rw[dm,show p+(aH a).length+a-(p+(aH a).length)=a by omega]
    have H:X (∀w,w.heap[r]? =I (bY s (p+(aH a).length))->bK 84 #[(aP r),.int .i64 (a:Int)] w λe w'=>e= .returned (.string (s.extract (p+(aH a).length) (p+(aH a).length+a)))/\∃m,w'=(w.setCell ⟨r,1,K⟩ (.int .i64 ((p+(aH a).length+a:Nat):Int))).drewN m):=
     λw k=>FP r _ a s w j v k
    generalize s.extract (p+(aH a).length) (p+(aH a).length+a)=B at*
    go_wp2_with (go_at_call 84;refine(H.o _ f.o).mono ?_;rintro e A ⟨rfl,k⟩;have o:=af k)
    have n:X (A.heap[r]? =I (bY s (p+(aH a).length+a))):=by
     obtain⟨m,rfl⟩:=o.o;exact mo f.o m
    have C:X (Kp r w A):=by
     obtain⟨m,rfl⟩:=o.o;exact c.o.set 1 _ m
    refine(uS B _ (by omega)).mono ?_;rintro e R ⟨rfl,u⟩;have D:=af (C.o.trans (Kp.cr u));have G:X (R.heap[r]? =I (bY s (p+(aH a).length+a))):=by
     show _=_;rw[u.block r (Va n.o)];exact n.o
    go_wp2;go_ret;refine⟨D.o,.inl ⟨B,rfl,by omega,?_,?_⟩⟩
    ·rw[ap,z];refine⟨g.o,?_⟩;rw[J.o];exact List.take_prefix _ _
    ·rw[U8,ak,z,<-Wc];exact G.o
   ·have d:X (∀t:ByteArray,t.size<=32->¬ai (bytesOf s) p (aH t.size++bytesOf t)):=by
     intro t y b;rw[ap] at b;have:=ct (by omega) (by have:=l.o;omega) b.1 g.o;rw[this] at b;have L:=gJ b.2 (by rw[ak];exact x);rw[ak,ak] at L;omega
    go_wp2_with (go_at_call 84;refine(BZ r _ a s _ j (by omega) v x f.o).mono ?_;rintro e w' ⟨rfl,m,rfl⟩)
    exact⟨rfl,c.o.drewN m,.inr ⟨_,rfl,d.o⟩⟩
 ·have d:X (∀t:ByteArray,t.size<=32->¬ai (bytesOf s) p (aH t.size++bytesOf t)):=by
   intro t y b;rw[ap] at b;exact O t.size (by omega) b.1
  have c:=af i;go_wp2;exact⟨rfl,c.o,.inr ⟨q,rfl,d.o⟩⟩
def kB{w:F}{g:Nat}{a b c:U}{t:Vc}(h:w.heap[g]? =I (.cells #[a,b,c] t (0,0))):
 w.cell? ⟨g,0,K⟩=I a/\w.cell? ⟨g,1,K⟩=I b/\w.cell? ⟨g,2,K⟩=I c/\w.frozen? ⟨g,0,K⟩=U5/\w.frozen? ⟨g,1,K⟩=U5/\w.frozen? ⟨g,2,K⟩=U5:=by
 refine⟨?_,?_,?_,?_,?_,?_⟩<;>first|simp[Ve,h]|simp[VW,h]
def uL{d:F}{g:Nat}{a b c:U}(a' b' f:U){t:Vc}(h:d.heap[g]? =I (.cells #[a,b,c] t (0,0)))(r:Nat)(y:r≠g){w:F}(i:Kp r w d)(z:w.heap.size<=g):
 let e:=((d.setCell ⟨g,0,K⟩ a').setCell ⟨g,1,K⟩ b').setCell ⟨g,2,K⟩ f
 cD e g 0 a'/\cD e g 1 b'/\cD e g 2 f/\e.heap[r]? =d.heap[r]? /\Kp r w e:=by
 have q:(d.setCell ⟨g,0,K⟩ a').heap[g]? =I (.cells #[a',b,c] t (0,0)):=by rw[Vl d g 0 _ _ _ h];rfl
 have s:((d.setCell ⟨g,0,K⟩ a').setCell ⟨g,1,K⟩ b').heap[g]? =I (.cells #[a',b',c] t (0,0)):=by rw[Vl _ g 1 _ _ _ q];rfl
 have u:(((d.setCell ⟨g,0,K⟩ a').setCell ⟨g,1,K⟩ b').setCell ⟨g,2,K⟩ f).heap[g]? =I (.cells #[a',b',f] t (0,0)):=by rw[Vl _ g 2 _ _ _ s];rfl
 have l:∀j,j≠g->(((d.setCell ⟨g,0,K⟩ a').setCell ⟨g,1,K⟩ b').setCell ⟨g,2,K⟩ f).heap[j]? =d.heap[j]? :=by
  intro j k;rw[Vj _ _ _ _ (by simpa using k),Vj _ _ _ _ (by simpa using k),Vj _ _ _ _ (by simpa using k)]
 obtain⟨n,o,p,_⟩:=kB u;refine⟨n,o,p,l r y,i.os,i.tape,i.output,?_,?_⟩
 ·simpa using i.size
 ·intro m v x;rw[l m (by omega)];exact XI i m v x
def jY(k:Int)(aa:k=1\/k=2\/k=3)(r p:Nat)(s:ByteArray)(w:F)(K:s.size<=Vp)(G:p<=s.size)(h:w.heap[r]? =I (bY s p)):
 bK 104 #[(aP r),.int .i64 k] w λe w'=>Kp r w w'/\((∃v:aC,e= .returned (.agg #[.bool v.null,.int .i64 v.n,.string v.s])/\VK k v/\ai (bytesOf s) p (aU k v)/\p+(aU k v).length<=s.size/\w'.heap[r]? =I (bY s (p+(aU k v).length)))\/
  (∃q,e= .panicked (ez q)/\∀v:aC,VK k v->¬ai (bytesOf s) p (aU k v))):=by
 have ae:=Va h;have am:=af h;have H:X ((w.alloc (.cells #[.bool U5,.int .i64 0,.string ⟨#[]⟩] 54)).heap[r]? =I (bY s p)):=by
  show _=_;rw[VH _ _ r ae];exact h
 have i:X (Kp r w (w.alloc (.cells #[.bool U5,.int .i64 0,.string ⟨#[]⟩] 54))):=(Kp.refl r w).alloc _;have ad:∀L,ai (bytesOf s) p L->p+L.length<=s.size:=λL B=>by have:=gJ B (by rw[ak];exact G);rwa [ak] at this
 have N:=af ad;rcases aa with rfl|rfl|rfl
 ·go_enter av.func104,Tryz.ntmps104
  go_wp2_with fail
  refine(B3 r p s _ K G H.o).mono ?_;rintro e D ⟨b,⟨n,rfl,U,C,z⟩|⟨q,rfl,A⟩⟩
  ·have a:=af (i.o.trans b);have d:D.heap[w.heap.size]? =I (.cells #[.bool U5,.int .i64 0,.string ⟨#[]⟩] 54 (0,0)):=Kp.block b (Xf w _) (by omega);obtain⟨O,P,Q,R,S,T⟩:=kB d;have j:=af d;have m:=af z;have f:=af C;have W:=af U;have Z:X (∀w,bK 113 #[.int .u64 (n:Int)] w λe w'=>e= .returned (.int .i64 (uz n))/\w'=w):=λw=>Dy n w U
   go_wp2_with (go_at_call 113;refine(Z.o _).mono ?_;rintro e w' ⟨rfl,rfl⟩)
   obtain⟨o,t,u,x,y⟩:=uL (.bool U5) (.int .i64 (uz n)) (.string ⟨#[]⟩) j.o r (by omega) a.o (U7 _);simp[Xw,V0,Tryz.results104,go_sem,o,t,u];have c:aU 1 ⟨U5,uz n,⟨#[]⟩⟩=aH n:=by show aH (zz (uz n))=_;rw[T2]
   have V:=OP n W.o;refine⟨y,⟨U5,uz n,⟨#[]⟩⟩,⟨rfl,rfl,rfl⟩,⟨rfl,V.1,V.2,λ_=>rfl,λh=>by omega,λh=>by omega⟩,?_,?_,?_⟩
   ·rw[c];exact f.o
   ·rw[c];exact N.o _ f.o
   ·rw[c,x];exact m.o
  ·have l:X (∀v:aC,VK 1 v->¬ai (bytesOf s) p (aU 1 v)):=λv g=>A (zz v.n) (Ca _ g.lo g.hi);have a:=af (i.o.trans b);go_wp2;exact⟨rfl,a.o,.inr ⟨q,rfl,l.o⟩⟩
 ·go_enter av.func104,Tryz.ntmps104
  go_wp2_with fail
  refine(Cn r p s _ K G H.o).mono ?_;rintro e D ⟨b,⟨n,rfl,J,C,z,ab⟩|⟨q,rfl,A⟩⟩
  ·have a:=af (i.o.trans b);have d:D.heap[w.heap.size]? =I (.cells #[.bool U5,.int .i64 0,.string ⟨#[]⟩] 54 (0,0)):=Kp.block b (Xf w _) (by omega);obtain⟨O,P,Q,R,S,T⟩:=kB d;have j:=af d;have m:=af z;have f:=af C;have M:=af J;go_wp2;obtain⟨o,t,u,x,y⟩:=uL (.bool U5) (.int .i64 n) (.string ⟨#[]⟩) j.o r (by omega) a.o (U7 _);simp[Xw,V0,Tryz.results104,go_sem,o,t,u];have c:aU 2 ⟨U5,n,⟨#[]⟩⟩=[n.toNat]:=by show[byteOf n]=_;rw[kC M.o]
   have J:=M.o;refine⟨y,⟨U5,n,⟨#[]⟩⟩,⟨rfl,rfl,rfl⟩,⟨rfl,by show _<=n;omega,by show n<=_;omega,λh=>by omega,λ_=>⟨J,rfl⟩,λh=>by omega⟩,?_,?_,?_⟩
   ·rw[c];exact f.o
   ·rw[c];exact ab
   ·rw[c,x];exact m.o
  ·have l:X (∀v:aC,VK 2 v->¬ai (bytesOf s) p (aU 2 v)):=λv g B=>A v.n (g.s2 Y).1 (by rw[<-kC (g.s2 Y).1];exact B);have a:=af (i.o.trans b);go_wp2;exact⟨rfl,a.o,.inr ⟨q,rfl,l.o⟩⟩
 ·go_enter av.func104,Tryz.ntmps104
  go_wp2_with fail
  refine(C5 r p s _ K G H.o).mono ?_;rintro e D ⟨b,⟨E,rfl,al,C,z⟩|⟨q,rfl,A⟩⟩
  ·have a:=af (i.o.trans b);have d:D.heap[w.heap.size]? =I (.cells #[.bool U5,.int .i64 0,.string ⟨#[]⟩] 54 (0,0)):=Kp.block b (Xf w _) (by omega);obtain⟨O,P,Q,R,S,T⟩:=kB d;have j:=af d;have m:=af z;have f:=af C;go_wp2;obtain⟨o,t,u,x,y⟩:=uL (.bool U5) (.int .i64 0) (.string E) j.o r (by omega) a.o (U7 _);simp[Xw,V0,Tryz.results104,go_sem,o,t,u];have c:aU 3 ⟨U5,0,E⟩=aH E.size++bytesOf E:=rfl;refine⟨y,⟨U5,0,E⟩,⟨rfl,rfl,rfl⟩,⟨rfl,by show _<=(0:Int);omega,by show(0:Int)<=_;omega,λh=>by omega,λh=>by omega,λ_=>⟨rfl,al⟩⟩,?_,?_,?_⟩
   ·rw[c];exact f.o
   ·rw[c];exact N.o _ f.o
   ·rw[c,x];exact m.o
  ·have l:X (∀v:aC,VK 3 v->¬ai (bytesOf s) p (aU 3 v)):=λv g B=>A v.s (g.s3 Y).2 B;have a:=af (i.o.trans b);go_wp2;exact⟨rfl,a.o,.inr ⟨q,rfl,l.o⟩⟩
def Jp{w:F}{base g n cap:Nat}{b:List Int}(h:w.ownsRow base 3 1 (.slice (I ⟨g,0,K⟩) n cap) n (bq b))(k:b.length=n)(j:Nat)(i:j<n):cD w g j (.int .i64 (b.getD j 0)):=by
 subst k;obtain⟨l,m,q,o,c,d,p,e⟩:=uv.cS h;simp only[V7] at c;obtain⟨a,_,_⟩:=c;have f:=d (by omega);rw[f] at a;simp only[VY,Xk] at a;have:=e j i;rw[<-a.1,<-a.2.1,VV] at this;exact this
def tN{a:List Int}(h:0<a.length):a.getLast?= I (a.getD (a.length-1) 0):=by
 rw[List.getLast?_eq_getElem?,ZB,Vf (by omega)];rfl
def Fc(a:List Int)(m:Nat)(b:Int):bq (a++VP m b)++[.int .i64 b]=bq (a++VP (m+1) b):=by
 rw[jE,Vu,List.replicate_succ']
def ua(s:ByteArray)(r p cn:Nat)(w:F)(b3:s.size<=Vp)(co:cn<=100)(cB:p<=s.size)(h:w.heap[r]? =I (bY s p)):
 bK 110 #[(aP r),.int .i64 cn] w λe w'=>Kp r w w'/\
  ((∃(a:List Int) (v:U),e= .returned v/\a.length=cn/\od a/\ai (bytesOf s) p (cC a)/\(∀L:List Int,L.length=cn->od L->ai (bytesOf s) p (cC L)->L=a)/\p+(cC a).length<=s.size/\
    w'.heap[r]? =I (bY s (p+(cC a).length))/\w'.ownsRow w.heap.size 3 1 v a.length (bq a))\/
   (∃q,e= .panicked (ez q)/\∀L:List Int,L.length=cn->od L->¬ai (bytesOf s) p (cC L))):=by
 obtain⟨bi,bc,c0,be,c1⟩:=Wo av.EF;have bd:=Va h;have bm:=af h;clear h;go_enter av.func110,Tryz.ntmps110
 go_wp2_with (at_make;refine XD _ Y _ _ 22 Y w.heap.size 3 bi (.int .i64 0) 1 av.underlying22 bc c0 be .i64 .i64 _ cn Y Y Y (by rw[c1];omega) (by unfold Vp;omega) (U7 _) ?_;intro cc b7 bb)
 have bk:X (Kp r w cc):=(Kp.refl r w).grown bb (by simp);have bo:X (cc.heap[r]? =I (bY s p)):=by show _=_;rw[bb.block r bd (by simp)];exact bm.o
 clear bm bb
 go_loopw [5] (λD wr=>∃(a:List Int) (d:List Nat),D= .slice (I ⟨w.heap.size,0,K⟩) a.length cn/\L6 (bytesOf s) p cn a d/\p+d.length<=s.size/\wr.heap[r]? =I (bY s (p+d.length))/\
  wr.ownsRow w.heap.size 3 1 (.slice (I ⟨w.heap.size,0,K⟩) a.length cn) a.length (bq a)/\Kp r w wr) (λD _=>match D with| .slice _ b _=>cn-b|_=>0)
 case atStart=>exact⟨[],[],rfl,L6.zero _ _ _,by simpa using cB,by simpa using bo.o,b7,bk.o⟩
 case round=>
  clear b7 bk bo;obtain⟨a,d,rfl,a9,b8,bz,b6,a8⟩:=hrel;have k:=af a9;have a2:=af bz;have P:=af a8;have al:=af b6;have df:w.heap.size<=wr.heap.size:=a8.size;have cs:=a9.le;clear a9 bz a8 b6;by_cases l:a.length<cn
  ·go_wp2_with fail
   refine(jF r (p+d.length) s _ b3 b8 a2.o).mono ?_;rintro e dk ⟨S,⟨b,rfl,b4,ca,b2,bA⟩|⟨q,rfl,Z⟩⟩
   ·have G:=af (P.o.trans S);have a0:=af (S.own al.o bd);have am:=af ca;have br:=af bA;have ae:=af b4;clear S ca bA b4 al P a2
    go_wp2_with fail
    refine(Cn r (p+d.length+(aH b).length) s _ b3 b2 br.o).mono ?_;rintro e dl ⟨T,⟨c,rfl,f,cb,bB,da⟩|⟨q,rfl,Z⟩⟩
    ·have j:=af (G.o.trans T);have H:=af (T.own a0.o bd);have bs:=af cb;have J:=af bB;have bj:=af f;clear T cb bB G a0 br f;by_cases cl:b=0\/cn-a.length<b
     ·have o:X (∀L:List Int,L.length=cn->od L->¬ai (bytesOf s) p (cC L)):=by
       intro L y f B;obtain⟨ar,Q,m,a3,a4,ao,i,u,N,a5,a6⟩:=k.o.next l L y f B;have:=ct (by omega) (by have:=ae.o;omega) u am.o;omega
      go_wp2_with (go_at_call 73;refine(bU r _ s _ J.o).mono ?_;rintro e w' ⟨rfl,rfl⟩)
      all_goals exact⟨rfl,j.o,.inr ⟨_,rfl,o.o⟩⟩
     ·have cx:b≠0:=by omega
      have b5:b+a.length<=cn:=by omega
      have dd:((b:Int)==0)=U5:=by simp;omega
      clear cl;by_cases g:0<a.length/\a.getD (a.length-1) 0=c
      ·have o:X (∀L:List Int,L.length=cn->od L->¬ai (bytesOf s) p (cC L)):=by
        intro L y f B;obtain⟨ar,Q,m,a3,a4,ao,i,u,N,a5,a6⟩:=k.o.next l L y f B;have M:=ct (by omega) (by have:=ae.o;omega) u am.o;subst M;have bx:Q=c:=by
         have a7:=bs.o;rw[dA] at N a7;rw[N] at a7;simp at a7;have:=bj.o;omega
        rw[tN g.1,g.2,bx] at i;rcases i with i|i
        ·rw[i] at g;simp at g
        ·exact i Y
       obtain⟨O,cp⟩:∃O,a.length=O+1:=⟨a.length-1,by omega⟩;have b1:=Jp H.o Y O (by omega);have W:a.getD O 0=c:=by rw[<-g.2,cp];rfl
       rw[W] at b1;clear g W;have bv:decide ((cn:Int)-(a.length:Int)<(b:Int))=U5:=by simp;omega
       have M:Wj ((cn:Int)-(a.length:Int))=(cn:Int)-(a.length:Int):=by unfold Wj;omega
       have bx:Wj ((a.length:Int)-1)=(O:Int):=by unfold Wj;omega
       have c5:(O:Int)<(a.length:Int):=by omega
       go_wp2_with (go_at_call 73;refine(bU r _ s _ J.o).mono ?_;rintro e w' ⟨rfl,rfl⟩)
       exact⟨rfl,j.o,.inr ⟨_,rfl,o.o⟩⟩
      ·have cd:X (a=[]\/a.getLast? ≠I c):=by
        by_cases R:0<a.length
        ·right
         rw[tN R];intro e;simp only[VY] at e;exact g ⟨R,e⟩
        ·left
         exact Xn.1 (by omega)
       have bl:X (L6 (bytesOf s) p cn (a++VP b c) (d++(aH b++[c.toNat]))):=k.o.more cx (by omega) (by have:=ae.o;omega) bj.o cd.o am.o bs.o co l;have bv:decide ((cn:Int)-(a.length:Int)<(b:Int))=U5:=by simp;omega
       have M:Wj ((cn:Int)-(a.length:Int))=(cn:Int)-(a.length:Int):=by unfold Wj;omega
       have db:b<=100:=by omega
       clear b2;by_cases R:0<a.length
       ·have b1:=Jp H.o Y (a.length-1) (by omega);have W:a.getD (a.length-1) 0≠c:=λe=>g ⟨R,e⟩;generalize a.getD (a.length-1) 0=c4 at*;have c6:(c4==c)=U5:=by simp;exact W
        clear g W
        go_wp2_with fail
        go_loopw [5,46] (λD C E=>∃m:Nat,m<=b/\C= .int .i64 (m:Int)/\D= .slice (I ⟨w.heap.size,0,K⟩) (a.length+m) cn/\E.heap[r]? =I (bY s (p+d.length+(aH b).length+1))/\
         E.ownsRow w.heap.size 3 1 (.slice (I ⟨w.heap.size,0,K⟩) (a.length+m) cn) (a.length+m) (bq (a++VP m c))/\Kp r w E) (λ_ C _=>b-(V3 C).toNat)
        case atStart=>exact⟨0,VB _,rfl,rfl,J.o,by simpa using H.o,j.o⟩
        case round=>
         clear J H j;obtain⟨m,cv,rfl,rfl,V,A,x⟩:=hrel;have t:=af V;have n:=af x;have cR:=x.size;clear V x;by_cases cu:m<b
         ·go_wp2_with (at_builtin;refine WL _ Y _ _ 22 Y w.heap.size 3 bi 1 av.underlying22 bc be w.heap.size (a.length+m) cn _ Y (A.alloc _) ⟨wr.heap.size,0,K⟩ 1 1 [.int .i64 c] Y Y (by exact jS _ _ _) ?c2 (by omega) ?_)
          case c2=>intro c3 ab;simp at ab;subst ab;rfl
          intro ad aa z;have aw:X (Kp r w ad):=(n.o.alloc _).grown z (by intro ck ba;simp at ba;omega);have a1:X (ad.heap[r]? =I (bY s (p+d.length+(aH b).length+1))):=by
           show _=_;rw[z.block r (by simp;omega) (by simp;omega),VH wr _ r (by omega)];exact t.o
          rw[Fc] at aa;clear A z n t;go_wp2
          go_roundw
          case rel=>exact⟨m+1,by omega,by go_num,by first|rfl|(rw[Wc]),a1.o,by rw[<-Wc];exact aa,aw.o⟩
          case measure=>simp[V3];omega
         ·obtain rfl:m=b:=by omega
          go_wp2
          go_roundw
          case rel=>exact⟨a++VP m c,d++(aH m++[c.toNat]),by simp,bl.o,by simp;omega,by rw[show p+(d++(aH m++[c.toNat])).length=p+d.length+(aH m).length+1 by simp;omega];exact t.o,by simpa using A,n.o⟩
          case measure=>simp;omega
       ·obtain rfl:a=[]:=Xn.1 (by omega);have dc:b<=cn:=by simpa using b5
        have c7:decide (cn<b)=U5:=by simp;omega
        have c8:decide ((cn:Int)<(b:Int))=U5:=by simp;omega
        have c9:0<cn:=by simpa using l
        clear g R bv M b5 cs l
        go_wp2_with fail
        go_loopw [5,46] (λD C E=>∃m:Nat,m<=b/\C= .int .i64 (m:Int)/\D= .slice (I ⟨w.heap.size,0,K⟩) m cn/\E.heap[r]? =I (bY s (p+d.length+(aH b).length+1))/\
         E.ownsRow w.heap.size 3 1 (.slice (I ⟨w.heap.size,0,K⟩) m cn) m (bq (VP m c))/\Kp r w E) (λ_ C _=>b-(V3 C).toNat)
        case atStart=>exact⟨0,VB _,rfl,rfl,J.o,H.o,j.o⟩
        case round=>
         clear J H j;obtain⟨m,cv,rfl,rfl,V,A,x⟩:=hrel;have t:=af V;have n:=af x;have cR:=x.size;clear V x;by_cases cu:m<b
         ·go_wp2_with (at_builtin;refine WL _ Y _ _ 22 Y w.heap.size 3 bi 1 av.underlying22 bc be w.heap.size m cn _ Y (A.alloc _) ⟨wr.heap.size,0,K⟩ 1 1 [.int .i64 c] Y Y (by exact jS _ _ _) ?c2 (by omega) ?_)
          case c2=>intro c3 ab;simp at ab;subst ab;rfl
          intro ad aa z;have aw:X (Kp r w ad):=(n.o.alloc _).grown z (by intro ck ba;simp at ba;omega);have a1:X (ad.heap[r]? =I (bY s (p+d.length+(aH b).length+1))):=by
           show _=_;rw[z.block r (by simp;omega) (by simp;omega),VH wr _ r (by omega)];exact t.o
          rw[show bq (VP m c)++[.int .i64 c]=bq (VP (m+1) c) from Fc [] m c] at aa;clear A z n t;go_wp2
          go_roundw
          case rel=>exact⟨m+1,by omega,by go_num,rfl,a1.o,aa,aw.o⟩
          case measure=>simp[V3];omega
         ·obtain rfl:m=b:=by omega
          go_wp2
          go_roundw
          case rel=>exact⟨VP m c,d++(aH m++[c.toNat]),by simp,by simpa using bl.o,by simp;omega,by rw[show p+(d++(aH m++[c.toNat])).length=p+d.length+(aH m).length+1 by simp;omega];exact t.o,by simpa using A,n.o⟩
          case measure=>simp;omega
    ·have o:X (∀L:List Int,L.length=cn->od L->¬ai (bytesOf s) p (cC L)):=by
      intro L y f B;obtain⟨ar,Q,m,a3,a4,ao,i,u,N,a5,a6⟩:=k.o.next l L y f B;have M:=ct (by omega) (by have:=ae.o;omega) u am.o;subst M;exact Z Q ao N
     have j:=af (G.o.trans T);clear Z T G a0;go_wp2;exact⟨rfl,j.o,.inr ⟨q,rfl,o.o⟩⟩
   ·have o:X (∀L:List Int,L.length=cn->od L->¬ai (bytesOf s) p (cC L)):=by
     intro L y f B;obtain⟨ar,Q,m,a3,a4,ao,i,u,N,a5,a6⟩:=k.o.next l L y f B;exact Z ar (by omega) u
    have G:=af (P.o.trans S);clear Z S P al;go_wp2;exact⟨rfl,G.o,.inr ⟨q,rfl,o.o⟩⟩
  ·obtain⟨ci,bt,bu⟩:=k.o.done l;have au:=af bt;have ch:=af bu;have b0:ai (bytesOf s) p d:=k.o.st;have cf:=af b0;clear bt bu b0;go_wp2;go_ret;exact⟨P.o,.inl ⟨a,_,rfl,ci,k.o.bits,by rw[au.o];exact cf.o,ch.o,by rw[au.o];exact b8,by rw[au.o];exact a2.o,al.o⟩⟩
end Ec
namespace Pk
open Go.RowKit Pm
def O3(a:Nat)(h:a<=16):Wj ((2:Int)^a)=pw a:=by
 have c:=Hg a;have d:=NM a h;have b:(2:Int)^a=pw a:=by unfold pw;push_cast;rfl
 rw[b];unfold Wj;omega
end Pk
end Go.Proofs.YtjidbonhhpkljabGreat
namespace Go.Proofs.YtjidbonhhpkljabGreat.Pm
def EK(v a b c:Nat)(h:c<=b):v%2^(a+b)/2^a%2^c=v/2^a%2^c:=by
 rw[Y7,Nat.mod_mul_right_div_self,show b=c+(b-c) by omega,Y7,Nat.mod_mul_right_mod]
def eI (v b a i:Nat):Nat:=v%2^(8*a)/2^(b*i)
def Kv(v b a i q:Nat)(h:8*a=b*i+q):eI v b a i<2^q:=by
 unfold eI;rw[Nat.div_lt_iff_lt_mul (Nat.pow_pos (by omega)),<-Y7,show q+b*i=8*a by omega];exact Nat.mod_lt _ (Nat.pow_pos (by omega))
def EB(v b a i q:Nat)(h:8*a=b*i+q):eI v b (a+1) i=eI v b a i+2^q*(v/256^a%256):=by
 unfold eI;rw[show 8*(a+1)=8*a+8 by omega,Y7,Nat.mod_mul,Hf,show(2:Nat)^8=256 by rfl]
 conv=>lhs;rw[h,Y7,Nat.mul_assoc]
 rw[Nat.add_mul_div_left _ _ (Nat.pow_pos (by omega)),h,Y7]
def GX(v a b i:Nat)(q:Nat)(h:8*b=a*i+q)(c:a<=q):eI v a b i%2^a=v/2^(a*i)%2^a:=by
 unfold eI;rw[h,EK _ _ _ _ c]
def EC(v a b i:Nat):eI v a b i/2^a=eI v a b (i+1):=by
 unfold eI;rw[Nat.div_div_eq_div_mul,<-Y7,Nat.mul_succ]
def ED(v a:Nat):eI v a 0 0=0:=by simp[eI,Nat.mod_one]
end Go.Proofs.YtjidbonhhpkljabGreat.Pm
namespace Go.Proofs.YtjidbonhhpkljabGreat.Pk
open Go.RowKit Go.Proofs.YtjidbonhhpkljabGreat.Pm
def eG (s:ByteArray)(p:Nat):Nat:=V ((bytesOf s).drop p)
def Hv(s:ByteArray)(p a:Nat)(h:p+a<s.size):s[p+a].toNat=eG s p/256^a%256:=by
 unfold eG;have c:∀b∈(bytesOf s).drop p,b<256:=λb d=>jr s b (List.mem_of_mem_drop d);rw[<-Tq _ a c,List.getElem?_drop,Vf (by rw[ak];exact h),Ye,vS s _ h]
def sX (s:ByteArray)(p a cn:Nat):Prop:=p+(cn*a+7)/8<=s.size/\eI (eG s p) a ((cn*a+7)/8) cn=0
def Mq(b a:Nat)(d:a<=16)(g:b<16777216):bits .and .i64 (b:Int) (Wj (pw a-1))=((b%2^a:Nat):Int):=by
 have e:=Hg a;have f:=NM a d;rw[show Wj (pw a-1)=pw a-1 from by unfold Wj;omega];have c:pw a=(2:Int)^a:=by unfold pw;push_cast;rfl
 rw[c,bits_mask .i64 62 (by decide) B7 a (by omega) (b:Int) (by omega) (by omega)]
 push_cast;rfl
def SK(a b:Nat):(a:Int)/2^b=((a/2^b:Nat):Int):=by push_cast;rfl
def zx(s:ByteArray)(r p a cn:Nat)(w:F)(H:s.size<=Vp)(n:a<=16)(bm:cn<=100)(bu:p<=s.size)(h:w.heap[r]? =I (bY s p)):
 bK 125 #[(aP r),.int .i64 a,.int .i64 cn] w λe w'=>Kp r w w'/\
  ((e= .returned (.slice (I ⟨w.heap.size,0,K⟩) cn cn)/\sX s p a cn/\w'.heap[r]? =I (bY s (p+(cn*a+7)/8))/\
    w'.ownsRow w.heap.size 3 1 (.slice (I ⟨w.heap.size,0,K⟩) cn cn) cn (bq (jQ (D a (eG s p) cn))))\/
   (∃q,e= .panicked (ez q)/\¬sX s p a cn)):=by
 obtain⟨O,G,bb,N,bc⟩:=Wo av.EF;have L:r<w.heap.size:=Va h;have bv:=Hg a;have bx:=NM a n;have bz:=O3 a n;have ad:=af h;go_enter av.func125,Tryz.ntmps125
 go_wp2_with (at_make;refine XD _ Y _ _ 22 Y w.heap.size 3 O (.int .i64 0) 1 av.underlying22 G bb N .i64 .i64 _ cn Y Y Y (by rw[bc];omega) (by unfold Vp;omega) (U7 _) ?_;intro P a8 E)
 have au:Kp r w P:=(Kp.refl _ _).grown E (by simp);have ae:X (P.heap[r]? =I (bY s (p+0))):=by show _=_;rw[E.block r L (by simp)];exact ad.o
 go_loopw [7,8,9,13] (λbe h q B wr=>∃(c b d:Nat),c<=cn/\B= .int .i64 c/\be= .slice (I ⟨w.heap.size,0,K⟩) c cn/\q= .int .i64 d/\d<8/\8*b=a*c+d/\p+b<=s.size/\
  h= .int .i64 ((eI (eG s p) a b c:Nat):Int)/\wr.heap[r]? =I (bY s (p+b))/\
  wr.ownsRow w.heap.size 3 1 (.slice (I ⟨w.heap.size,0,K⟩) c cn) c (bq (jQ (D a (eG s p) c)))/\Kp r w wr) (λ_ _ _ B _=>cn-(V3 B).toNat)
 case atStart=>exact⟨0,0,0,VB _,rfl,rfl,rfl,by omega,by simp,by omega,by rw[ED];rfl,ae.o,a8,au⟩
 case round=>
  obtain⟨c,b,d,br,rfl,rfl,rfl,a9,m,t,rfl,y,o,f⟩:=hrel;have k:=af m;have g:=af y;by_cases a6:c<cn
  ·have bs:a*(c+1)<=16*100:=Nat.mul_le_mul n (by omega);have a0:a*(c+1)<=a*cn:=Nat.mul_le_mul_left _ a6
   go_wp2_with fail
   go_loopw [8,9] (λh q wr=>∃(b d:Nat),q= .int .i64 d/\d<a+8/\8*b=a*c+d/\p+b<=s.size/\h= .int .i64 ((eI (eG s p) a b c:Nat):Int)/\wr.heap[r]? =I (bY s (p+b))/\
    wr.ownsRow w.heap.size 3 1 (.slice (I ⟨w.heap.size,0,K⟩) c cn) c (bq (jQ (D a (eG s p) c)))/\Kp r w wr) (λ_ q _=>a+8-(V3 q).toNat)
   case atStart=>exact⟨b,d,rfl,by omega,k.o,t,rfl,g.o,o,f⟩
   case round=>
    obtain⟨b,d,rfl,a9,m,t,rfl,y,o,f⟩:=hrel;have a4:=Kv (eG s p) a b c d m;have ab:=af (EB (eG s p) a b c d m);have aa:=af (GX (eG s p) a b c d m);have V:=af (EC (eG s p) a b c);have k:=af m;have g:=af y;have a3:eI (eG s p) a b c<16777216:=by have i:2^d<=2^24:=Xx (by omega) (by omega);omega
    generalize eI (eG s p) a b c=l at*;by_cases bA:d<a
    ·by_cases A:p+b<s.size
     ·have aw:=af (Hv s p b A);have bB:s[p+b].toNat<256:=s[p+b].toNat_lt;have a7:=Su l s[p+b].toNat d (by omega) (by omega) a4;rw[show l+2^d*s[p+b].toNat=eI (eG s p) a (b+1) c from by rw[ab.o,aw.o]] at a7;have R:X (∀w,w.heap[r]? =I (bY s (p+b))->bK 85 #[(aP r)] w λe w'=>e= .returned (.int .u8 (s[p+b].toNat:Int))/\∃j,w'=(w.setCell ⟨r,1,K⟩ (.int .i64 ((p+b+1:Nat):Int))).drewN j):=
       λw n=>xw r (p+b) s w H A n
      have bk:X (∃i,i=eI (eG s p) a (b+1) c):=⟨_,rfl⟩;generalize a2:eI (eG s p) a (b+1) c=i at*;have T:=af a2;generalize s[p+b].toNat=b0 at*
      go_wp2_with (go_at_call 85;refine(R.o _ g.o).mono ?_;rintro e w' ⟨rfl,j,rfl⟩)
      go_roundw
      case rel=>exact⟨b+1,d+8,by go_num,by omega,by have:=k.o;omega,by omega,by rw[T.o],mo g.o j,sn (ownsRow_setCell_below o (by exact L) _) j,f.set _ _ j⟩
      case measure=>simp[V3];omega
     ·have W:X (¬sX s p a cn):=by
       rintro⟨am,_⟩;have i:=k.o;rw[Nat.mul_succ] at a0;rw[Nat.mul_comm cn a] at am;omega
      go_wp2_with (go_at_call 85;refine(tG r (p+b) s _ H A t g.o).mono ?_;rintro e w' ⟨rfl,j,rfl⟩)
      exact⟨rfl,f.drewN j,.inr ⟨_,rfl,W.o⟩⟩
    ·have ao:=Mq l a n a3;rw[aa.o (by omega)] at ao;have ba:=SK l a;rw[V.o] at ba;have S:X (D a (eG s p) (c+1)=D a (eG s p) c++[eG s p/2^(a*c)%2^a]):=rfl;generalize eG s p/2^(a*c)%2^a=bj at*
     go_wp2_with (at_builtin;refine WL _ Y _ _ 22 Y w.heap.size 3 O 1 av.underlying22 G N w.heap.size c cn _ Y (o.alloc _) ⟨wr.heap.size,0,K⟩ 1 1 [.int .i64 (bj:Int)] Y Y ?c1 ?c2 (by omega) ?_)
     case c1=>
      intro bd bi u
      match bd,u with
      |0,u=>simp at u;subst u;simp[Zl]
     case c2=>intro bi M;simp at M;subst M;rfl
     ·intro Q J C;have ar:Kp r w Q:=(f.alloc _).grown C (by intro bl a1;simp at a1;omega);have al:X (Q.heap[r]? =I (bY s (p+b))):=by
       show _=_;rw[C.block r (by have:=f.size;simp;omega) (by simp;omega),VH wr _ r (by have:=f.size;omega)];exact g.o
      rw[jE] at J;go_wp2
      go_roundw
      case rel=>exact⟨c+1,b,d-a,by omega,by go_num,rfl,by go_num,by omega,by have:=k.o;rw[Nat.mul_succ];omega,t,rfl,al.o,by rw[S.o];simpa [jQ] using J,ar⟩
      case measure=>simp[V3];omega
  ·have a5:c=cn:=by omega
   subst a5;have v:b=(c*a+7)/8:=by have:=k.o;rw[Nat.mul_comm a c] at this;omega
   by_cases z:eI (eG s p) a b c=0
   ·have x:X (sX s p a c):=⟨by rw[<-v];exact t,by rw[<-v];exact z⟩;rw[z];have U:=af v;go_wp2;go_ret;exact⟨f,.inl ⟨rfl,x.o,by rw[<-U.o];exact g.o,o⟩⟩
   ·have x:X (¬sX s p a c):=by rintro⟨_,i⟩;rw[<-v] at i;exact z i
    have bo:0<eI (eG s p) a b c:=by omega
    generalize eI (eG s p) a b c=l at*;have bt:((l:Int) !=0)=Z:=by simp;omega
    go_wp2_with (go_at_call 73;refine(bU r (p+b) s _ g.o).mono ?_;rintro e w' ⟨rfl,rfl⟩)
    exact⟨rfl,f,.inr ⟨_,rfl,x.o⟩⟩
end Go.Proofs.YtjidbonhhpkljabGreat.Pk
namespace Go.Proofs.YtjidbonhhpkljabGreat
namespace Ec
open Go.RowKit Pk Pm
def Tg(w:Nat):∀(a b:List Nat),(∀x∈a,x<2^w)->(∀x∈b,x<2^w)->a.length=b.length->N w a=N w b->a=b:=by
 intro a
 induction a with
 |nil=>intro b _ _ c _;exact(Xn.1 (by simpa using c.symm)).symm
 |cons x p o=>
  intro b g h c f;cases b with
  |nil=>simp at c
  |cons j i=>
   simp only[N] at f;have m:=g x (by simp);have n:=h j (by simp);have k:x=j:=by
    have:=congrArg (· % 2^w) f;simpa [Nat.add_mul_mod_self_left,Yw m,Yw n] using this
   subst k;have l:N w p=N w i:=Nat.eq_of_mul_eq_mul_left (Nat.pow_pos (n:=w) (show 0<2 by omega)) (by omega);rw[o i (λe d=>g e (by simp[d])) (λe d=>h e (by simp[d])) (by simpa using c) l]
def BK(s:ByteArray)(p a:Nat):V (((bytesOf s).drop p).take a)=eG s p%2^(8*a):=by
 rw[RF _ _ (λc b=>jr s c (List.mem_of_mem_drop b)),Hf];rfl
def Bs(v a b cn:Nat):eI v a b cn=0↔v%2^(8*b)<2^(a*cn):=by
 unfold eI;rw[Nat.div_eq_zero_iff];have:=Nat.pow_pos (n:=a*cn) (show 0<2 by omega);omega
def CD(a cn:Nat):a*cn<=8*((cn*a+7)/8):=by rw[Nat.mul_comm a cn];omega
def AT(s:ByteArray)(p a cn:Nat)(g:p<=s.size)(h:sX s p a cn):ai (bytesOf s) p (dX a (D a (eG s p) cn)):=by
 obtain⟨f,b⟩:=h;rw[Bs] at b;have c:(((bytesOf s).drop p).take ((cn*a+7)/8)).length=(cn*a+7)/8:=by
  rw[WB,Yd,ak];omega
 have:=CP a (D a (eG s p) cn) (((bytesOf s).drop p).take ((cn*a+7)/8)) (by rw[c,qf]) (λe d=>jr s e (List.mem_of_mem_drop (XV d))) (by
  rw[BK,T3,<-Nat.mod_mod_of_dvd (eG s p) (Nat.pow_dvd_pow 2 (CD a cn)),Yw b])
 rw[<-this];exact List.take_prefix _ _
def mi(s:ByteArray)(p a:Nat)(ps:List Nat)(i:p<=s.size)(f:∀x∈ps,x<2^a)(h:ai (bytesOf s) p (dX a ps)):sX s p a ps.length/\D a (eG s p) ps.length=ps:=by
 have e:=gJ h (by rw[ak];exact i);rw[fR,ak] at e;have d:((bytesOf s).drop p).take ((ps.length*a+7)/8)=dX a ps:=by
  obtain⟨j,d⟩:=h;rw[<-d,<-fR a ps];simp
 have b:=BK s p ((ps.length*a+7)/8);rw[d] at b;have c:=Uh a ps f;have g:V (dX a ps)=N a ps:=by
  rw[Ml,dX,T3,Yw];exact U9 c (Xx (by omega) (CD a ps.length))
 rw[g] at b;refine⟨⟨e,?_⟩,?_⟩
 ·rw[Bs,<-b];exact c
 ·refine Tg a _ _ (Rw _ _ _) f (qf _ _ _) ?_;rw[T3,<-Nat.mod_mod_of_dvd (eG s p) (Nat.pow_dvd_pow 2 (CD a ps.length)),<-b,Yw c]
def mb:Nat->List Nat->Option Nat
 |s,[]=>I s
 |s,a::b=>if a<s then mb s b else if a=s then mb (s+1) b else K
def o4(s:Nat)(a b:List Nat):mb s (a++b)=(mb s a).bind (λt=>mb t b):=by
 induction a generalizing s with
 |nil=>rfl
 |cons d e c=>
  simp only[XF,mb]
  split
  ·exact c s
  ·split
   ·exact c _
   ·rfl
def yf{s t:Nat}{l:List Nat}(h:mb s l=I t):s<=t:=by
 induction l generalizing s with
 |nil=>simp[mb] at h;omega
 |cons b c a=>
  simp only[mb] at h
  split at h
  ·exact a h
  ·split at h
   ·have:=a h;omega
   ·cases h
def uP{s t:Nat}{l:List Nat}(h:mb s l=I t):∀q∈l,q<t:=by
 induction l generalizing s with
 |nil=>simp
 |cons q e b=>
  intro c a;simp only[mb] at h
  split at h
  ·rename_i d;have:=yf h;rcases WI.1 a with rfl|a
   ·omega
   ·exact b h c a
  ·split at h
   ·have:=yf h;rcases WI.1 a with rfl|a
    ·omega
    ·exact b h c a
   ·cases h
def Ay(l:List Nat)(k:Nat)(a:k<l.length){t:Nat}(h:mb 0 (l.take k)=I t):mb 0 (l.take (k+1))=if l[k]<t then I t else if l[k]=t then I (t+1) else K:=by
 rw[Vh a,o4,h];rfl
def uQ(l:List Nat)(k:Nat):mb 0 l=(mb 0 (l.take k)).bind (λt=>mb t (l.drop k)):=by
 rw[<-o4,X4]
def tP(d:List aC)(v:aC):idx d v<d.length↔v∈d:=by
 constructor
 ·intro b;rw[<-GY d v b];exact Vn b
 ·intro b;obtain⟨a,f,rfl⟩:=WN b;have:=GZ d d[a] a f;have c:Ge d[a] d[a]=Z:=mq.2 Y;by_cases e:a<idx d d[a]
  ·rw[this e] at c;cases c
  ·omega
def u7{d:List aC}(f:d.Nodup){i j:Nat}(b:i<d.length)(c:j<d.length)(h:d[i]=d[j]):i=j:=by
 have e:=List.pairwise_iff_getElem.1 f;rcases Nat.lt_trichotomy i j with a|a|a
 ·exact absurd h (e i j b c a)
 ·exact a
 ·exact absurd h.symm (e j i c b a)
def Kw(d:List aC)(c:d.Nodup)(j:Nat)(e:j<d.length):idx d d[j]=j:=by
 have a:=(tP d _).2 (Vn e);have b:=GY d d[j] a;exact u7 c _ _ b
def GN(l:List aC)(v:aC):dfold (l++[v])=yq (dfold l) v:=by
 unfold dfold;rw[List.foldl_append];rfl
def MV(d:List aC)(n:d.Nodup)(z:aC)(ps:List Nat):∀k t,k<=ps.length->mb 0 (ps.take k)=I t->t<=d.length->dfold ((ps.take k).map (λq=>d.getD q z))=(d.take t,ps.take k):=by
 intro k
 induction k with
 |zero=>intro t _ a _;simp[mb] at a;subst a;simp[dfold]
 |succ k s=>
  intro t x a v;have p:k<ps.length:=by omega
  rw[uQ (ps.take (k+1)) k,List.take_take,Nat.min_eq_left (by omega)] at a;cases e:mb 0 (ps.take k) with
  |none=>rw[e] at a;cases a
  |some b=>
   rw[e] at a;have u:(ps.take (k+1)).drop k=[ps[k]]:=by
    rw[Vh p,List.drop_append_of_le_length (by rw[WB];omega)];simp
   simp only[YT,u,mb] at a;rw[Vh p,V1,Xz,GN];by_cases m:ps[k]<b
   ·rw[if_pos m] at a;cases a;rw[s t (by omega) e v];have g:ps[k]<d.length:=by omega
    have i:d.getD ps[k] z=d[ps[k]]:=by simp[ZB,g]
    have f:idx (d.take t) d[ps[k]]=ps[k]:=by
     have j:ps[k]<(d.take t).length:=by rw[WB];omega
     have:=Kw (d.take t) (n.sublist (List.take_sublist _ _)) ps[k] j;rwa [WE] at this
    unfold yq ins;rw[i,f,if_pos (by rw[WB];omega),f]
   ·rw[if_neg m] at a;by_cases c:ps[k]=b
    ·rw[if_pos c] at a;cases a;rw[s b (by omega) e (by omega)];have g:b<d.length:=by omega
     have i:d.getD ps[k] z=d[b]:=by simp[ZB,c,g]
     have j:(d.take b).length=b:=by rw[WB];omega
     have r:¬idx (d.take b) d[b]<(d.take b).length:=by
      rw[tP];intro f;obtain⟨y,w,l⟩:=WN f;rw[WE] at l;have:=u7 n _ _ l;omega
     have o:ins (d.take b) d[b]=d.take (b+1):=by
      unfold ins;rw[if_neg r,Vh g]
     have h:=CG (d.take b) d[b];unfold yq;simp only;rw[i,o];rw[o] at h;rw[h.1,h.2.2 r,j,c]
    ·rw[if_neg c] at a;cases a
def vT(l:List aC)(z:aC):(dfold l).1.Nodup/\mb 0 (dfold l).2=I (dfold l).1.length/\(dfold l).2.map (λq=>(dfold l).1.getD q z)=l:=by
 have r:∀a,a<=l.length->(dfold (l.take a)).1.Nodup/\mb 0 (dfold (l.take a)).2=I (dfold (l.take a)).1.length/\(dfold (l.take a)).2.map (λq=>(dfold (l.take a)).1.getD q z)=l.take a:=by
  intro a
  induction a with
  |zero=>intro _;simp[dfold,mb]
  |succ a p=>
   intro u;obtain⟨h,d,i⟩:=p (by omega);have g:a<l.length:=by omega
   have n:=uP d;rw[dfold_succ l a g];generalize dfold (l.take a)=b at*;have e:=CG b.1 l[a];unfold yq;by_cases c:idx b.1 l[a]<b.1.length
   ·have f:ins b.1 l[a]=b.1:=by unfold ins;rw[if_pos c]
    rw[f];refine⟨h,?_,?_⟩
    ·rw[o4,d];simp[mb,c]
    ·rw[V1,i,Vh g];congr 1;simp[ZB,c,GY b.1 l[a] c]
   ·have f:ins b.1 l[a]=b.1++[l[a]]:=by unfold ins;rw[if_neg c]
    rw[f] at e ⊢;rw[e.1,e.2.2 c];refine⟨?_,?_,?_⟩
    ·rw[List.nodup_append];refine⟨h,by simp,?_⟩;intro s m t j k;simp at j;subst j;subst k;exact c ((tP _ _).2 m)
    ·rw[o4,d];simp[mb]
    ·rw[V1,Vh g];congr 1
     ·rw[<-i];apply List.map_congr_left;intro q o;have:=n q o;simp[ZB,Wx this]
     ·simp
 have:=r l.length (U7 _);rwa [Wh] at this
def Ki{k:Int}(T:k=1\/k=2\/k=3){s:ByteArray}{p cn n:Nat}{d:List aC}{ps:List Nat}(z:aC)(S:cn<=100)(U:n<=cn)(J:d.length=n)(H:∀x∈d,VK k x)(G:d.Nodup)(u:ps.length=cn)
 (hc:mb 0 ps=I n) (y:ai (bytesOf s) p (aH n)) (O:ai (bytesOf s) (p+(aH n).length) (aV k d)) (A:ai (bytesOf s) (p+(aH n).length+(aV k d).length) (dX (wid n) ps))
 (u2:∀D:List aC,D.length=n->(∀x∈D,VK k x)->ai (bytesOf s) (p+(aH n).length) (aV k D)->D=d) (t:p+(aH n).length+(aV k d).length<=s.size):
 (ps.map λq=>d.getD q z).length=cn/\(∀x∈ps.map λq=>d.getD q z,VK k x)/\eR k (ps.map λq=>d.getD q z)=aH n++(aV k d++dX (wid n) ps)/\ai (bytesOf s) p (eR k (ps.map λq=>d.getD q z))/\
   ∀L:List aC,L.length=cn->(∀x∈L,VK k x)->ai (bytesOf s) p (eR k L)->L=ps.map λq=>d.getD q z:=by
 have K:dfold (ps.map λq=>d.getD q z)=(d,ps):=by
  have:=MV d G z ps ps.length n (U7 _) (by rw[Wh];exact hc) (by omega);rw[Wh,VJ (by omega:d.length<=n)] at this;exact this
 have o:eR k (ps.map λq=>d.getD q z)=aH n++(aV k d++dX (wid n) ps):=by
  unfold eR;rw[K,J]
 refine⟨by simp[u],?_,o,?_,?_⟩
 ·intro x a;obtain⟨q,N,rfl⟩:=Wu.1 a;have V:=uP hc q N;have v:q<d.length:=by omega
  simp only[ZB,v,Vf,Ye];exact H _ (Vn v)
 ·rw[o,ap,ap];exact⟨y,O,A⟩
 ·intro L F M b;obtain⟨Q,R,i⟩:=vT L z;obtain⟨C,j,l,m⟩:=yp L L.length (U7 _);rw[Wh] at C j l m;unfold eR at b;rw[ap,ap] at b;obtain⟨P,B,f⟩:=b;have g:(dfold L).1.length=n:=ct (by omega) (by omega) P y;rw[g] at B f;have h:(dfold L).1=d:=u2 _ g (λx a=>M x (m x a)) B;rw[h] at f;have r:∀(c:List Nat),(∀x∈c,x<n)->∀x∈c,x<2^wid n:=λc E x a=>An n (by omega) x (E x a);have e:=(mi s _ (wid n) (dfold L).2 t (r _ (λx a=>by have:=l x a;omega)) f).2;have w:=(mi s _ (wid n) ps t (r _ (λx a=>uP hc x a)) A).2;rw[j,F] at e;rw[u] at w;rw[w] at e;rw[h,<-e] at i;exact i.symm
def VC (k:Int)(v:aC):Prop:=(v.null=Z/\v.n=0/\v.s=⟨#[]⟩)\/VK k v
def LR{k:Int}{v:aC}(c:k=1\/k=2\/k=3)(h:L7 v)(a:gD v k=Z):VC k v:=by
 cases b:v.null with
 |true=>
  unfold gD at a;rw[b] at a;simp at a;exact .inl ⟨b,a.1,kS a.2⟩
 |false=>exact .inr (LS c b h a)
def FR{k:Int}{l:List aC}(h:∀x∈l,VC k x):∀x∈there l,VK k x:=by
 intro x a;unfold there at a;rw[List.mem_filter] at a;rcases h x a.1 with⟨b,_⟩|h
 ·rw[b] at a;simp at a
 ·exact h
def P9{k:Int}:∀(a b:List aC),(∀x∈a,VC k x)->(∀x∈b,VC k x)->a.map oI=b.map oI->there a=there b->a=b:=by
 intro a
 induction a with
 |nil=>intro b _ _ f _;simp at f;exact f.symm
 |cons x y z=>
  intro b t u g s;cases b with
  |nil=>simp at g
  |cons e j=>
   simp only[Yy,Yl] at g;have w:x.null=e.null:=by
    have:=g.1;unfold oI at this;cases c:x.null<;>cases d:e.null<;>simp[c,d] at this<;>rfl
   have v:=λf=>z j (λl i=>t l (by simp[i])) (λl i=>u l (by simp[i])) g.2 f;cases c:x.null with
   |true=>
    have d:e.null=Z:=by rw[<-w];exact c
    have h:there y=there j:=by simpa [there,c,d] using s
    rw[v h];congr 1;rcases t x (by simp) with⟨m,n,o⟩|a
    ·rcases u e (by simp) with⟨p,q,r⟩|b
     ·cases x;cases e;simp at m n o p q r;simp[m,n,o,p,q,r]
     ·rw[b.there] at d;cases d
    ·rw[a.there] at c;cases c
   |false=>
    have d:e.null=U5:=by rw[<-w];exact c
    have h:x=e/\there y=there j:=by simpa [there,c,d] using s
    rw[h.1,v h.2]
def mY (b:List Int):Nat:=(b.filter λa=>a !=0).length
def z4(l:List aC):(there l).length=mY (l.map oI):=by
 unfold there mY
 induction l with
 |nil=>rfl
 |cons c d b=>
  cases a:c.null with
  |true=>simp[a,oI];simpa [oI] using b
  |false=>simp[a,oI];simpa [oI] using b
def yO(l:List aC):od (l.map oI):=by
 intro c a;obtain⟨b,_,rfl⟩:=Wu.1 a;unfold oI
 split
 ·exact .inl Y
 ·exact .inr Y
def Eh{k e:Int}{s:ByteArray}{p cn:Nat}{l:List aC}(j:l.length=cn)(g:∀x∈l,VC k x)
 (h:ai (bytesOf s) p (cC (l.map oI))) (u1:∀L:List Int,L.length=cn->od L->ai (bytesOf s) p (cC L)->L=l.map oI)
 (i:ai (bytesOf s) (p+(cC (l.map oI)).length) (eg k e (there l))) (u2:∀L:List aC,L.length=mY (l.map oI)->(∀x∈L,VK k x)->ai (bytesOf s) (p+(cC (l.map oI)).length) (eg k e L)->L=there l):
 ai (bytesOf s) p (bD k e l)/\∀L:List aC,L.length=cn->(∀x∈L,VC k x)->ai (bytesOf s) p (bD k e L)->L=l:=by
 refine⟨by unfold bD;rw[ap];exact⟨h,i⟩,?_⟩;intro L f c a;unfold bD at a;rw[ap] at a;have b:=u1 (L.map oI) (by simpa using f) (yO L) a.1;rw[b] at a;have d:=u2 (there L) (by rw[z4,b]) (FR c) a.2;exact P9 L l c g b d
def ew(l:List aC)(x:aC):az l++[.bool x.null,.int .i64 x.n,.string x.s]=az (l++[x]):=by rw[sF,Ae]
def su(k:Int)(z:k=1\/k=2\/k=3)(s:ByteArray)(r p cn:Nat)(w:F)(aw:s.size<=Vp)(bc:cn<=100)(a5:p<=s.size)(h:w.heap[r]? =I (bY s p)):
 bK 121 #[(aP r),.int .i64 k,.int .i64 cn] w λe w'=>Kp r w w'/\
  ((∃(l:List aC) (v:U),e= .returned v/\l.length=cn/\(∀x∈l,VK k x)/\ai (bytesOf s) p (aV k l)/\(∀L:List aC,L.length=cn->(∀x∈L,VK k x)->ai (bytesOf s) p (aV k L)->L=l)/\p+(aV k l).length<=s.size/\
    w'.heap[r]? =I (bY s (p+(aV k l).length))/\w'.ownsRow w.heap.size 54 3 v l.length (az l))\/
   (∃q,e= .panicked (ez q)/\∀L:List aC,L.length=cn->(∀x∈L,VK k x)->¬ai (bytesOf s) p (aV k L))):=by
 obtain⟨H,y,a8,G,a9⟩:=Wo av.mW;have C:=Va h;have T:=af h;go_enter av.func121,Tryz.ntmps121
 go_wp2_with (at_make;refine XD _ Y _ _ 55 Y w.heap.size 54 H _ 3 av.underlying55 y a8 G .i64 .i64 _ cn Y Y Y (by rw[a9];omega) (by unfold Vp;omega) (U7 _) ?_;intro J a3 t)
 have O:X (Kp r w J):=(Kp.refl r w).grown t (by simp);have V:X (J.heap[r]? =I (bY s p)):=by show _=_;rw[t.block r C (by simp)];exact T.o
 go_loopw [7,11] (λba g wr=>∃l:List aC,g= .int .i64 (l.length:Int)/\ba= .slice (I ⟨w.heap.size,0,K⟩) l.length cn/\A8 (aV k) (VK k) (bytesOf s) p cn l/\p+(aV k l).length<=s.size/\wr.heap[r]? =I (bY s (p+(aV k l).length))/\
  wr.ownsRow w.heap.size 54 3 (.slice (I ⟨w.heap.size,0,K⟩) l.length cn) l.length (az l)/\Kp r w wr) (λ_ g _=>cn-(V3 g).toNat)
 case atStart=>exact⟨[],rfl,rfl,A8.zero Y,by simpa [aV] using a5,by simpa [aV] using V.o,a3,O.o⟩
 case round=>
  obtain⟨l,rfl,rfl,o,B,am,a2,n⟩:=hrel;have a:=af o;have m:=af am;have c:=af n;have j:=af a2;have be:w.heap.size<=wr.heap.size:=n.size;have bd:=o.le;by_cases f:l.length<cn
  ·go_wp2_with fail
   refine(jY k z r (p+(aV k l).length) s _ aw B m.o).mono ?_;rintro e i ⟨d,⟨x,rfl,E,D,au,ao⟩|⟨q,rfl,a0⟩⟩
   ·have b:=af (c.o.trans d);have a4:=d.own j.o C;have R:X (A8 (aV k) (VK k) (bytesOf s) p cn (l++[x])):=a.o.more (e:=λ_ v=>aU k v) (mj k) f E D (λbj a7 a6=>mA z a7 E a6 D);have W:X (i.heap[r]? =I (bY s (p+(aV k (l++[x])).length))):=by
     show _=_;rw[mj,U8,<-Wc];exact ao
    have Q:X (p+(aV k (l++[x])).length<=s.size):=by
     show _<=_;rw[mj,U8,<-Wc];exact au
    have bi:=b.o.size
    go_wp2_with (at_builtin;refine WL _ Y _ _ 55 Y w.heap.size 54 H 3 av.underlying55 y G w.heap.size l.length cn _ Y (a4.alloc _) ⟨i.heap.size,0,K⟩ 1 1 [.bool x.null,.int .i64 x.n,.string x.s] Y Y (by exact jj _ _ _ _ _) (fU x) (by omega) ?_;intro M A u)
    have P:X (Kp r w M):=(b.o.alloc _).grown u (by intro bb ar;simp at ar;omega);have Z:X (M.heap[r]? =I (bY s (p+(aV k (l++[x])).length))):=by
     show _=_;rw[u.block r (by simp;omega) (by simp;omega),VH i _ r (by omega)];exact W.o
    rw[ew] at A;go_wp2
    go_roundw
    case rel=>exact⟨l++[x],by rw[U8];rfl,by rw[U8];rfl,R.o,Q.o,Z.o,by rw[U8];exact A,P.o⟩
    case measure=>simp[V3];omega
   ·have S:X (∀L:List aC,L.length=cn->(∀x∈L,VK k x)->¬ai (bytesOf s) p (aV k L)):=λL al a1=>a.o.fail (e:=λ_ v=>aU k v) (mj k) f a0 L al a1;have b:=af (c.o.trans d);go_wp2;exact⟨rfl,b.o,.inr ⟨q,rfl,S.o⟩⟩
  ·obtain⟨ad,ae⟩:=a.o.done f;have ab:=af ae;have aa:=af a.o.st;have N:=af ad;go_wp2;go_ret;exact⟨c.o,.inl ⟨l,_,rfl,N.o,a.o.Sn,aa.o,ab.o,B,m.o,j.o⟩⟩
def sD (a d:Int):aC:=⟨U5,Wj (a+d),⟨#[]⟩⟩
def FN(a d:Int):VK 1 (sD a d):=⟨rfl,(iT _).1,(iT _).2,λ_=>rfl,λb=>by omega,λb=>by omega⟩
def LI(a:Int)(v:aC)(b:VK 1 v):aH (zz (Wj ((sD a v.n).n-a)))=aU 1 v:=by
 show aH (zz (Wj (Wj (a+v.n)-a)))=aH (zz v.n);rw[DF a v.n b.lo b.hi]
def AV(s:ByteArray)(r p cn:Nat)(w:F)(a9:s.size<=Vp)(bs:cn<=100)(bi:p<=s.size)(h:w.heap[r]? =I (bY s p)):
 bK 118 #[(aP r),.int .i64 cn] w λe w'=>Kp r w w'/\
  ((∃(l:List aC) (v:U),e= .returned v/\l.length=cn/\(∀x∈l,VK 1 x)/\ai (bytesOf s) p (cz 0 l)/\(∀L:List aC,L.length=cn->(∀x∈L,VK 1 x)->ai (bytesOf s) p (cz 0 L)->L=l)/\p+(cz 0 l).length<=s.size/\
    w'.heap[r]? =I (bY s (p+(cz 0 l).length))/\w'.ownsRow w.heap.size 54 3 v l.length (az l))\/
   (∃q,e= .panicked (ez q)/\∀L:List aC,L.length=cn->(∀x∈L,VK 1 x)->¬ai (bytesOf s) p (cz 0 L))):=by
 obtain⟨Q,G,bl,P,bm⟩:=Wo av.mW;have M:r<w.heap.size:=Va h;have ae:=af h;have bt:∀(a0 z a1:U) (w:F),(Instr.field 54 (.agg #[a0,z,a1]) 1).run (ax U1) w= .ok z w:=λ_ _ _ _=>by first|rfl|kernel_rfl
 have i:X (∀(l:List aC) (x:aC),cz 0 (l++[x])=cz 0 l++aH (zz (Wj (x.n-gd 0 l)))):=Ep 0;go_enter av.func118,Tryz.ntmps118
 go_wp2_with (at_make;refine XD _ Y _ _ 55 Y w.heap.size 54 Q _ 3 av.underlying55 G bl P .i64 .i64 _ cn Y Y Y (by rw[bm];omega) (by unfold Vp;omega) (U7 _) ?_;intro R bd D)
 have V:X (Kp r w R):=(Kp.refl r w).grown D (by simp);have al:X (R.heap[r]? =I (bY s p)):=by show _=_;rw[D.block r M (by simp)];exact ae.o
 go_loopw [5,6,10] (λbo f o wr=>∃l:List aC,o= .int .i64 (l.length:Int)/\f= .int .i64 (gd 0 l)/\bo= .slice (I ⟨w.heap.size,0,K⟩) l.length cn/\A8 (cz 0) (VK 1) (bytesOf s) p cn l/\p+(cz 0 l).length<=s.size/\wr.heap[r]? =I (bY s (p+(cz 0 l).length))/\
  wr.ownsRow w.heap.size 54 3 (.slice (I ⟨w.heap.size,0,K⟩) l.length cn) l.length (az l)/\Kp r w wr) (λ_ _ o _=>cn-(V3 o).toNat)
 case atStart=>exact⟨[],rfl,rfl,rfl,A8.zero Y,by simpa [cz] using bi,by simpa [cz] using al.o,bd,V.o⟩
 case round=>
  obtain⟨l,rfl,rfl,rfl,C,J,a5,bc,B⟩:=hrel;have b:=af C;have y:=af a5;have g:=af B;have u:=af bc;have bv:w.heap.size<=wr.heap.size:=B.size;have bu:=C.le;by_cases m:l.length<cn
  ·go_wp2_with fail
   refine(jY 1 (.inl Y) r (p+(cz 0 l).length) s _ a9 J y.o).mono ?_;rintro e a ⟨j,⟨x,rfl,bk,N,a8,a6⟩|⟨q,rfl,ba⟩⟩
   ·have d:X (Kp r w a):=g.o.trans j;have be:a.ownsRow w.heap.size 54 3 (.slice (I ⟨w.heap.size,0,K⟩) l.length cn) l.length (az l):=j.own u.o M;have k:=LI (gd 0 l) x bk;have ab:X (A8 (cz 0) (VK 1) (bytesOf s) p cn (l++[sD (gd 0 l) x.n])):=
     b.o.more (e:=λl v=>aH (zz (Wj (v.n-gd 0 l)))) i.o m (FN _ _) (by show ai _ _ (aH (zz (Wj ((sD (gd 0 l) x.n).n-gd 0 l))));rw[k];exact N) (λc O n=>Kh O (FN _ _) n (by rw[k];exact N))
    have t:X ((cz 0 (l++[sD (gd 0 l) x.n])).length=(cz 0 l).length+(aU 1 x).length):=by
     show _=_;rw[i.o,U8,k]
    have am:X (a.heap[r]? =I (bY s (p+(cz 0 (l++[sD (gd 0 l) x.n])).length))):=by
     show _=_;rw[t.o,<-Wc];exact a6
    have Z:X (p+(cz 0 (l++[sD (gd 0 l) x.n])).length<=s.size):=by
     show _<=_;rw[t.o,<-Wc];exact a8
    have aa:X (gd 0 (l++[sD (gd 0 l) x.n])=Wj (gd 0 l+x.n)):=G3 _ _ _;have au:X (∀v,v=[Value.bool U5,.int .i64 (Wj (gd 0 l+x.n)),.string ⟨#[]⟩]->az l++v=az (l++[sD (gd 0 l) x.n])):=by
     intro v bj;rw[bj,<-ew];rfl
    have bx:=d.o.size;generalize sD (gd 0 l) x.n=c at*;generalize gd 0 l=f at*;generalize x.n=A at*
    go_wp2_with (at_builtin;refine WL _ Y _ _ 55 Y w.heap.size 54 Q 3 av.underlying55 G P w.heap.size l.length cn _ Y (be.alloc _) ⟨a.heap.size,0,K⟩ 1 1 [.bool U5,.int .i64 (Wj (f+A)),.string ⟨#[]⟩] Y Y (by exact jj _ _ _ _ _) (fU ⟨U5,Wj (f+A),⟨#[]⟩⟩) (by omega) ?_;intro S H E)
    have W:X (Kp r w S):=(d.o.alloc _).grown E (by intro br a7;simp at a7;omega);have ao:X (S.heap[r]? =I (bY s (p+(cz 0 (l++[c])).length))):=by
     show _=_;rw[E.block r (by simp;omega) (by simp;omega),VH a _ r (by omega)];exact am.o
    rw[au.o _ Y] at H;go_wp2
    go_roundw
    case rel=>exact⟨l++[c],by rw[U8];rfl,by rw[aa.o],by rw[U8];rfl,ab.o,Z.o,ao.o,by rw[U8];exact H,W.o⟩
    case measure=>simp[V3];omega
   ·have ad:X (∀L:List aC,L.length=cn->(∀x∈L,VK 1 x)->¬ai (bytesOf s) p (cz 0 L)):=λL a4 bb=>b.o.fail (e:=λl v=>aH (zz (Wj (v.n-gd 0 l)))) i.o m (λc O n=>ba ⟨U5,Wj (c.n-gd 0 l),⟨#[]⟩⟩ ⟨rfl,(iT _).1,(iT _).2,λ_=>rfl,λh=>by omega,λh=>by omega⟩ n) L a4 bb;have d:X (Kp r w a):=g.o.trans j;go_wp2;exact⟨rfl,d.o,.inr ⟨q,rfl,ad.o⟩⟩
  ·obtain⟨a2,a3⟩:=b.o.done m;have aw:=af a3;have ar:=af b.o.st;have T:=af a2;go_wp2;go_ret;exact⟨g.o,.inl ⟨l,_,rfl,T.o,b.o.Sn,ar.o,aw.o,J,y.o,u.o⟩⟩
def Cm (z:Int):aC:=⟨U5,z,⟨#[]⟩⟩
def DC(c:U)(b:List Int)(w:F)(S:b.length<=100)(G:uv w c b):
 bK 120 #[c] w λe w'=>aQ w w'/\∃v,e= .returned v/\w'.ownsRow w.heap.size 54 3 v b.length (az (b.map Cm)):=by
 obtain⟨n,k,H,m,J⟩:=Wo av.mW;obtain⟨N,i,o,O,rfl,u,x,y⟩:=G;have q:=af y;go_enter av.func120,Tryz.ntmps120
 go_wp2_with (at_make;refine XD _ Y _ _ 55 Y w.heap.size 54 n _ 3 av.underlying55 k H m .i64 .i64 _ b.length Y Y Y (by rw[J];omega) (by unfold Vp;omega) (U7 _) ?_;intro L D B)
 have r:X (aQ w L):=(Vi _ _).grown B (U7 _) (by simp)
 go_loopw [3,11] (λc h wr=>∃a:Nat,a<=b.length/\h= .int .i64 (a:Int)/\c= .slice (I ⟨w.heap.size,0,K⟩) a b.length/\wr.ownsRow w.heap.size 54 3 (.slice (I ⟨w.heap.size,0,K⟩) a b.length) a (az ((b.take a).map Cm))/\aQ w wr) (λ_ h _=>b.length-(V3 h).toNat)
 case atStart=>exact⟨0,VB _,rfl,rfl,by simpa [az] using D,r.o⟩
 case round=>
  obtain⟨a,R,rfl,rfl,g,j⟩:=hrel;have d:=af j;have E:=j.size;by_cases f:a<b.length
  ·obtain rfl:=u (by omega);have z:=x (by omega);have Q:cD wr i (o+a) (.int .i64 (b.getD a 0)):=(d.o.cell (p:=⟨i,o+a,K⟩) z).trans (q.o a f);have t:X (az ((b.take a).map Cm)++[.bool U5,.int .i64 (b.getD a 0),.string ⟨#[]⟩]=az ((b.take (a+1)).map Cm)):=by
    show _=_;rw[Vh f,V1,Xz,<-ew,fp f];rfl
   generalize b.getD a 0=p at*
   go_wp2_with (at_builtin;refine WL _ Y _ _ 55 Y w.heap.size 54 n 3 av.underlying55 k m w.heap.size a b.length _ Y (g.alloc _) ⟨wr.heap.size,0,K⟩ 1 1 [.bool U5,.int .i64 p,.string ⟨#[]⟩] Y Y (by exact jj _ _ _ _ _) (fU ⟨U5,p,⟨#[]⟩⟩) (by omega) ?_;intro M l C)
   have s:X (aQ w M):=(d.o.alloc E _).grown C (by simp;omega) (by intro P A;simp at A;omega);rw[t.o] at l;go_wp2
   go_roundw
   case rel=>exact⟨a+1,by omega,by go_num,rfl,l,s.o⟩
   case measure=>simp[V3];omega
  ·obtain rfl:a=b.length:=by omega
   rw[Wh] at g;go_wp2;go_ret;exact⟨d.o,_,rfl,g⟩
def Jn(a:List Int):mY a<=a.length:=List.length_filter_le _ _
def ry(a:List Int)(d:od a)(k:Nat)(b:k<a.length):((mY (a.take (k+1)):Nat):Int)=(mY (a.take k):Nat)+a.getD k 0:=by
 rw[Vh b,fp b];unfold mY;rw[List.filter_append,U8];rcases d _ (Vn b) with c|c<;>simp[c]
def AD(k:U)(b:List Int)(w:F)(A:b.length<=100)(g:od b)(r:uv w k b):
 bK 112 #[k] w λe w'=>e= .returned (.int .i64 ((mY b:Nat):Int))/\w'=w:=by
 obtain⟨s,t,C,u,rfl,p,v,f⟩:=r;have l:=af f;have m:X (∀a,a<b.length->((mY (b.take (a+1)):Nat):Int)=(mY (b.take a):Nat)+b.getD a 0):=λa h=>ry b g a h;have d:X (∀a,mY (b.take a)<=a):=λa=>by have:=Jn (b.take a);rw[WB] at this;omega
 clear f g;go_enter av.func112,Tryz.ntmps112
 go_wp2_with fail
 go_loopw [3,8] (λo c wr=>∃a:Nat,a<=b.length/\c= .int .i64 (a:Int)/\o= .int .i64 ((mY (b.take a):Nat):Int)/\wr=w) (λ_ c _=>b.length-(V3 c).toNat)
 case atStart=>exact⟨0,VB _,rfl,by simp[mY],rfl⟩
 case round=>
  obtain⟨a,h,rfl,rfl,rfl⟩:=hrel;by_cases i:a<b.length
  ·obtain rfl:=p (by omega);have x:=l.o a i;have q:=m.o a i;have y:=d.o a;have z:=d.o (a+1);generalize b.getD a 0=E at*;generalize mY (b.take a)=B at*;generalize j:mY (b.take (a+1))=D at*;have n:=af j;clear j;go_wp2
   go_roundw
   case rel=>exact⟨a+1,by omega,by go_num,by rw[n.o,q],by trivial⟩
   case measure=>simp[V3];omega
  ·obtain rfl:a=b.length:=by omega
   rw[Wh];go_wp2;go_ret;exact⟨rfl,rfl⟩
def bS (c:List (List aC))(a:Nat):List aC:=c.map λb=>b.getD a ⟨U5,0,⟨#[]⟩⟩
def Cx(a:List (List aC))(c:Nat)(s:U)(w:F)(ad:a.length<=100)(G:∀r∈a,c<r.length/\r.length<=Vp)(H:DL w s a):
 bK 55 #[s,.int .i64 (c:Int)] w λe w'=>aQ w w'/\∃v,e= .returned v/\w'.ownsRow w.heap.size 54 3 v a.length (az (bS a c)):=by
 obtain⟨q,n,M,p,N⟩:=Wo av.mW;obtain⟨R,S,ae,T,rfl,W,f⟩:=H;have y:=af f;have x:=af G;go_enter av.func55,Tryz.ntmps55
 go_wp2_with (at_make;refine XD _ Y _ _ 55 Y w.heap.size 54 q _ 3 av.underlying55 n M p .i64 .i64 _ a.length Y Y Y (by rw[N];omega) (by unfold Vp;omega) (U7 _) ?_;intro P D B)
 have t:X (aQ w P):=(Vi _ _).grown B (U7 _) (by simp)
 go_loopw [5,13] (λO l wr=>∃b:Nat,b<=a.length/\l= .int .i64 (b:Int)/\O= .slice (I ⟨w.heap.size,0,K⟩) b a.length/\wr.ownsRow w.heap.size 54 3 (.slice (I ⟨w.heap.size,0,K⟩) b a.length) b (az (bS (a.take b) c))/\aQ w wr) (λ_ l _=>a.length-(V3 l).toNat)
 case atStart=>exact⟨0,VB _,rfl,rfl,by simpa [az,bS] using D,t.o⟩
 case round=>
  obtain⟨b,aa,rfl,rfl,k,i⟩:=hrel;have m:=af i;have J:=i.size;by_cases j:b<a.length
  ·have f:=y.o.below i;obtain rfl:=f.addr (by omega);obtain⟨v,Z,L⟩:=f.c b j;obtain⟨d,E⟩:=x.o a[b] (Vn j);obtain⟨a0,au,a1,aw,rfl,g⟩:=L;obtain rfl:=g.addr (by omega);have am:=g.c0 c d;have ao:=g.c1 c d;have ar:=g.c2 c d;have z:X (az (bS (a.take b) c)++[.bool a[b][c].null,.int .i64 a[b][c].n,.string a[b][c].s]=az (bS (a.take (b+1)) c)):=by
    show _=_;rw[ew,Vh j];unfold bS;rw[V1,Xz,Vk,Vf d];rfl
   have ab:(c:Int)<(a[b].length:Int):=by omega
   unfold Vp at E;generalize a[b][c]=h at*;generalize a[b].length=al at*
   go_wp2_with (at_builtin;refine WL _ Y _ _ 55 Y w.heap.size 54 q 3 av.underlying55 n p w.heap.size b a.length _ Y (k.alloc _) ⟨wr.heap.size,0,K⟩ 1 1 [.bool h.null,.int .i64 h.n,.string h.s] Y Y (by exact jj _ _ _ _ _) (fU h) (by omega) ?_;intro Q o C)
   have u:X (aQ w Q):=(m.o.alloc J _).grown C (by simp;omega) (by intro V A;simp at A;omega);rw[z.o] at o;go_wp2
   go_roundw
   case rel=>exact⟨b+1,by omega,by go_num,rfl,o,u.o⟩
   case measure=>simp[V3];omega
  ·obtain rfl:b=a.length:=by omega
   rw[Wh] at k;go_wp2;go_ret;exact⟨m.o,_,rfl,k⟩
end Ec
namespace Ec
open Go.RowKit Pk
def nU (l:List bQ)(es:List Int):Prop:=l.length=es.length/\∀a,(b:a<l.length)->bw l[a].kind (es.getD a 0)=Z
def ou(l:List bQ)(es:List Int)(t v:U)(w:F)(aa:l.length<=Vp)(ab:es.length<=Vp)(Q:Cd w t l)(S:uv w v es):
 bK 33 #[v,t] w λe w'=>∃bb,e= .returned (.bool bb)/\(bb=Z↔nU l es)/\aQ w w':=by
 obtain⟨al,am,a4,ao,rfl,a1,f⟩:=Q;obtain⟨au,k,m,ar,rfl,O,W,n⟩:=S;unfold Vp at aa ab;by_cases o:l.length=es.length
 ·have V:((es.length:Int) !=(l.length:Int))=U5:=by simp[o]
  have s:=af o;have G:=af f;have A:=af O;have C:=af W;have B:=af n;go_enter av.func33,Tryz.ntmps33
  go_wp2_with fail
  go_loopw [14] (λb wr=>∃a:Nat,a<=l.length/\b= .int .i64 a/\(∀b,(c:b<l.length)->b<a->bw l[b].kind (es.getD b 0)=Z)/\aQ w wr) (λb _=>l.length-(V3 b).toNat)
  case atStart=>exact⟨0,VB _,rfl,λba _ c=>by omega,Vi _ _⟩
  case round=>
   obtain⟨a,a2,rfl,P,i⟩:=hrel;have p:=af P;have q:=af i;have z:=i.size;by_cases j:a<l.length
   ·have f:=G.o.below i;obtain rfl:=f.addr (by omega);have Y:a<es.length:=by rw[<-s.o];exact j
    obtain rfl:=A.o (by omega);have y:=C.o (by omega);have a5:=f.c0 a j;have a6:=f.c1 a j;have ad:cD wr k (m+a) (.int .i64 (es.getD a 0)):=(i.cell (p:=⟨k,m+a,K⟩) y).trans (B.o a Y);have R:=U9 y z;have H:X (bw l[a].kind (es.getD a 0)=U5->¬nU l es):=λc n=>by
     have:=n.2 a j;rw[c] at this;cases this
    have J:X (bw l[a].kind (es.getD a 0)=Z->∀b,(c:b<l.length)->b<a+1->bw l[b].kind (es.getD b 0)=Z):=λc b T a0=>by
     by_cases N:b=a
     ·subst N;exact c
     ·exact p.o b T (by omega)
    generalize l[a]=d at*;generalize es.getD a 0=u at*
    go_upto_region 6 with fail
    obtain⟨a7,a8⟩:=oU wr (.string d.name) (.int .i64 d.kind) 51;have x:aQ wr (wr.alloc (.cells #[.string d.name,.int .i64 d.kind] 51)):=(Vi _ _).alloc (U7 _) _;have a9:=(x.cell (p:=⟨k,m+a,K⟩) R).trans ad;have r:=af (q.o.trans (x.mono z));generalize wr.alloc (.cells #[.string d.name,.int .i64 d.kind] 51)=ae at*;generalize wr.heap.size=aw at*;have g:=λM=>p7 d.kind u M;have a3:(a:Int)<(es.length:Int):=by omega
    cases h:bw d.kind u
    ·have I:=af (H.o h);rw[h] at g
     go_quiet ((go_at_call 52;exact Calls.quiet_of_same (g _)))
     go_wp2;go_ret;exact .inl ⟨rfl,I.o,below_drewN r.o _⟩
    ·have L:=af (J.o h);rw[h] at g
     go_quiet ((go_at_call 52;exact Calls.quiet_of_same (g _)))
     go_wp2
     go_roundw
     case rel=>exact⟨a+1,by omega,by go_num,L.o,below_drewN r.o _⟩
     case measure=>simp[V3];omega
   ·have E:X (nU l es):=⟨s.o,λb c=>p.o b c (by omega)⟩;go_wp2;go_ret;exact⟨Z,rfl,by simp only[true_iff];exact E.o,q.o⟩
 ·have V:((es.length:Int) !=(l.length:Int))=Z:=by simp;omega
  have D:X (¬nU l es):=λc=>o c.1;go_enter av.func33,Tryz.ntmps33;go_wp2
  all_goals go_ret
  all_goals exact⟨U5,rfl,by simp only[Vv,false_iff];exact D.o,Vi _ _⟩
def mI (a:Int)(es:List Int)(cs:List bQ):Prop:=1<=a/\a<=100/\nU cs es
def FT(w:F)(a b c:U)(t:Vc):(w.alloc (.cells #[a,b,c] t)).cell? ⟨w.heap.size,0,K⟩=I a/\(w.alloc (.cells #[a,b,c] t)).cell? ⟨w.heap.size,1,K⟩=I b/\(w.alloc (.cells #[a,b,c] t)).cell? ⟨w.heap.size,2,K⟩=I c:=by
 refine⟨?_,?_,?_⟩<;>simp
def uv.lower{w w':F}{v:U}{f:List Int}(h:uv w v f)(c:aQ w w'):uv w' v f:=by
 obtain⟨g,a,e,i,rfl,k,b,l⟩:=h;exact⟨g,a,e,i,rfl,k,λj=>U9 (b j) c.size,λd m=>(c.cell (p:=⟨a,e+d,K⟩) (b (by omega))).trans (l d m)⟩
def xX(b:Int)(es:List Int)(y:Bool)(cs:List bQ)(s u:U)(w:F)(v:cs.length<=Vp)(x:es.length<=Vp)(q:Cd w s cs)(r:uv w u es):
 bK 21 #[.agg #[.int .i64 b,u,.bool y],s] w λe w'=>∃bb,e= .returned (.bool bb)/\(bb=Z↔mI b es cs)/\aQ w w':=by
 have B:=r;have A:=q;obtain⟨l,D,I,m,rfl,H,-⟩:=A;obtain⟨o,E,G,n,rfl,-,-,-⟩:=B;have f:X (∀a,aQ w (w.alloc a)):=λa=>(Vi _ _).alloc (U7 _) _;have d:X (∀a,bK 33 #[.slice o es.length n,.slice l cs.length m] (w.alloc a) λe w'=>∃bb,e= .returned (.bool bb)/\(bb=Z↔nU cs es)/\XC (w.alloc a).heap.size (w.alloc a) w'):=λa=>ou cs es _ _ _ v x (q.below (f.o a)) (r.lower (f.o a));clear q r v x;by_cases g:1<=b
 ·by_cases j:b<=100
  ·have t:decide (1<=b)=Z:=by simp;omega
   have z:decide (b<=100)=Z:=by simp;omega
   by_cases h:nU cs es
   ·have c:X (mI b es cs):=⟨g,j,h⟩;have k:X (∀a,bK 33 #[.slice o es.length n,.slice l cs.length m] (w.alloc a) λe w'=>e= .returned (.bool Z)/\XC (w.alloc a).heap.size (w.alloc a) w'):=λa=>qz (d.o a) h;clear d h g j;go_enter av.func21,Tryz.ntmps21
    go_wp2_with (go_at_call 33;refine(k.o _).mono ?_;rintro e C ⟨rfl,p⟩)
    go_ret;exact⟨Z,rfl,by simp only[true_iff];exact c.o,(f.o _).trans (p.mono (by simp))⟩
   ·have c:X (¬mI b es cs):=λi=>h i.2.2;have k:X (∀a,bK 33 #[.slice o es.length n,.slice l cs.length m] (w.alloc a) λe w'=>e= .returned (.bool U5)/\XC (w.alloc a).heap.size (w.alloc a) w'):=λa=>oE (d.o a) h;clear d h g j;go_enter av.func21,Tryz.ntmps21
    go_wp2_with (go_at_call 33;refine(k.o _).mono ?_;rintro e C ⟨rfl,p⟩)
    go_ret;exact⟨U5,rfl,by simp only[Vv,false_iff];exact c.o,(f.o _).trans (p.mono (by simp))⟩
  ·have t:decide (1<=b)=Z:=by simp;omega
   have z:decide (b<=100)=U5:=by simp;omega
   have c:X (¬mI b es cs):=λi=>j i.2.1;clear d g j;go_enter av.func21,Tryz.ntmps21;go_wp2
   all_goals go_ret
   all_goals exact⟨U5,rfl,by simp only[Vv,false_iff];exact c.o,f.o _⟩
 ·have t:decide (1<=b)=U5:=by simp;omega
  have c:X (¬mI b es cs):=λi=>g i.1;clear d g;go_enter av.func21,Tryz.ntmps21;go_wp2
  all_goals go_ret
  all_goals exact⟨U5,rfl,by simp only[Vv,false_iff];exact c.o,f.o _⟩
end Ec
namespace Ec
open Go.RowKit Pk Pm
structure j8 where
 text:ByteArray
 eU:lZ
structure Bd where
 rows:Nat
 chunks:List j8
def mg{α:Type}(f:α->List U)(s:Nat)(b:∀x,(f x).length=s)(l:List α):∀j (h:j<l.length) i u,(f l[j])[i]? =I u->(l.flatMap f)[j*s+i]? =I u:=by
 induction l with
 |nil=>intro j h;simp at h
 |cons x e c=>
  intro j h i u a;rw[Xq];cases j with
  |zero=>
   have d:i<(f x).length:=by
    simp only[List.getElem_cons_zero] at a;exact(Vs.1 a).1
   rw[Wx (by omega)];simpa using a
  |succ j=>
   have:=c j (by simpa using h) i u (by simpa using a);rw[List.getElem?_append_right (by rw[b,Nat.succ_mul];omega),b,show(j+1)*s+i-s=j*s+i by rw[Nat.succ_mul];omega];exact this
structure Pd{α:Type}(w:F)(f:α->List U)(s:Nat)(ao:Option VI)(b off:Nat)(l:List α):Prop where
 addr:0<l.length->ao=I ⟨b,off,K⟩
 lt:0<l.length->b<w.heap.size
 c:∀j (h:j<l.length) i u,(f l[j])[i]? =I u->w.cell? ⟨b,off+j*s+i,K⟩=I u
def Pd.below{α:Type}{w w':F}{f:α->List U}{s:Nat}{a:Option VI}{b off:Nat}{l:List α}(h:Pd w f s a b off l)(c:aQ w w'):Pd w' f s a b off l:=
 ⟨h.addr,λg=>U9 (h.lt g) c.size,λe i d k j=>(c.cell (p:=⟨b,off+e*s+d,K⟩) (h.lt (by omega))).trans (h.c e i d k j)⟩
def Ry {α:Type}(w:F)(f:α->List U)(s:Nat)(v:U)(l:List α):Prop:=∃a b d c,v= .slice a l.length c/\Pd w f s a b d l
def Ry.cS{α:Type}{w:F}{f:α->List U}{s base:Nat}{e:Vc}{v:U}{l:List α}(i:∀x,(f x).length=s)(h:w.ownsRow base e s v l.length (l.flatMap f)):Ry w f s v l:=by
 rcases h.2 with⟨rfl,d⟩|⟨a,c,o,rfl,p,t,u,q,r,y⟩
 ·have:l=[]:=List.eq_nil_of_length_eq_zero d;subst this;exact⟨K,0,0,0,rfl,⟨λh=>by simp at h,λh=>by simp at h,λb h=>by simp at h⟩⟩
 ·have g:=h.cells (g:=a) Y;refine⟨I ⟨a,0,K⟩,a,0,c,rfl,⟨λ_=>rfl,λ_=>(h.lt a Y).2,?_⟩⟩;intro b j m n k;have:=g _ _ (mg f s i l b j m n k);simpa [Addr.add_lit] using this
def dF (c:j8):List U:=[.string c.text,.bool c.eU.there,.bool c.eU.least.null,.int .i64 c.eU.least.n,.string c.eU.least.s,.bool c.eU.most.null,.int .i64 c.eU.most.n,.string c.eU.most.s]
def ei (l:List j8):List U:=l.flatMap dF
def uZ(c:j8):(dF c).length=8:=rfl
def oD (p:Bd×U):List U:=[.int .i64 (p.1.rows:Int),p.2]
def nZ (l:List (Bd×U)):List U:=l.flatMap oD
def rf(p:Bd×U):(oD p).length=2:=rfl
structure iY(w:F)(base:Nat)(v:U)(L:List (Bd×U)):Prop where
 own:w.ownsRow base 98 2 v L.length (nZ L)
 each:∀p∈L,w.ownsRow base 102 8 p.2 p.1.chunks.length (ei p.1.chunks)
def Ee (a:List (List aC))(cs:List bQ)(es:List Int)(b:Bool)(p:Nat):j8:=
 ⟨(jD (bS a p) (cs.getD p ⟨⟨#[]⟩,0⟩).kind (es.getD p 0)).1,if b then cy (bS a p) else cK⟩
def eD (b:List (List aC))(cs:List bQ)(es:List Int)(a:Bool)(n:Nat):List j8:=(VS n).map (Ee b cs es a)
def GB(b:List (List aC))(cs:List bQ)(es:List Int)(a:Bool)(n:Nat):eD b cs es a (n+1)=eD b cs es a n++[Ee b cs es a n]:=by
 unfold eD;rw[Y2,V1,Xz]
def dM(b:List (List aC))(cs:List bQ)(es:List Int)(a:Bool)(n:Nat):(eD b cs es a n).length=n:=by simp[eD]
def nJ (a:List (List aC))(cs:List bQ)(es:List Int)(b:Bool):Bd:=⟨a.length,eD a cs es b cs.length⟩
def ea (b:List (List aC))(a j:Nat):List (List aC):=(b.drop (j*a)).take a
def dH (d:List (List aC))(cs:List bQ)(es:List Int)(b:Bool)(a n:Nat):List Bd:=(VS n).map λc=>nJ (ea d a c) cs es b
def D3(c:List (List aC))(cs:List bQ)(es:List Int)(b:Bool)(a n:Nat):dH c cs es b a (n+1)=dH c cs es b a n++[nJ (ea c a n) cs es b]:=by
 unfold dH;rw[Y2,V1,Xz]
def nX(c:List (List aC))(cs:List bQ)(es:List Int)(b:Bool)(a n:Nat):(dH c cs es b a n).length=n:=by simp[dH]
def fJ (len a:Nat):Nat:=(len+a-1)/a
def qs{len a:Nat}(h:0<a)(k:Nat):k*a<len↔k<fJ len a:=by
 unfold fJ;have:=Nat.le_div_iff_mul_le (x:=k+1) (y:=len+a-1) h;rw[Nat.succ_mul] at this;omega
def cw (k:Int)(b:lZ):List Nat:=if b.there then[1]++(aU k b.least++aU k b.most) else[0]
def Cw (cs:List bQ)(es:List Int)(i:Nat):List Nat:=aH (cs.getD i ⟨⟨#[]⟩,0⟩).name.size++(bytesOf (cs.getD i ⟨⟨#[]⟩,0⟩).name++[byteOf (cs.getD i ⟨⟨#[]⟩,0⟩).kind,byteOf (es.getD i 0)])
def jd (cs:List bQ)(es:List Int)(n:Nat):List Nat:=(VS n).flatMap (Cw cs es)
def yl(cs:List bQ)(es:List Int)(n:Nat):jd cs es (n+1)=jd cs es n++Cw cs es n:=by
 unfold jd;rw[Y2,Wi,Wd]
def sq (cs:List bQ)(l:List j8)(i:Nat):List Nat:=aH (l.getD i ⟨⟨#[]⟩,cK⟩).text.size++cw (cs.getD i ⟨⟨#[]⟩,0⟩).kind (l.getD i ⟨⟨#[]⟩,cK⟩).eU
def eY (cs:List bQ)(l:List j8)(n:Nat):List Nat:=(VS n).flatMap (sq cs l)
def v8(cs:List bQ)(l:List j8)(n:Nat):eY cs l (n+1)=eY cs l n++sq cs l n:=by
 unfold eY;rw[Y2,Wi,Wd]
def eB (cs:List bQ)(b:Bd):List Nat:=aH b.rows++eY cs b.chunks b.chunks.length
def cX (cs:List bQ)(bs:List Bd):List Nat:=bs.flatMap (eB cs)
def DZ(cs:List bQ)(bs:List Bd)(k:Nat)(h:k<bs.length):cX cs (bs.take (k+1))=cX cs (bs.take k)++eB cs bs[k]:=by
 unfold cX;rw[Vh h,Wi,Wd]
def jO (cs:List bQ)(es:List Int)(bs:List Bd):List Nat:=aH cs.length++(jd cs es cs.length++(aH bs.length++cX cs bs))
def iJ (n:Nat):List Nat:=[n%256,n/256%256,n/65536%256,n/16777216%256]
def b9 (l:List j8):List Nat:=l.flatMap λa=>bytesOf a.text
def IC(l:List j8)(k:Nat)(h:k<l.length):b9 (l.take (k+1))=b9 (l.take k)++bytesOf l[k].text:=by
 unfold b9;rw[Vh h,Wi,Wd]
def tf(l:List j8)(c:j8):b9 (l++[c])=b9 l++bytesOf c.text:=by
 unfold b9;rw[Wi,Wd]
def bO (bs:List Bd):List Nat:=bs.flatMap λa=>b9 a.chunks
def yc(bs:List Bd)(k:Nat)(h:k<bs.length):bO (bs.take (k+1))=bO (bs.take k)++b9 bs[k].chunks:=by
 unfold bO;rw[Vh h,Wi,Wd]
def sO(bs:List Bd)(b:Bd):bO (bs++[b])=bO bs++b9 b.chunks:=by
 unfold bO;rw[Wi,Wd]
def dQ:List Nat:=[83,84,82,65]
def yx (cs:List bQ)(es:List Int)(bs:List Bd):List Nat:=dQ++(bO bs++(jO cs es bs++(iJ (jO cs es bs).length++dQ)))
def aY.lU{w c:F}{v:U}{o:Yk}{g n cap:Nat}(e:(w.alloc o).grownBy c v.ownBlock)(d:v.ownBlock=I g\/g=(w.alloc o).heap.size):aY w c v (.slice (I ⟨g,0,K⟩) n cap):=by
 refine((aY.refl w v).alloc o).trans ⟨e,λf b=>?_⟩;simp[Wz] at b;subst b;rcases d with a|a
 ·exact .inl a
 ·exact .inr (by omega)
def cF{w:F}{base:Nat}{e:Vc}{b:Nat}{v:U}{n:Nat}{c:List U}(h:w.ownsRow base e b v n c):∃a cap,v= .slice a n cap:=by
 rcases h.2 with⟨rfl,rfl⟩|⟨f,cap,d,rfl,-⟩
 ·exact⟨K,0,rfl⟩
 ·exact⟨_,cap,rfl⟩
def mZ{w:F}{base:Nat}{e:Vc}{d:Nat}{v:U}{n:Nat}{f:List U}{g:Nat}(h:w.ownsRow base e d v n f)(b:v.ownBlock=I g):∃a,w.heap[g]? =I (.cells a e (0,0)):=by
 rcases h.2 with⟨rfl,-⟩|⟨j,i,a,rfl,-,c,-⟩
 ·simp[Wz] at b
 ·simp[Wz] at b;subst b;exact⟨a,c⟩
def bh{w:F}{base:Nat}{e:Vc}{f:Nat}{v:U}{n:Nat}{i:List U}{g:Nat}{cs:Array U}{t:Vc}(h:w.ownsRow base e f v n i)(b:w.heap[g]? =I (.cells cs t (0,0)))(d:t≠e):I g≠v.ownBlock:=by
 intro c;obtain⟨j,a⟩:=mZ h c.symm;rw[b] at a;simp at a;exact d a.2
def qo{w:F}{base c:Nat}{e b:Vc}{j k:Nat}{v v2:U}{n i:Nat}{l m:List U}(h:w.ownsRow base e j v n l)(d:w.ownsRow c b k v2 i m)(g:e≠b):Apart v v2:=by
 cases a:v.ownBlock with
 |none=>exact .inl a
 |some p=>
  right
  rw[a];obtain⟨o,f⟩:=mZ h a;exact bh d f g
def A9(w:F)(o p q:Yk):(((w.alloc o).alloc p).alloc q).heap[w.heap.size+2]? =I q:=by
 have:=bC ((w.alloc o).alloc p) q;rwa [show((w.alloc o).alloc p).heap.size=w.heap.size+2 by simp] at this
structure oV(w W:F)(bd:Int)(ev:U)(bo:Bool)(n:Nat)(kv:U)(l:List j8):Prop where
 opt:W.heap[w.heap.size]? =I (.cells #[.int .i64 bd,ev,.bool bo] 61 (0,0))
 res:W.heap[w.heap.size+1]? =I (.cells #[.int .i64 0,.slice K 0 0] 98 (0,0))
 box:W.heap[w.heap.size+2]? =I (.cells #[.int .i64 (n:Int),kv] 98 (0,0))
 own:W.ownsRow w.heap.size 102 8 kv l.length (ei l)
 fW:aQ w W
def oV.below{w b c:F}{d:Int}{f:U}{e:Bool}{n:Nat}{g:U}{l:List j8}(h:oV w b d f e n g l)(a:aQ b c):oV w c d f e n g l:=
 ⟨(a.block _ (Va h.opt)).trans h.opt,(a.block _ (Va h.res)).trans h.res,(a.block _ (Va h.box)).trans h.box,aR h.own a,h.fW.trans (a.mono h.fW.size)⟩
def oV.lT{w e c:F}{f:Int}{i:U}{g:Bool}{n:Nat}{o b:U}{l d:List j8}(h:oV w e f i g n o l)(a:aY e c o b)(m:c.ownsRow w.heap.size 102 8 b d.length (ei d)):
 oV w (c.setCell ⟨w.heap.size+2,1,K⟩ b) f i g n b d:=by
 have q:=(a.gZ.block _ (Va h.opt) (bh h.own h.opt (by decide))).trans h.opt;have r:=(a.gZ.block _ (Va h.res) (bh h.own h.res (by decide))).trans h.res;have j:=(a.gZ.block _ (Va h.box) (bh h.own h.box (by decide))).trans h.box;have s:=Vl c (w.heap.size+2) 1 _ _ b j;have k:=h.fW.trans (a.below (λp a=>(h.own.lt p a).1) h.fW.size);refine⟨?_,?_,s,?_,?_⟩
 ·rw[Vj _ _ _ _ (by simp)];exact q
 ·rw[Vj _ _ _ _ (by simp)];exact r
 ·exact m.kept (aL c _ 1 b) (.inr (bh m j (by decide)).symm)
 ·exact eT k k.size (by omega) _ _
def oV.cells{w a:F}{g:Int}{d:U}{c:Bool}{n:Nat}{f:U}{l:List j8}(h:oV w a g d c n f l):
 a.cell? ⟨w.heap.size,1,K⟩=I d/\a.cell? ⟨w.heap.size,2,K⟩=I (.bool c)/\a.cell? ⟨w.heap.size+2,0,K⟩=I (.int .i64 (n:Int))/\a.cell? ⟨w.heap.size+2,1,K⟩=I f/\a.frozen? ⟨w.heap.size+2,1,K⟩=U5:=by
 have e:=h.opt;have b:=h.box;exact⟨by simp[Ve,e],by simp[Ve,e],by simp[Ve,b],by simp[Ve,b],by simp[VW,b]⟩
def kD{w:F}{g:Nat}{c:j8}{t:Vc}(h:w.heap[g]? =I (.cells (dF c).toArray t (0,0))):
 (w.cell? ⟨g,0,K⟩=I (.string c.text)/\w.cell? ⟨g,1,K⟩=I (.bool c.eU.there)/\w.cell? ⟨g,2,K⟩=I (.bool c.eU.least.null)/\w.cell? ⟨g,3,K⟩=I (.int .i64 c.eU.least.n)/\w.cell? ⟨g,4,K⟩=I (.string c.eU.least.s)/\
   w.cell? ⟨g,5,K⟩=I (.bool c.eU.most.null)/\w.cell? ⟨g,6,K⟩=I (.int .i64 c.eU.most.n)/\w.cell? ⟨g,7,K⟩=I (.string c.eU.most.s))/\
 (w.frozen? ⟨g,1,K⟩=U5/\w.frozen? ⟨g,2,K⟩=U5/\w.frozen? ⟨g,3,K⟩=U5/\w.frozen? ⟨g,4,K⟩=U5/\w.frozen? ⟨g,5,K⟩=U5/\w.frozen? ⟨g,6,K⟩=U5/\w.frozen? ⟨g,7,K⟩=U5):=by
 unfold dF at h;refine⟨⟨?_,?_,?_,?_,?_,?_,?_,?_⟩,?_,?_,?_,?_,?_,?_,?_⟩<;>first|simp[Ve,h]|simp[VW,h]
def Pz{w:F}{g:Nat}{s:ByteArray}{a:lZ}(b:lZ){t:Vc}(h:w.heap[g]? =I (.cells (dF ⟨s,a⟩).toArray t (0,0))):
 (((((((w.setCell ⟨g,1,K⟩ (.bool b.there)).setCell ⟨g,2,K⟩ (.bool b.least.null)).setCell ⟨g,3,K⟩ (.int .i64 b.least.n)).setCell ⟨g,4,K⟩ (.string b.least.s)).setCell ⟨g,5,K⟩ (.bool b.most.null)).setCell ⟨g,6,K⟩ (.int .i64 b.most.n)).setCell ⟨g,7,K⟩ (.string b.most.s)).heap[g]? =I (.cells (dF ⟨s,b⟩).toArray t (0,0)):=by
 have c:(w.setCell ⟨g,1,K⟩ (.bool b.there)).heap[g]? =I (.cells #[.string s,.bool b.there,.bool a.least.null,.int .i64 a.least.n,.string a.least.s,.bool a.most.null,.int .i64 a.most.n,.string a.most.s] t (0,0)):=Vl _ g 1 _ _ (.bool b.there) h;have d:((w.setCell ⟨g,1,K⟩ (.bool b.there)).setCell ⟨g,2,K⟩ (.bool b.least.null)).heap[g]? =I (.cells #[.string s,.bool b.there,.bool b.least.null,.int .i64 a.least.n,.string a.least.s,.bool a.most.null,.int .i64 a.most.n,.string a.most.s] t (0,0)):=Vl _ g 2 _ _ (.bool b.least.null) c;have e:(((w.setCell ⟨g,1,K⟩ (.bool b.there)).setCell ⟨g,2,K⟩ (.bool b.least.null)).setCell ⟨g,3,K⟩ (.int .i64 b.least.n)).heap[g]? =I (.cells #[.string s,.bool b.there,.bool b.least.null,.int .i64 b.least.n,.string a.least.s,.bool a.most.null,.int .i64 a.most.n,.string a.most.s] t (0,0)):=Vl _ g 3 _ _ (.int .i64 b.least.n) d;have f:((((w.setCell ⟨g,1,K⟩ (.bool b.there)).setCell ⟨g,2,K⟩ (.bool b.least.null)).setCell ⟨g,3,K⟩ (.int .i64 b.least.n)).setCell ⟨g,4,K⟩ (.string b.least.s)).heap[g]? =I (.cells #[.string s,.bool b.there,.bool b.least.null,.int .i64 b.least.n,.string b.least.s,.bool a.most.null,.int .i64 a.most.n,.string a.most.s] t (0,0)):=Vl _ g 4 _ _ (.string b.least.s) e;have i:(((((w.setCell ⟨g,1,K⟩ (.bool b.there)).setCell ⟨g,2,K⟩ (.bool b.least.null)).setCell ⟨g,3,K⟩ (.int .i64 b.least.n)).setCell ⟨g,4,K⟩ (.string b.least.s)).setCell ⟨g,5,K⟩ (.bool b.most.null)).heap[g]? =I (.cells #[.string s,.bool b.there,.bool b.least.null,.int .i64 b.least.n,.string b.least.s,.bool b.most.null,.int .i64 a.most.n,.string a.most.s] t (0,0)):=Vl _ g 5 _ _ (.bool b.most.null) f;have j:((((((w.setCell ⟨g,1,K⟩ (.bool b.there)).setCell ⟨g,2,K⟩ (.bool b.least.null)).setCell ⟨g,3,K⟩ (.int .i64 b.least.n)).setCell ⟨g,4,K⟩ (.string b.least.s)).setCell ⟨g,5,K⟩ (.bool b.most.null)).setCell ⟨g,6,K⟩ (.int .i64 b.most.n)).heap[g]? =I (.cells #[.string s,.bool b.there,.bool b.least.null,.int .i64 b.least.n,.string b.least.s,.bool b.most.null,.int .i64 b.most.n,.string a.most.s] t (0,0)):=Vl _ g 6 _ _ (.int .i64 b.most.n) i;have k:(((((((w.setCell ⟨g,1,K⟩ (.bool b.there)).setCell ⟨g,2,K⟩ (.bool b.least.null)).setCell ⟨g,3,K⟩ (.int .i64 b.least.n)).setCell ⟨g,4,K⟩ (.string b.least.s)).setCell ⟨g,5,K⟩ (.bool b.most.null)).setCell ⟨g,6,K⟩ (.int .i64 b.most.n)).setCell ⟨g,7,K⟩ (.string b.most.s)).heap[g]? =I (.cells #[.string s,.bool b.there,.bool b.least.null,.int .i64 b.least.n,.string b.least.s,.bool b.most.null,.int .i64 b.most.n,.string b.most.s] t (0,0)):=Vl _ g 7 _ _ (.string b.most.s) j;exact k
def yt(w:F)(c:j8)(t:Vc):∀(j:Nat) (u:U),(dF c)[j]? =I u->(w.alloc (.cells (dF c).toArray t)).cell? ((⟨w.heap.size,0,K⟩:VI).add j)=I u:=by
 intro j u a;have b:j<8:=by
  have:=(Vs.1 a).1;simpa [dF] using this
 have:j=0\/j=1\/j=2\/j=3\/j=4\/j=5\/j=6\/j=7:=by omega
 rcases this with rfl|rfl|rfl|rfl|rfl|rfl|rfl|rfl<;>(simp[dF] at a;subst a;simp[Zl,dF])
def uV(c:j8):∀u∈dF c,u.oneCell'=Z:=by
 intro u a;simp[dF] at a;rcases a with rfl|rfl|rfl|rfl|rfl|rfl|rfl|rfl<;>rfl
def GD{a:List (List aC)}{e:Nat}(h:∀r∈a,∀x∈r,L7 x)(f:∀r∈a,e<r.length):∀x∈bS a e,L7 x:=by
 intro x d;unfold bS at d;obtain⟨r,c,rfl⟩:=Wu.1 d;have b:=f r c;rw[Vk,Vf b];exact h r c _ (Vn b)
def jN(a:List (List aC))(b:Nat):(bS a b).length=a.length:=by simp[bS]
def av.Jg:((ax U1).info? 102).map (λi=>(i.zero,i.size,i.bytes))=I (I (.agg #[.string ⟨#[]⟩,.bool U5,.bool U5,.int .i64 0,.string ⟨#[]⟩,.bool U5,.int .i64 0,.string ⟨#[]⟩]),8,88):=by kernel_rfl
def oV.put{w a:F}{c:Int}{e:U}{d:Bool}{n:Nat}{b:U}{l:List j8}(h:oV w a c e d n b l){g:Nat}(i:w.heap.size+2<g)(f:b.ownBlock≠I g)(o:Nat)(v:U):
 oV w (a.setCell ⟨g,o,K⟩ v) c e d n b l:=by
 refine⟨?_,?_,?_,h.own.kept (aL a g o v) (.inr f),eT h.fW h.fW.size (by omega) _ _⟩
 ·rw[Vj _ _ _ _ (by simp;omega)];exact h.opt
 ·rw[Vj _ _ _ _ (by simp;omega)];exact h.res
 ·rw[Vj _ _ _ _ (by simp;omega)];exact h.box
def oV.uy{w e:F}{f:Int}{j:U}{i:Bool}{n:Nat}{d:U}{l:List j8}(h:oV w e f j i n d l){g:Nat}(a:w.heap.size+2<g)(c:d.ownBlock≠I g)(b:lZ):
 oV w (((((((e.setCell ⟨g,1,K⟩ (.bool b.there)).setCell ⟨g,2,K⟩ (.bool b.least.null)).setCell ⟨g,3,K⟩ (.int .i64 b.least.n)).setCell ⟨g,4,K⟩ (.string b.least.s)).setCell ⟨g,5,K⟩ (.bool b.most.null)).setCell ⟨g,6,K⟩ (.int .i64 b.most.n)).setCell ⟨g,7,K⟩ (.string b.most.s)) f j i n d l:=
 ((((((h.put a c _ _).put a c _ _).put a c _ _).put a c _ _).put a c _ _).put a c _ _).put a c _ _
def oV.kept{w c a:F}{e:Int}{g:U}{f:Bool}{n:Nat}{b j:U}{l:List j8}(h:oV w c e g f n b l)(i:aY c a b j):
 a.cell? ⟨w.heap.size+2,1,K⟩=I b/\a.frozen? ⟨w.heap.size+2,1,K⟩=U5:=by
 have d:=(i.gZ.block _ (Va h.box) (bh h.own h.box (by decide))).trans h.box;exact⟨by simp[Ve,d],by simp[VW,d]⟩
def I5{a:List (List aC)}{cs:List bQ}{es:List Int}{b:Bool}{k:Nat}(h1:k<cs.length)(c:k<es.length):
 Ee a cs es b k=⟨(jD (bS a k) cs[k].kind (es.getD k 0)).1,if b then cy (bS a k) else cK⟩:=by
 unfold Ee;rw[Vk (l:=cs),Vf h1];rfl
def Gn{es:List Int}(ck:(∀e∈es,e=0)\/A5/\uA)(b:List (List aC))(cs:List bQ)(C:Int)(h:Bool)(c4 b2 b5:U)(w:F)(c1:b.length<=100)(cp:∀r∈b,r.length=cs.length)(cn:∀r∈b,∀x∈r,L7 x)(er:cs.length<=8)(cl:es.length=cs.length)
 (cv:DL w c4 b) (dO:Cd w b2 cs) (d0:uv w b5 es):
 bK 36 #[c4,b2,.agg #[.int .i64 C,b5,.bool h]] w λe w'=>∃g,e= .returned (.agg #[.int .i64 (b.length:Int),g])/\w'.ownsRow w.heap.size 102 8 g cs.length (ei (eD b cs es h cs.length))/\aQ w w':=by
 have da:=af ck;clear ck;obtain⟨c2,co,cB,cR,c0⟩:=Wo av.Jg;have dl:=af cv;have a3:=af cp;have dd:=af cn;obtain⟨ec,e3,bF,aK,rfl,eQ,-⟩:=cv;obtain⟨en,em,bH,aG,rfl,eq,y⟩:=dO;obtain⟨ae,p,t,D,rfl,cf,ch,ci⟩:=d0;have c7:=af y;have c8:=af cf;have V:=af ch;have c9:=af ci;have dc:=af cl;clear cp cn y cf ch ci cl;go_enter av.func36,Tryz.ntmps36
 go_upto_region 2 with fail
 have cb:oV w (((w.alloc (.cells #[.int .i64 C,.slice ae es.length D,.bool h] 61)).alloc (.cells #[.int .i64 0,.slice K 0 0] 98)).alloc (.cells #[.int .i64 (b.length:Int),.slice K 0 0] 98)) C (.slice ae es.length D) h b.length (.slice K 0 0) (eD b cs es h 0):=by
  refine⟨alloc_old _ (by simp;omega) (alloc_old _ (by simp) (bC w _)),alloc_old _ (by simp) (kw w _ _),A9 w _ _ _,?_,?_⟩
  ·exact⟨by simp[eD,ei],.inl ⟨rfl,by simp[eD]⟩⟩
  ·exact(kA _ _).alloc (by simp;omega) _
 generalize ((w.alloc (.cells #[.int .i64 C,.slice ae es.length D,.bool h] 61)).alloc (.cells #[.int .i64 0,.slice K 0 0] 98)).alloc (.cells #[.int .i64 (b.length:Int),.slice K 0 0] 98)=el at*
 go_wp2_with fail
 go_loopw [19] (λbu wr=>∃(a:Nat) (g:U),a<=cs.length/\bu= .int .i64 (a:Int)/\oV w wr C (.slice ae es.length D) h b.length g (eD b cs es h a)) (λbu _=>cs.length-(V3 bu).toNat)
 case atStart=>exact⟨0,_,VB _,rfl,cb⟩
 case round=>
  clear cb;obtain⟨a,g,et,rfl,d⟩:=hrel;have aa:=af d;by_cases H:a<cs.length
  ·have am:a<es.length:=by rw[dc.o];exact H
   have cx:w.heap.size<=wr.heap.size:=d.fW.size;have y:=c7.o.below d.fW;obtain rfl:=y.addr (by omega);obtain rfl:=c8.o (by omega);have d9:=y.c0 a H;have eb:=y.c1 a H;have a2:X (p<wr.heap.size):=U9 (V.o (by omega)) cx;have b3:wr.cell? ⟨p,t+a,K⟩=I (.int .i64 (es.getD a 0)):=(d.fW.cell (p:=⟨p,t+a,K⟩) (V.o (by omega))).trans (c9.o a am);have W:X (eD b cs es h (a+1)=eD b cs es h a++[⟨(jD (bS b a) cs[a].kind (es.getD a 0)).1,if h then cy (bS b a) else cK⟩]):=by
    show _=_;rw[GB,I5 H am]
   have dn:X (∀x∈bS b a,L7 x):=GD dd.o (λr ao=>by rw[a3.o r ao];exact H);have a0:=af (jN b a);have bz:X (∀c,aQ w c->bK 55 #[.slice ec b.length aK,.int .i64 (a:Int)] c λe w'=>aQ c w'/\∃v,e= .returned v/\w'.ownsRow c.heap.size 54 3 v b.length (az (bS b a))):=λc dC=>
    Cx b a _ c c1 (λr ao=>⟨by rw[a3.o r ao];exact H,by rw[a3.o r ao];unfold Vp;omega⟩) (dl.o.below dC)
   have eA:(a:Int)<(es.length:Int):=by omega
   have db:X (es.getD a 0=0\/A5/\uA):=da.o.imp (λu=>u _ (by rw[Vk,Vf am];exact Vn am)) id;generalize dv:bS b a=f at*;generalize dD:cs[a]=m at*;generalize dT:es.getD a 0=q at*;clear y dv dD dT d;have bA:X (∀c i,tE c i f->bK 56 #[i,.int .i64 m.kind,.int .i64 q] c λr w'=>r= .returned (.tuple #[.string (jD f m.kind q).1,.int .i64 (jD f m.kind q).2])/\aQ c w'):=λc i u=>
    D5 db.o i f m.kind c (by rw[a0.o];unfold Vp;omega) dn.o u
   have aw:X (∀c i,tE c i f->bK 57 #[i] c λe w'=>e= .returned (Gy (cy f))/\aQ c w'):=λc i u=>
    Co i f c (by rw[a0.o];exact c1) u
   go_upto_region 6 with(go_at_call 55;refine(bz.o _ (aa.o.fW.alloc cx _)).mono ?_;rintro e j ⟨al,i,rfl,cu⟩)
   have bl:aQ wr j:=uK al;have c3:j.cell? ⟨wr.heap.size,1,K⟩=I (.int .i64 m.kind):=(al.cell (p:=⟨wr.heap.size,1,K⟩) (by simp)).trans (oU wr _ _ _).2;have o:=af (aa.o.below bl);obtain⟨Q,ar,R,S,au⟩:=o.o.cells;have b4:j.cell? ⟨p,t+a,K⟩=I (.int .i64 q):=(bl.cell (p:=⟨p,t+a,K⟩) a2.o).trans b3;have a5:X (tE j i f):=tE.cS (by rw[a0.o];exact cu);have b7:wr.heap.size<j.heap.size:=by have:=al.size;simp at this;omega
   have E:w.heap.size<j.heap.size:=by omega
   have b8:p<j.heap.size:=by have:=a2.o;omega
   clear d9 eb b3 al bl bz cu R S au a2;generalize wr.heap.size=ca at*
   go_cut [11,12] from 27 to 38 (λeh e4 n=>eh= .string (jD f m.kind q).1/\aQ j n)
   case first=>
    have V:X (bK 56 #[i,.int .i64 m.kind,.int .i64 q] j.drew λr w'=>r= .returned (.tuple #[.string (jD f m.kind q).1,.int .i64 (jD f m.kind q).2])/\aQ j.drew w'):=bA.o _ _ (a5.o.below ((Vi _ _).drew))
    go_region_held3 (λc=>c.cell? ⟨ca,1,K⟩=I (.int .i64 m.kind)/\c.cell? ⟨w.heap.size,1,K⟩=I (.slice (I ⟨p,t,K⟩) es.length D)/\c.cell? ⟨p,t+a,K⟩=I (.int .i64 q)) (go_keep) ((go_at_call 56;refine V.o.mono ?_;rintro e B ⟨rfl,G⟩;have N:aQ j B:=((Vi j.heap.size j).drew).trans G;have d4:=(N.cell (p:=⟨ca,1,K⟩) b7).trans c3;have d5:=(N.cell (p:=⟨w.heap.size,1,K⟩) E).trans Q;have d6:=(N.cell (p:=⟨p,t+a,K⟩) b8).trans b4;clear G))
    all_goals
     have c6:=af N;clear N d4 d5 d6
     go_wp2_with fail
     go_meet
     exact⟨rfl,c6.o⟩
   case rest=>
    rename F=>n
    obtain⟨rfl,bm⟩:=hcut;have ab:=af (o.o.below bm);have b0:=af (a5.o.below bm);clear o a5 bA c3 Q ar b4 bm b7 E b8 aa;generalize (jD f m.kind q).1=l at*
    go_upto_region 8 with fail
    have bo:(n.alloc (.cells (dF ⟨l,cK⟩).toArray 102)).heap[n.heap.size]? =I (.cells (dF ⟨l,cK⟩).toArray 102 (0,0)):=bC _ _;have bk:oV w (n.alloc (.cells (dF ⟨l,cK⟩).toArray 102)) C (.slice (I ⟨p,t,K⟩) es.length D) h b.length g (eD b cs es h a):=ab.o.below ((Vi _ _).alloc (U7 _) _);have bt:tE (n.alloc (.cells (dF ⟨l,cK⟩).toArray 102)) i f:=b0.o.below ((Vi _ _).alloc (U7 _) _);have d1:w.heap.size+2<n.heap.size:=Va ab.o.box;have df:X (g.ownBlock≠I n.heap.size):=λu=>by have:=(ab.o.own.lt _ u).2;omega
    rw[show(dF ⟨l,cK⟩).toArray=#[.string l,.bool U5,.bool U5,.int .i64 0,.string ⟨#[]⟩,.bool U5,.int .i64 0,.string ⟨#[]⟩] from rfl] at bk bt bo;generalize n.alloc (.cells #[.string l,.bool U5,.bool U5,.int .i64 0,.string ⟨#[]⟩,.bool U5,.int .i64 0,.string ⟨#[]⟩] 102)=ad at*;have cd:ad.heap[n.heap.size]? =I (.cells (dF ⟨l,cK⟩).toArray 102 (0,0)):=bo;generalize n.heap.size=gk at*;have o:=af bk;have bB:=af bt;have T:=af cd;clear bo bk bt cd ab b0;have d3:w.heap.size<=ad.heap.size:=o.o.fW.size;obtain⟨Q,ar,R,S,au⟩:=o.o.cells;cases h
    ·have a4:=af W.o;clear W aw
     go_upto_region 10 with fail
     obtain⟨⟨a7,a8,a9,ba,bb,bc,bd,be⟩,-⟩:=kD T.o;have k:=o.o.own;rw[dM] at k
     go_wp2_with (at_builtin;refine wpList_append_lies _ Y _ _ 96 Y w.heap.size 102 c2 _ 8 88 av.underlying96 co cB cR c0 Y (by decide) _ a _ Y (k.alloc _) ⟨ad.heap.size,0,K⟩ 1 1 (dF ⟨l,cK⟩) Y Y (yt ad ⟨l,cK⟩ _) (uV _) (by decide) (by unfold Vp;omega) (by omega) (by simp;omega) _ Y ?_;intro E L B A O M bs;have z:=aY.lU (n:=a+1) (cap:=L) O M;obtain⟨bv,bx⟩:=o.o.kept z)
     have P:B.ownsRow w.heap.size 102 8 (.slice (I ⟨E,0,K⟩) (a+1) L) (eD b cs es U5 (a+1)).length (ei (eD b cs es U5 (a+1))):=by
      rw[dM,a4.o];unfold ei at A ⊢;rw[Wi,Wd];exact A
     have a1:=af (o.o.lT z P);clear k A O z bv bx P M bs
     go_roundw
     case rel=>exact⟨a+1,_,by omega,by go_num,a1.o⟩
     case measure=>simp[V3];omega
    ·have a4:=af W.o;clear W
     go_upto_region 10 with(go_at_call 57;refine(aw.o _ _ bB.o).mono ?_;unfold Gy;rintro e B ⟨rfl,G⟩;have br:=(G.block gk (Va T.o)).trans T.o;obtain⟨⟨a7,a8,a9,ba,bb,bc,bd,be⟩,b6,dp,dq,dr,ds,dt,du⟩:=kD br)
     have dE:=Pz (cy f) br;have cc:=(o.o.below G).uy d1 df.o (cy f);clear a7 a8 a9 ba bb bc bd be b6 dp dq dr ds dt du br aw bB T Q ar R S au d3;generalize cy f=s at*;generalize ((((((B.setCell ⟨gk,1,K⟩ (.bool s.there)).setCell ⟨gk,2,K⟩ (.bool s.least.null)).setCell ⟨gk,3,K⟩ (.int .i64 s.least.n)).setCell ⟨gk,4,K⟩ (.string s.least.s)).setCell ⟨gk,5,K⟩ (.bool s.most.null)).setCell ⟨gk,6,K⟩ (.int .i64 s.most.n)).setCell ⟨gk,7,K⟩ (.string s.most.s)=a6 at*;have J:=af cc;clear cc G;have e0:w.heap.size<=a6.heap.size:=J.o.fW.size;obtain⟨Q,ar,R,S,au⟩:=J.o.cells;obtain⟨⟨a7,a8,a9,ba,bb,bc,bd,be⟩,-⟩:=kD dE;have k:=J.o.own;rw[dM] at k
     go_wp2_with (at_builtin;refine wpList_append_lies _ Y _ _ 96 Y w.heap.size 102 c2 _ 8 88 av.underlying96 co cB cR c0 Y (by decide) _ a _ Y (k.alloc _) ⟨a6.heap.size,0,K⟩ 1 1 (dF ⟨l,s⟩) Y Y (yt a6 ⟨l,s⟩ _) (uV _) (by decide) (by unfold Vp;omega) (by omega) (by simp;omega) _ Y ?_;intro E L B A O M bs;have z:=aY.lU (n:=a+1) (cap:=L) O M;obtain⟨bv,bx⟩:=J.o.kept z)
     have P:B.ownsRow w.heap.size 102 8 (.slice (I ⟨E,0,K⟩) (a+1) L) (eD b cs es Z (a+1)).length (ei (eD b cs es Z (a+1))):=by
      rw[dM,a4.o];unfold ei at A ⊢;rw[Wi,Wd];exact A
     have a1:=af (J.o.lT z P);clear k A O z bv bx P M bs
     go_roundw
     case rel=>exact⟨a+1,_,by omega,by go_num,a1.o⟩
     case measure=>simp[V3];omega
  ·obtain rfl:a=cs.length:=by omega
   obtain⟨d8,d7,rfl⟩:=cF d.own;rw[dM] at d;generalize d2:VR d8 cs.length d7=g at d;obtain⟨-,-,R,S,-⟩:=d.cells;have k:=d.own;rw[dM] at k;have bi:=Vl wr (w.heap.size+1) 0 _ _ (.int .i64 (b.length:Int)) d.res;have bj:=Vl _ (w.heap.size+1) 1 _ _ g bi;have dk:X (((wr.setCell ⟨w.heap.size+1,0,K⟩ (.int .i64 (b.length:Int))).setCell ⟨w.heap.size+1,1,K⟩ g).ownsRow w.heap.size 102 8 g cs.length (ei (eD b cs es h cs.length))):=by
    have b1:=k.kept (aL wr (w.heap.size+1) 0 (.int .i64 (b.length:Int))) (.inr (bh k d.res (by decide)).symm);exact b1.kept (aL _ (w.heap.size+1) 1 g) (.inr (bh b1 bi (by decide)).symm)
   have c5:X (aQ w ((wr.setCell ⟨w.heap.size+1,0,K⟩ (.int .i64 (b.length:Int))).setCell ⟨w.heap.size+1,1,K⟩ g)):=eT (eT d.fW d.fW.size (by omega) _ _) (by simpa using d.fW.size) (by omega) _ _;have e1:wr.cell? ⟨w.heap.size+1,0,K⟩=I (.int .i64 0):=by have:=d.res;simp[Ve,this]
   have e2:wr.cell? ⟨w.heap.size+1,1,K⟩=I (.slice K 0 0):=by have:=d.res;simp[Ve,this]
   have eo:wr.frozen? ⟨w.heap.size+1,0,K⟩=U5:=by have:=d.res;simp[VW,this]
   have b6:wr.frozen? ⟨w.heap.size+1,1,K⟩=U5:=by have:=d.res;simp[VW,this]
   have ee:((wr.setCell ⟨w.heap.size+1,0,K⟩ (.int .i64 (b.length:Int))).setCell ⟨w.heap.size+1,1,K⟩ g).cell? ⟨w.heap.size+1,0,K⟩=I (.int .i64 (b.length:Int)):=by simp[Ve,bj]
   have ef:((wr.setCell ⟨w.heap.size+1,0,K⟩ (.int .i64 (b.length:Int))).setCell ⟨w.heap.size+1,1,K⟩ g).cell? ⟨w.heap.size+1,1,K⟩=I g:=by simp[Ve,bj]
   clear k bi bj d aa;subst d2;go_wp2;simp[Xw,V0,Tryz.results36,go_sem,ee,ef];exact⟨dk.o,c5.o⟩
end Ec
namespace Un
open Go.RowKit
section
variable {P:Vb}{ops:Array Ww}{Q:Exit->Xa->F->Prop}{md:Region.Mode}{S:F->Prop}{u:Nat}
def Any (P:Vb)(md:Region.Mode)(ops:Array Ww)(Q:Exit->Xa->F->Prop)(S:F->Prop)(u:Nat):Nat->Array Bool->Xa->F->Prop
 |0,listed,a,b=>VX md ops listed=[]/\Q .normal a b
 |n+1,listed,a,b=>(VX md ops listed=[]->Q .normal a b)/\
  ∀c∈VX md ops listed,wpOp P ops Q c (λe d=>((listed.setIfInBounds c Z).getD u Z=U5->S d)/\Any P md ops Q S u n (listed.setIfInBounds c Z) e d) a b
theorem Mr:∀(n:Nat) (listed:Array Bool) (a:Xa) (w:F),Any P md ops Q S u n listed a w->wpAny P md ops Q n listed a w
 |0,_,_,_,b=>b
 |n+1,_,_,_,b=>⟨b.1,λe d=>wpOp_mono (λc f g=>Mr n _ c f g.2) (b.2 e d)⟩
def waits(md:Region.Mode)(ops:Array Ww)(u i:Nat):Bool:=
 match ops[u]? with
 |some b=>b.after.any λa=>Wn md a&&a.on==i
 |none=>U5
def va{i:Nat}{listed:Array Bool}(d:waits md ops u i=Z)(e:listed.getD i Z=U5):u∉VX md ops listed:=by
 intro k;obtain⟨-,l,j,g⟩:=mem_ready.1 k;unfold waits at d;rw[j] at d;obtain⟨f,h,c⟩:=Array.any_eq_true'.1 d;simp only[Vr,beq_iff_eq] at c;have a:=g f h c.1;rw[c.2] at a;rcases WG i listed.size with b|b
 ·simp[b] at e a;rw[e] at a;cases a
 ·simp[Wl b] at a
def first{i:Nat}{h:Ww}{v:U}(A:ops[i]? =I h)(J:∀(j:Nat) (o:Ww) cs b,ops[j]? =I o->o.op≠.select cs b)(am:waits md ops u i=Z)(ab:u≠i)
 (O:∀c a w,Q (.panic c) (a.put h.dst v) w->Q (.panic c) a w):
 ∀(n:Nat) (listed:Array Bool) (a:Xa) (w:F),
  (∀j k,ops[j]? =I k->j≠i->listed.getD j Z=U5->(∀e∈k.after,Wn md e=Z->e.on≠i)->h.apart ops k=Z)->
  i∈VX md ops listed->listed.getD u Z=U5->YieldsIf P ops S h v a->S w->
  Any P md ops Q S u n (listed.setIfInBounds i Z) (a.put h.dst v) w->Any P md ops Q S u (n+1) listed a w:=by
 intro n
 induction n with
 |zero=>
  intro listed a w _ g C t p m;refine⟨λx=>(by rw[x] at g;cases g),λj q=>?_⟩;by_cases d:j=i
  ·subst d;exact t.wpOp A p ⟨λ_=>p,m⟩
  ·have:=ready_mono q d;rw[m.1] at this;cases this
 |succ n ao=>
  intro listed a w D g C t p m;refine⟨λx=>(by rw[x] at g;cases g),λj q=>?_⟩;by_cases d:j=i
  ·subst d;exact t.wpOp A p ⟨λ_=>p,m⟩
  ·have z:=(mem_ready.1 g).1;have G:j≠u:=λe=>va am z (e▸q);have f:=m.2 j (ready_mono q d);obtain⟨H,k,B,R⟩:=mem_ready.1 q;have ae:∀e∈k.after,Wn md e=Z->e.on≠i:=λe V T W=>by
    have f:=R e V T;rw[W] at f;rcases WG i listed.size with y|y
    ·simp[y] at z f;rw[z] at f;cases f
    ·simp[Wl y] at f
   have N:=wpOp_putIf B (D j k B d H ae) (λcs b=>J i h cs b A) (λcs b=>J j k cs b B) O t f;have X:∀l r,ops[l]? =I r->l≠i->(listed.setIfInBounds j Z).getD l Z=U5->
    (∀e∈r.after,Wn md e=Z->e.on≠i)->h.apart ops r=Z:=λl r Y aa L ad=>by
    refine D l r Y aa ?_ ad;by_cases E:j=l
    ·subst E;exact H
    ·rw[YF Z E] at L;exact L
   have al:(listed.setIfInBounds j Z).getD u Z=U5:=by rw[YF Z G];exact C
   have K:((listed.setIfInBounds i Z).setIfInBounds j Z).getD u Z=U5:=by rw[YF Z G,YF Z ab.symm];exact C
   refine wpOp_mono (λM ar s=>⟨λ_=>s.2.1 K,ao (listed.setIfInBounds j Z) M ar X (ready_mono g (Ne.symm d)) al s.1 (s.2.1 K) ?_⟩) N;rw[Array.setIfInBounds_comm _ _ d];exact s.2.2
def Uo{i:Nat}{k:Ww}{v:U}(y:ops[i]? =I k)(H:∀(j:Nat) (o:Ww) cs b,ops[j]? =I o->o.op≠.select cs b)(z:u≠i)
 (N:∀c a w,Q (.panic c) (a.put k.dst v) w->Q (.panic c) a w):
 ∀(n:Nat) (listed:Array Bool) (a:Xa) (w:F),
  (∀j l,ops[j]? =I l->j≠i->listed.getD j Z=U5->(∀e∈l.after,Wn md e=Z->e.on≠i)->k.apart ops l=Z)->
  i∈VX md ops listed->(listed.getD u Z=U5->S w)->YieldsIf P ops (λ_=>True) k v a->
  Any P md ops Q S u n (listed.setIfInBounds i Z) (a.put k.dst v) w->Any P md ops Q S u (n+1) listed a w:=by
 intro n
 induction n with
 |zero=>
  intro listed a w _ h B t p;refine⟨λd=>(by rw[d] at h;cases h),λj s=>?_⟩;by_cases f:j=i
  ·subst f;exact t.wpOp y trivial ⟨λd=>B (by rw[YF Z z.symm] at d;exact d),p⟩
  ·have:=ready_mono s f;rw[p.1] at this;cases this
 |succ n ad=>
  intro listed a w D h B t p;refine⟨λd=>(by rw[d] at h;cases h),λj s=>?_⟩;by_cases f:j=i
  ·subst f;exact t.wpOp y trivial ⟨λd=>B (by rw[YF Z z.symm] at d;exact d),p⟩
  ·have C:=(mem_ready.1 h).1;have g:=p.2 j (ready_mono s f);obtain⟨G,l,A,O⟩:=mem_ready.1 s;have ab:∀e∈l.after,Wn md e=Z->e.on≠i:=λe T R V=>by
    have g:=O e T R;rw[V] at g;rcases WG i listed.size with x|x
    ·simp[x] at C g;rw[C] at g;cases g
    ·simp[Wl x] at g
   have M:=wpOp_putIf A (D j l A f G ab) (λcs b=>H i k cs b y) (λcs b=>H j l cs b A) N t g;have W:∀m q,ops[m]? =I q->m≠i->(listed.setIfInBounds j Z).getD m Z=U5->
    (∀e∈q.after,Wn md e=Z->e.on≠i)->k.apart ops q=Z:=λm q X Y K aa=>by
    refine D m q X Y ?_ aa;by_cases E:j=m
    ·subst E;exact G
    ·rw[YF Z E] at K;exact K
   have J:((listed.setIfInBounds i Z).setIfInBounds j Z).getD u Z=(listed.setIfInBounds j Z).getD u Z:=by
    rw[Array.setIfInBounds_comm _ _ (Ne.symm f),YF Z z.symm]
   refine wpOp_mono (λL ae r=>⟨λd=>r.2.1 (J.trans d),ad (listed.setIfInBounds j Z) L ae W (ready_mono h (Ne.symm f)) (λd=>r.2.1 (J.trans d)) r.1 ?_⟩) M;rw[Array.setIfInBounds_comm _ _ f];exact r.2.2
def take{i:Nat}{b:Ww}{v:U}{n:Nat}{listed:Array Bool}{a:Xa}{w:F}(d:ops[i]? =I b)
 (l:Region.noSelect ops=Z) (g:Region.free md ops listed i=Z) (k:(VX md ops listed).contains i=Z) (o:waits md ops u i=Z) (j:(u==i)=U5) (m:listed.getD u Z=U5)
 (e:∀c a w,Q (.panic c) (a.put b.dst v) w->Q (.panic c) a w) (p:YieldsIf P ops S b v a) (f:S w)
 (h:Any P md ops Q S u n (listed.setIfInBounds i Z) (a.put b.dst v) w):Any P md ops Q S u (n+1) listed a w:=
 first d (Region.noSelect_spec l) o (by simpa using j) e n listed a w (Region.free_spec d g) (by simpa using k) m p f h
def pick{i:Nat}{b:Ww}{v:U}{n:Nat}{listed:Array Bool}{a:Xa}{w:F}(d:ops[i]? =I b)
 (l:Region.noSelect ops=Z) (g:Region.free md ops listed i=Z) (k:(VX md ops listed).contains i=Z) (j:(u==i)=U5)
 (e:∀c a w,Q (.panic c) (a.put b.dst v) w->Q (.panic c) a w) (m:YieldsIf P ops (λ_=>True) b v a) (f:S w)
 (h:Any P md ops Q S u n (listed.setIfInBounds i Z) (a.put b.dst v) w):Any P md ops Q S u (n+1) listed a w:=
 Uo d (Region.noSelect_spec l) (by simpa using j) e n listed a w (Region.free_spec d g) (by simpa using k) (λ_=>f) m h
def one{i:Nat}{o:Ww}{n:Nat}{listed:Array Bool}{a:Xa}{w:F}(e:VX md ops listed=[i])(k:ops[i]? =I o)
 (h:∀b:Xa->F->Prop,X (∀a' w',((listed.setIfInBounds i Z).getD u Z=U5->S w')->Any P md ops Q S u n (listed.setIfInBounds i Z) a' w'->b a' w')->if VA o (We ops a.tmps)=Z then Oper.wp P o a w b Q else b (a.put o.dst V9) w):
 Any P md ops Q S u (n+1) listed a w:=by
 refine⟨λd=>(by rw[e] at d;cases d),λl c=>?_⟩;rw[e] at c;simp at c;subst c;exact wpOp_step k λb j=>h b (λa' w' f g=>j a' w' ⟨f,g⟩)
theorem done{listed:Array Bool}{a:Xa}{w:F}(b:VX md ops listed=[])(h:Q .normal a w):∀n,Any P md ops Q S u n listed a w
 |0=>⟨b,h⟩
 |_+1=>⟨λ_=>h,by rw[b];simp⟩
def RI{id:Nat}{a:Xa}{w:F}(S:F->Prop)(u:Nat)(b:P.follows .mixedOrders=Z)
 (h:Any P .any ops Q S u ops.size (V8 ops.size U5) a w.drew):(Code.region id ops Z).wp P Q a w:=
 wp_region_any b (Mr _ _ _ _ h)
def IQ (md:Region.Mode)(ops:Array Ww)(L:List Nat)(i:Nat):Bool:=L.all λa=>waits md ops a i||L.any λb=>waits md ops a b
def R4{L:List Nat}{i:Nat}{l:Ww}{v:U}(E:ops[i]? =I l)(R:∀(j:Nat) (o:Ww) cs b,ops[j]? =I o->o.op≠.select cs b)(a4:IQ md ops L i=Z)(G:u∈L)(a0:i∉L)
 (ab:∀c a w,Q (.panic c) (a.put l.dst v) w->Q (.panic c) a w):
 ∀(n:Nat) (listed:Array Bool) (a:Xa) (w:F),
  (∀j m,ops[j]? =I m->j≠i->listed.getD j Z=U5->(∀e∈m.after,Wn md e=Z->e.on≠i)->l.apart ops m=Z)->
  i∈VX md ops listed->(∀g∈L,listed.getD g Z=U5)->YieldsIf P ops S l v a->S w->
  Any P md ops Q S u n (listed.setIfInBounds i Z) (a.put l.dst v) w->Any P md ops Q S u (n+1) listed a w:=by
 intro n
 induction n with
 |zero=>
  intro listed a w _ k y z r q;refine⟨λA=>(by rw[A] at k;cases k),λj p=>?_⟩;by_cases d:j=i
  ·subst d;exact z.wpOp E r ⟨λ_=>r,q⟩
  ·have:=ready_mono p d;rw[q.1] at this;cases this
 |succ n a5=>
  intro listed a w K k y z r q;refine⟨λA=>(by rw[A] at k;cases k),λj p=>?_⟩;by_cases d:j=i
  ·subst d;exact z.wpOp E r ⟨λ_=>r,q⟩
  ·have C:=(mem_ready.1 k).1;have ar:j∉L:=λau=>by
    have Y:=Vx.1 a4 j au;rcases Bool.or_eq_true_iff.1 Y with D|D
    ·exact va D C p
    ·obtain⟨f,H,aa⟩:=List.any_eq_true.1 D;exact va aa (y f H) p
   have N:∀g∈L,j≠g:=λg x e=>ar (e▸x);have h:=q.2 j (ready_mono p d);obtain⟨O,m,J,ad⟩:=mem_ready.1 p;have a2:∀e∈m.after,Wn md e=Z->e.on≠i:=λe al ae am=>by
    have h:=ad e al ae;rw[am] at h;rcases WG i listed.size with B|B
    ·simp[B] at C h;rw[C] at h;cases h
    ·simp[Wl B] at h
   have X:=wpOp_putIf J (K j m J d O a2) (λcs b=>R i l cs b E) (λcs b=>R j m cs b J) ab z h;have ao:∀f s,ops[f]? =I s->f≠i->(listed.setIfInBounds j Z).getD f Z=U5->
    (∀e∈s.after,Wn md e=Z->e.on≠i)->l.apart ops s=Z:=λf s H aw V a1=>by
    refine K f s H aw ?_ a1;by_cases M:j=f
    ·subst M;exact O
    ·rw[YF Z M] at V;exact V
   have a3:∀g∈L,(listed.setIfInBounds j Z).getD g Z=U5:=λg x=>by rw[YF Z (N g x)];exact y g x
   have T:((listed.setIfInBounds i Z).setIfInBounds j Z).getD u Z=U5:=by rw[YF Z (N u G),YF Z (show i≠u from λe=>a0 (e▸G))];exact y u G
   refine wpOp_mono (λW a6 t=>⟨λ_=>t.2.1 T,a5 (listed.setIfInBounds j Z) W a6 ao (ready_mono k (Ne.symm d)) a3 t.1 (t.2.1 T) ?_⟩) X;rw[Array.setIfInBounds_comm _ _ d];exact t.2.2
def uy(L:List Nat){i:Nat}{b:Ww}{v:U}{n:Nat}{listed:Array Bool}{a:Xa}{w:F}(d:ops[i]? =I b)
 (p:Region.noSelect ops=Z) (j:Region.free md ops listed i=Z) (o:(VX md ops listed).contains i=Z) (r:IQ md ops L i=Z) (l:L.contains u=Z) (m:L.contains i=U5) (q:(L.all λg=>listed.getD g Z==U5)=Z)
 (e:∀c a w,Q (.panic c) (a.put b.dst v) w->Q (.panic c) a w) (s:YieldsIf P ops S b v a) (f:S w)
 (h:Any P md ops Q S u n (listed.setIfInBounds i Z) (a.put b.dst v) w):Any P md ops Q S u (n+1) listed a w:=
 R4 d (Region.noSelect_spec p) r (by simpa using l) (by simpa using m) e n listed a w (Region.free_spec d j) (by simpa using o) (λg k=>by simpa using Vx.1 q g k) s f h
def mb (md:Region.Mode)(ops:Array Ww)(u:Nat)(listed:Array Bool)(i:Nat)(t:Array U)(b:Bool):Bool:=
 Region.noSelect ops&&Region.free md ops listed i&&(VX md ops listed).contains i && !(u==i)&&match ops[i]? with
  |some a=>VA a (We ops t)==b
  |none=>U5
def Cv{i:Nat}{a:Ww}{listed:Array Bool}{t:Array U}{b:Bool}(c:ops[i]? =I a)(h:mb md ops u listed i t b=Z):Region.noSelect ops=Z/\Region.free md ops listed i=Z/\(VX md ops listed).contains i=Z/\(u==i)=U5/\VA a (We ops t)=b:=by
 unfold mb at h;rw[c] at h;simp only[Vr,Bool.not_eq_true',beq_iff_eq] at h;exact⟨h.1.1.1.1,h.1.1.1.2,h.1.1.2,h.1.2,h.2⟩
def CU(e:X (∀c a (d:Nat) v w,Q (.panic c) (a.put (I d) v) w->Q (.panic c) a w)){d:Option Nat}{v:U}:∀c a w,Q (.panic c) (a.put d v) w->Q (.panic c) a w:=λc a w b=>by
 cases d with
 |none=>exact b
 |some d=>exact e.o c a d v w b
def pk(i:Nat){b:Ww}{v:U}{n:Nat}{listed:Array Bool}{a:Xa}{w:F}(h:Any P md ops Q S u n (listed.setIfInBounds i Z) (a.put b.dst v) w)(e:ops[i]? =I b:=by rfl)(hc:mb md ops u listed i a.tmps Z=Z:=by kernel_rfl)(f:X (∀c a (d:Nat) v w,Q (.panic c) (a.put (I d) v) w->Q (.panic c) a w):=by assumption)(g:S w:=by assumption)
 (j:∀w,(Vw a.eval b).run P w= .ok (.value v) w:=by intro w;go_simp;try with_reducible rfl):Any P md ops Q S u (n+1) listed a w:=
 have c:=Cv e hc
 pick e c.1 c.2.1 c.2.2.1 c.2.2.2.1 (CU f) (.inl ⟨c.2.2.2.2,λw _=>j w⟩) g h
def sk(i:Nat){e:Ww}{n:Nat}{listed:Array Bool}{a:Xa}{w:F}(h:Any P md ops Q S u n (listed.setIfInBounds i Z) (a.put e.dst V9) w)(b:ops[i]? =I e:=by rfl)(hc:mb md ops u listed i a.tmps U5=Z:=by kernel_rfl)(f:X (∀c a (d:Nat) v w,Q (.panic c) (a.put (I d) v) w->Q (.panic c) a w):=by assumption)(g:S w:=by assumption):Any P md ops Q S u (n+1) listed a w:=
 have c:=Cv b hc
 pick b c.1 c.2.1 c.2.2.1 c.2.2.2.1 (CU f) (.inr ⟨c.2.2.2.2,rfl⟩) g h
def ld(L:List Nat)(i:Nat){e:Ww}{v:U}{n:Nat}{listed:Array Bool}{a:Xa}{w:F}(h:Any P md ops Q S u n (listed.setIfInBounds i Z) (a.put e.dst v) w)(f:ops[i]? =I e:=by rfl)(hc:(mb md ops u listed i a.tmps Z&&IQ md ops L i&&L.contains u && !L.contains i&&L.all λg=>listed.getD g Z==U5)=Z:=by kernel_rfl)(j:X (∀c a (d:Nat) v w,Q (.panic c) (a.put (I d) v) w->Q (.panic c) a w):=by assumption)(k:S w:=by assumption)
 (l:∀w,S w->(Vw a.eval e).run P w= .ok (.value v) w:=by intro w b;(try dsimp only at b);(repeat obtain⟨_,b⟩:=b);go_simp;try with_reducible rfl):Any P md ops Q S u (n+1) listed a w:=by
 simp only[Vr,Bool.not_eq_true'] at hc;have c:=Cv f hc.1.1.1.1;exact uy L f c.1 c.2.1 c.2.2.1 hc.1.1.1.2 hc.1.1.2 hc.1.2 hc.2 (CU j) (.inl ⟨c.2.2.2.2,l⟩) k h
def on(i:Nat){o:Ww}{n:Nat}{listed:Array Bool}{a:Xa}{w:F}
 (h:∀b:Xa->F->Prop,X (∀a' w',((listed.setIfInBounds i Z).getD u Z=U5->S w')->Any P md ops Q S u n (listed.setIfInBounds i Z) a' w'->b a' w')->Oper.wp P o a w b Q) (e:VX md ops listed=[i]:=by kernel_rfl) (d:ops[i]? =I o:=by rfl) (f:VA o (We ops a.tmps)=Z:=by kernel_rfl):Any P md ops Q S u (n+1) listed a w:=
 one e d λb c=>by rw[if_pos f];exact h b c
def open_{id:Nat}{a:Xa}{w:F}(S:F->Prop)(u:Nat)(e:∀c a (d:Nat) v w,Q (.panic c) (a.put (I d) v) w->Q (.panic c) a w)
 (h:X (∀c a (d:Nat) v w,Q (.panic c) (a.put (I d) v) w->Q (.panic c) a w)->Any P .any ops Q S u ops.size (V8 ops.size U5) a w.drew) (b:P.follows .mixedOrders=Z:=by kernel_rfl):(Code.region id ops Z).wp P Q a w:=RI S u b (h e)
end
end Un
namespace Ec
open Go.RowKit Pk Pm
def JU(w:F)(o p q r:Yk):((((w.alloc o).alloc p).alloc q).alloc r).heap[w.heap.size+3]? =I r:=by
 have:=bC (((w.alloc o).alloc p).alloc q) r;rwa [show(((w.alloc o).alloc p).alloc q).heap.size=w.heap.size+3 by simp] at this
def iY.below{w w':F}{base:Nat}{v:U}{L:List (Bd×U)}(h:iY w base v L)(a:aQ w w'):iY w' base v L:=
 ⟨aR h.own a,λc b=>aR (h.each c b) a⟩
def iY.put{w:F}{base:Nat}{v:U}{L:List (Bd×U)}(h:iY w base v L){g:Nat}{cs:Array U}{t:Vc}(a:w.heap[g]? =I (.cells cs t (0,0)))(h1:t≠98)(d:t≠102)(o:Nat)(u:U):iY (w.setCell ⟨g,o,K⟩ u) base v L:=
 ⟨h.own.kept (aL w g o u) (.inr (bh h.own a h1).symm),λc b=>(h.each c b).kept (aL w g o u) (.inr (bh (h.each c b) a d).symm)⟩
def iY.snoc{w d:F}{base:Nat}{v v1:U}{L:List (Bd×U)}(h:iY w base v L)(k:aY w d v v1){b:Bd}{c:U}(l:w.ownsRow base 102 8 c b.chunks.length (ei b.chunks))
 (m:d.ownsRow base 98 2 v1 (L++[(b,c)]).length (nZ (L++[(b,c)]))):iY d base v1 (L++[(b,c)]):=by
 refine⟨m,λn a=>?_⟩;have f:∀{i:U} {g:Nat} {j:List U},w.ownsRow base 102 8 i g j->d.ownsRow base 102 8 i g j:=λe=>
  fh e k (qo e h.own (by decide))
 rcases VM.1 a with a|a
 ·exact f (h.each n a)
 ·simp at a;subst a;exact f l
def DL.sub{w:F}{ro:Option VI}{rb bF aK:Nat}{b:List (List aC)}(c:xS w ro rb bF b)(hc:b.length<=aK)(a m:Nat)(i:a<b.length):
 DL w (.slice (I ⟨rb,bF+a,K⟩) ((b.drop a).take m).length (aK-a)) ((b.drop a).take m):=by
 refine⟨_,rb,bF+a,aK-a,rfl,by simp;omega,λ_=>rfl,λ_=>c.lt (by omega),λd g=>?_⟩;have h:a+d<b.length:=by simp at g;omega
 obtain⟨v,e,f⟩:=c.c (a+d) h;refine⟨v,by rw[Wc];exact e,?_⟩;rw[WE,List.getElem_drop];exact f
structure oh(w W:F)(cv rv ev:U)(bd:Int)(bo:Bool)(bv:U)(L:List (Bd×U)):Prop where
 QJ:W.heap[w.heap.size]? =I (.cells #[cv,rv] 57 (0,0))
 opt:W.heap[w.heap.size+1]? =I (.cells #[.int .i64 bd,ev,.bool bo] 61 (0,0))
 res:W.heap[w.heap.size+2]? =I (.cells #[.slice K 0 0,.slice K 0 0,.slice K 0 0] 66 (0,0))
 box:W.heap[w.heap.size+3]? =I (.cells #[cv,ev,bv] 66 (0,0))
 cj:iY W w.heap.size bv L
 fW:aQ w W
def oh.below{w b c:F}{g j i:U}{d:Int}{e:Bool}{f:U}{L:List (Bd×U)}(h:oh w b g j i d e f L)(a:aQ b c):oh w c g j i d e f L:=
 ⟨(a.block _ (Va h.QJ)).trans h.QJ,(a.block _ (Va h.opt)).trans h.opt,(a.block _ (Va h.res)).trans h.res,(a.block _ (Va h.box)).trans h.box,h.cj.below a,h.fW.trans (a.mono h.fW.size)⟩
def oh.cells{w a:F}{c k d:U}{f:Int}{g:Bool}{i:U}{L:List (Bd×U)}(h:oh w a c k d f g i L):
 (a.cell? ⟨w.heap.size,0,K⟩=I c/\a.cell? ⟨w.heap.size,1,K⟩=I k)/\(a.cell? ⟨w.heap.size+1,0,K⟩=I (.int .i64 f)/\a.cell? ⟨w.heap.size+1,1,K⟩=I d/\a.cell? ⟨w.heap.size+1,2,K⟩=I (.bool g))/\
 (a.cell? ⟨w.heap.size+3,0,K⟩=I c/\a.cell? ⟨w.heap.size+3,1,K⟩=I d/\a.cell? ⟨w.heap.size+3,2,K⟩=I i/\a.frozen? ⟨w.heap.size+3,2,K⟩=U5):=by
 have j:=h.QJ;have e:=h.opt;have b:=h.box;exact⟨⟨by simp[Ve,j],by simp[Ve,j]⟩,⟨by simp[Ve,e],by simp[Ve,e],by simp[Ve,e]⟩,by simp[Ve,b],by simp[Ve,b],by simp[Ve,b],by simp[VW,b]⟩
def oh.kept{w c a:F}{i l j:U}{e:Int}{f:Bool}{b g:U}{L:List (Bd×U)}(h:oh w c i l j e f b L)(k:aY c a b g):
 a.cell? ⟨w.heap.size+3,2,K⟩=I b/\a.frozen? ⟨w.heap.size+3,2,K⟩=U5:=by
 have d:=(k.gZ.block _ (Va h.box) (bh h.cj.own h.box (by decide))).trans h.box;exact⟨by simp[Ve,d],by simp[VW,d]⟩
def oh.lT{w f d:F}{k o l:U}{g:Int}{i:Bool}{j c:U}{L:List (Bd×U)}(h:oh w f k o l g i j L)(a:aY f d j c){b:Bd}{e:U}(u:f.ownsRow w.heap.size 102 8 e b.chunks.length (ei b.chunks))
 (v:d.ownsRow w.heap.size 98 2 c (L++[(b,e)]).length (nZ (L++[(b,e)]))):oh w (d.setCell ⟨w.heap.size+3,2,K⟩ c) k o l g i c (L++[(b,e)]):=by
 have q:=(a.gZ.block _ (Va h.QJ) (bh h.cj.own h.QJ (by decide))).trans h.QJ;have r:=(a.gZ.block _ (Va h.opt) (bh h.cj.own h.opt (by decide))).trans h.opt;have s:=(a.gZ.block _ (Va h.res) (bh h.cj.own h.res (by decide))).trans h.res;have m:=(a.gZ.block _ (Va h.box) (bh h.cj.own h.box (by decide))).trans h.box;have t:=Vl d (w.heap.size+3) 2 _ _ c m;have n:=h.fW.trans (a.below (λp a=>(h.cj.own.lt p a).1) h.fW.size);refine⟨?_,?_,?_,t,(h.cj.snoc a u v).put m (by decide) (by decide) _ _,eT n n.size (by omega) _ _⟩
 ·rw[Vj _ _ _ _ (by simp)];exact q
 ·rw[Vj _ _ _ _ (by simp)];exact r
 ·rw[Vj _ _ _ _ (by simp)];exact s
def oh.Uy{w c a:F}{g l i:U}{d:Int}{e:Bool}{f m:U}{L:List (Bd×U)}(h:oh w c g l i d e f L)(k:aY c a f m):
 a.cell? ⟨w.heap.size,1,K⟩=I l/\a.cell? ⟨w.heap.size,0,K⟩=I g/\a.cell? ⟨w.heap.size+1,0,K⟩=I (.int .i64 d)/\a.cell? ⟨w.heap.size+1,1,K⟩=I i/\a.cell? ⟨w.heap.size+1,2,K⟩=I (.bool e):=by
 have j:=(k.gZ.block _ (Va h.QJ) (bh h.cj.own h.QJ (by decide))).trans h.QJ;have b:=(k.gZ.block _ (Va h.opt) (bh h.cj.own h.opt (by decide))).trans h.opt;exact⟨by simp[Ve,j],by simp[Ve,j],by simp[Ve,b],by simp[Ve,b],by simp[Ve,b]⟩
def oh.Of{w a:F}{e g f:U}{b:Int}{c:Bool}{d:U}{L:List (Bd×U)}(h:oh w a e g f b c d L):
 cD a (w.heap.size+3) 2 d/\cD a w.heap.size 1 g/\cD a w.heap.size 0 e/\cD a (w.heap.size+1) 0 (.int .i64 b)/\cD a (w.heap.size+1) 1 f/\cD a (w.heap.size+1) 2 (.bool c):=by
 obtain⟨⟨m,n⟩,⟨j,k,l⟩,o,p,i,q⟩:=h.cells;exact⟨i,n,m,j,k,l⟩
def JG(w:F)(b:Bd)(a:U)(t:Vc):∀(j:Nat) (u:U),(oD (b,a))[j]? =I u->(w.alloc (.cells (oD (b,a)).toArray t)).cell? ((⟨w.heap.size,0,K⟩:VI).add j)=I u:=
 World.news_of_block (bC w _)
def av.Nh:((ax U1).info? 98).map (λi=>(i.zero,i.size,i.bytes))=I (I (.agg #[.int .i64 0,aM]),2,32):=by kernel_rfl
def iq{b:List (List aC)}{a k:Nat}:(ea b a k).length=min a (b.length-k*a):=by simp[ea]
def GU{es:List Int}(bz:(∀e∈es,e=0)\/A5/\uA)(c:List (List aC))(cs:List bQ)(a:Nat)(f:Bool)(ca A B:U)(w:F)(W:1<=a)(dl:a<=100)(du:c.length<=2000)(b6:∀r∈c,r.length=cs.length)(b2:∀r∈c,∀x∈r,L7 x)(Z:cs.length<=8)(bA:es.length=cs.length)
 (cv:DL w ca c) (bx:Cd w A cs) (bB:uv w B es):
 bK 23 #[.agg #[A,ca],.agg #[.int .i64 (a:Int),B,.bool f]] w λe w'=>∃g L,e= .returned (.agg #[A,B,g])/\L.map Vy=dH c cs es f a (fJ c.length a)/\iY w' w.heap.size g L/\aQ w w':=by
 obtain⟨c2,cn,cR,c0,c1⟩:=Wo av.Nh;have a9:X (Cd w A cs):=bx;have ba:X (uv w B es):=bB;have T:X (∀d b,aQ w d->b*a<c.length->∀R,DL d R (ea c a b)->bK 36 #[R,A,.agg #[.int .i64 (a:Int),B,.bool f]] d λe w'=>∃u,e= .returned (.agg #[.int .i64 ((ea c a b).length:Int),u])/\w'.ownsRow d.heap.size 102 8 u cs.length (ei (eD (ea c a b) cs es f cs.length))/\aQ d w'):=λd b bu aa R m=>
  Gn bz (ea c a b) cs a f R A B d (by rw[iq];omega) (λr al=>b6 r (List.mem_of_mem_drop (XV al))) (λr al=>b2 r (List.mem_of_mem_drop (XV al))) Z bA m (a9.o.below bu) (ba.o.lower bu)
 clear bz;obtain⟨E,n,bF,aK,rfl,cu,D⟩:=cv;obtain⟨h,da,bH,aG,rfl,dn,-⟩:=bx;obtain⟨j,db,dc,i,rfl,-,-,-⟩:=bB;have V:X (xS w E n bF c):=D;clear b6 b2 D a9 ba bA;go_enter av.func23,Tryz.ntmps23
 go_upto_region 2 with fail
 have bt:oh w ((((w.alloc (.cells #[.slice h cs.length aG,.slice E c.length aK] 57)).alloc (.cells #[.int .i64 (a:Int),.slice j es.length i,.bool f] 61)).alloc (.cells #[.slice K 0 0,.slice K 0 0,.slice K 0 0] 66)).alloc (.cells #[.slice h cs.length aG,.slice j es.length i,.slice K 0 0] 66)) (.slice h cs.length aG) (.slice E c.length aK) (.slice j es.length i) a f (.slice K 0 0) []:=by
  refine⟨alloc_old _ (by simp;omega) (alloc_old _ (by simp;omega) (alloc_old _ (by simp) (bC w _))),alloc_old _ (by simp) (alloc_old _ (by simp) (kw w _ _)),alloc_old _ (by simp) (A9 w _ _ _),JU w _ _ _ _,⟨Xj _ _ _ _,λdC cp=>by simp at cp⟩,?_⟩;exact((kA _ _).alloc (by simp;omega) _).alloc (by simp;omega) _
 generalize (((w.alloc (.cells #[.slice h cs.length aG,.slice E c.length aK] 57)).alloc (.cells #[.int .i64 (a:Int),.slice j es.length i,.bool f] 61)).alloc (.cells #[.slice K 0 0,.slice K 0 0,.slice K 0 0] 66)).alloc (.cells #[.slice h cs.length aG,.slice j es.length i,.slice K 0 0] 66)=c8 at*
 go_wp2_with fail
 go_loopw [6] (λam wr=>∃(b:Nat) (g:U) (L:List (Bd×U)),b<=fJ c.length a/\am= .int .i64 ((b*a:Nat):Int)/\L.map Vy=dH c cs es f a b/\oh w wr (.slice h cs.length aG) (.slice E c.length aK) (.slice j es.length i) a f g L) (λam _=>c.length+200-(V3 am).toNat)
 case atStart=>exact⟨0,_,[],VB _,by simp,rfl,bt⟩
 case round=>
  clear bt;obtain⟨b,g,L,aa,rfl,bs,k⟩:=hrel;have bi:X (oh w wr (.slice h cs.length aG) (.slice E c.length aK) (.slice j es.length i) a f g L):=k;have M:X (L.map Vy=dH c cs es f a b):=bs;have bc:X (b<=fJ c.length a):=aa;clear bs aa;by_cases Q:b*a<c.length
  ·have cd:X (b<fJ c.length a):=(qs (by omega) b).1 Q;have ck:X ((b+1)*a=b*a+a):=Nat.succ_mul b a;have a8:X ((ea c a b).length=min a (c.length-b*a)):=iq;have D:=V.o.below k.fW;obtain rfl:=D.addr (by omega);have bk:X (DL wr (.slice (I ⟨n,bF+b*a,K⟩) (ea c a b).length (aK-b*a)) (ea c a b)):=DL.sub D cu (b*a) a Q;have a7:X (bK 36 #[.slice (I ⟨n,bF+b*a,K⟩) (ea c a b).length (aK-b*a),.slice h cs.length aG,.agg #[.int .i64 (a:Int),.slice j es.length i,.bool f]] wr.drew λe w'=>∃u,e= .returned (.agg #[.int .i64 ((ea c a b).length:Int),u])/\w'.ownsRow wr.heap.size 102 8 u cs.length (ei (eD (ea c a b) cs es f cs.length))/\aQ wr w'):=by
    refine(T.o wr.drew b k.fW.drew Q _ (bk.o.below (Vi _ _).drew)).mono ?_;rintro e w' ⟨u,C,m,O⟩;exact⟨u,C,m,(Vi _ _).drew.trans O⟩
   obtain⟨⟨aw,a0⟩,⟨ao,ar,au⟩,bl,bm,bo,br⟩:=k.cells;have cx:=k.fW.size;clear k D T V;generalize b4:(ea c a b).length=q at*;have ch:X ((ea c a b).length=q):=b4;clear b4;generalize b0:b*a=p at*;have cc:X (b*a=p):=b0;clear b0;have Z:=a8.o;have dq:((p:Nat):Int)<(c.length:Int):=by omega
   obtain⟨y,b7⟩:∃y:Nat,y=p+q:=⟨_,rfl⟩;have cB:min ((p:Int)+(a:Int)) (c.length:Int)=(y:Int):=by omega
   have C:((p:Nat):Int)<=(y:Int):=by omega
   have m:((y:Nat):Int)<=(aK:Int):=by omega
   have c7:X (y=p+q):=b7;have dp:y-p=q:=by omega
   have ds:¬aK=p:=by omega
   clear b7 Z a8;have be:X (L.length=b):=by
    show _=_;rw[<-VQ (f:=Vy),M.o,nX]
   have dr:b<=2000:=by have:=Nat.le_mul_of_pos_right b (show 0<a by omega);have:=cc.o;omega
   go_upto_region 6 with fail
   clear cB;refine Un.open_ (λd=>d.cell? ⟨w.heap.size+3,2,K⟩=I g/\d.cell? ⟨w.heap.size,1,K⟩=I (.slice (I ⟨n,bF,K⟩) c.length aK)/\d.cell? ⟨w.heap.size,0,K⟩=I (.slice h cs.length aG)/\d.cell? ⟨w.heap.size+1,0,K⟩=I (.int .i64 (a:Int))/\d.cell? ⟨w.heap.size+1,1,K⟩=I (.slice j es.length i)/\d.cell? ⟨w.heap.size+1,2,K⟩=I (.bool f)) 14 (λ_ _ _ _ _ H=>H) λdt=>?_;have J:(λd=>d.cell? ⟨w.heap.size+3,2,K⟩=I g/\d.cell? ⟨w.heap.size,1,K⟩=I (.slice (I ⟨n,bF,K⟩) c.length aK)/\d.cell? ⟨w.heap.size,0,K⟩=I (.slice h cs.length aG)/\d.cell? ⟨w.heap.size+1,0,K⟩=I (.int .i64 (a:Int))/\d.cell? ⟨w.heap.size+1,1,K⟩=I (.slice j es.length i)/\d.cell? ⟨w.heap.size+1,2,K⟩=I (.bool f)) wr.drew:=by go_keep
   refine Un.pk 0 ?_
   try simp only[WH,Vq,VD,Vz]
   refine Un.ld [14] 1 ?_
   try simp only[WH,Vq,VD,Vz]
   refine Un.pk 2 ?_
   try simp only[WH,Vq,VD,Vz]
   refine Un.ld [14] 3 ?_
   try simp only[WH,Vq,VD,Vz]
   refine Un.pk 4 ?_
   try simp only[WH,Vq,VD,Vz]
   refine Un.pk 5 ?_
   try simp only[WH,Vq,VD,Vz]
   refine Un.pk 6 ?_
   try simp only[WH,Vq,VD,Vz]
   refine Un.pk 7 ?_
   try simp only[WH,Vq,VD,Vz]
   refine Un.ld [14] 8 ?_
   try simp only[WH,Vq,VD,Vz]
   refine Un.ld [14] 9 ?_
   try simp only[WH,Vq,VD,Vz]
   refine Un.on 10 λv l=>?_;go_simp;go_at_call 36;refine a7.o.mono ?_;rintro e z ⟨u,rfl,ab,W⟩;obtain⟨t,s,rfl⟩:=cF ab;have o:X (oh w z (.slice h cs.length aG) (.slice (I ⟨n,bF,K⟩) c.length aK) (.slice j es.length i) a f g L):=bi.o.below W;have bd:X (z.ownsRow w.heap.size 102 8 (.slice t cs.length s) cs.length (ei (eD (ea c a b) cs es f cs.length))):=bE ab cx;refine l.o _ _ (λ_=>o.o.Of) ?_;clear l v J ab W a7 bk aw a0 ao ar au bl bm bo br
   try simp only[WH,Vq,VD,Vz]
   have J:(λd=>d.cell? ⟨w.heap.size+3,2,K⟩=I g/\d.cell? ⟨w.heap.size,1,K⟩=I (.slice (I ⟨n,bF,K⟩) c.length aK)/\d.cell? ⟨w.heap.size,0,K⟩=I (.slice h cs.length aG)/\d.cell? ⟨w.heap.size+1,0,K⟩=I (.int .i64 (a:Int))/\d.cell? ⟨w.heap.size+1,1,K⟩=I (.slice j es.length i)/\d.cell? ⟨w.heap.size+1,2,K⟩=I (.bool f)) z:=o.o.Of;refine Un.on 11 λv l=>?_;go_simp;have bj:X (oh w (z.alloc (.cells (oD (⟨q,eD (ea c a b) cs es f cs.length⟩,.slice t cs.length s)).toArray 98)) (.slice h cs.length aG) (.slice (I ⟨n,bF,K⟩) c.length aK) (.slice j es.length i) a f g L):=o.o.below ((Vi _ _).alloc (U7 _) _);refine l.o _ _ (λ_=>bj.o.Of) ?_;clear l v J
   try simp only[WH,Vq,VD,Vz]
   refine Un.one (i:=12) (by kernel_rfl) Y (λv l=>?_);have ad:=o.o.cj.own;rw[be.o] at ad;have dv:w.heap.size<=z.heap.size:=o.o.fW.size;refine step_append_lies _ (by rfl) _ _ 64 (by rfl) w.heap.size 98 c2 _ 2 32 av.underlying64 cn cR c0 c1 Y (by decide) g b _ (by rfl) (ad.alloc _) ⟨z.heap.size,0,K⟩ 1 1 (oD (⟨q,eD (ea c a b) cs es f cs.length⟩,.slice t cs.length s)) (by rfl) Y (JG z _ _ _) (by intro dT b8;simp[oD] at b8;rcases b8 with rfl|rfl<;>rfl) (by decide) (by unfold Vp;omega) (by omega) (by simp;omega) _ Y ?_;intro N G S ae b1 bv co;have P:=aY.lU (n:=b+1) (cap:=G) b1 bv;have b5:S.ownsRow w.heap.size 98 2 (.slice (I ⟨N,0,K⟩) (b+1) G) (L++[((⟨q,eD (ea c a b) cs es f cs.length⟩:Bd),VR t cs.length s)]).length (nZ (L++[((⟨q,eD (ea c a b) cs es f cs.length⟩:Bd),VR t cs.length s)])):=by
    unfold nZ at ae ⊢;rw[Wi,Wd,U8,be.o];exact ae
   have bb:X (oh w (S.setCell ⟨w.heap.size+3,2,K⟩ (.slice (I ⟨N,0,K⟩) (b+1) G)) (.slice h cs.length aG) (.slice (I ⟨n,bF,K⟩) c.length aK) (.slice j es.length i) a f (.slice (I ⟨N,0,K⟩) (b+1) G) (L++[((⟨q,eD (ea c a b) cs es f cs.length⟩:Bd),VR t cs.length s)])):=o.o.lT P (by simpa [dM] using bd.o) b5;obtain⟨a6,c6⟩:=o.o.kept P;obtain⟨a1,a2,a3,a4,a5⟩:=o.o.Uy P;refine l.o _ _ (λ_=>⟨a6,a1,a2,a3,a4,a5⟩) ?_;clear l v ad ae b1 bv co b5 P
   try simp only[WH,Vq,VD,Vz]
   have J:(λd=>d.cell? ⟨w.heap.size+3,2,K⟩=I g/\d.cell? ⟨w.heap.size,1,K⟩=I (.slice (I ⟨n,bF,K⟩) c.length aK)/\d.cell? ⟨w.heap.size,0,K⟩=I (.slice h cs.length aG)/\d.cell? ⟨w.heap.size+1,0,K⟩=I (.int .i64 (a:Int))/\d.cell? ⟨w.heap.size+1,1,K⟩=I (.slice j es.length i)/\d.cell? ⟨w.heap.size+1,2,K⟩=I (.bool f)) S:=⟨a6,a1,a2,a3,a4,a5⟩;refine Un.pk 13 ?_
   try simp only[WH,Vq,VD,Vz]
   refine Un.on 14 λv l=>?_;go_simp;refine l.o _ _ (λH=>absurd H (by decide)) ?_;clear l v J a1 a2 a3 a4 a5 a6 c6;refine Un.done (by kernel_rfl) ?_ _
   try simp only[WH,Vq,VD,Vz]
   clear o bj bd;generalize S.setCell ⟨w.heap.size+3,2,K⟩ (.slice (I ⟨N,0,K⟩) (b+1) G)=c9 at*;obtain⟨⟨aw,a0⟩,⟨ao,ar,au⟩,-⟩:=bb.o.cells
   go_wp2_with fail
   go_roundw
   case rel=>exact⟨b+1,_,_,cd.o,by rw[ck.o];go_num,by rw[V1,M.o,D3,Xz];simp[nJ,ch.o],bb.o⟩
   case measure=>simp[V3];omega
  ·have b3:b=fJ c.length a:=by
    have:=λH=>Q ((qs (show 0<a by omega) b (len:=c.length)).2 H);have m:=bc.o;exact Nat.le_antisymm m (Nat.le_of_not_lt this)
   obtain⟨t,s,rfl⟩:=cF k.cj.own;generalize cl:VR t L.length s=g at k;obtain⟨⟨aw,a0⟩,⟨ao,ar,au⟩,bl,bm,bo,br⟩:=k.cells;have C:=Vl wr (w.heap.size+2) 0 _ _ (.slice h cs.length aG) k.res;have m:=Vl _ (w.heap.size+2) 1 _ _ (.slice j es.length i) C;have O:=Vl _ (w.heap.size+2) 2 _ _ g m;have ci:X (iY (((wr.setCell ⟨w.heap.size+2,0,K⟩ (.slice h cs.length aG)).setCell ⟨w.heap.size+2,1,K⟩ (.slice j es.length i)).setCell ⟨w.heap.size+2,2,K⟩ g) w.heap.size g L):=
    ((k.cj.put k.res (by decide) (by decide) _ _).put C (by decide) (by decide) _ _).put m (by decide) (by decide) _ _
   have cb:X (aQ w (((wr.setCell ⟨w.heap.size+2,0,K⟩ (.slice h cs.length aG)).setCell ⟨w.heap.size+2,1,K⟩ (.slice j es.length i)).setCell ⟨w.heap.size+2,2,K⟩ g)):=
    cH (cH (cH k.fW (U7 _) (by omega) _ _) (U7 _) (by omega) _ _) (U7 _) (by omega) _ _
   obtain⟨c3,c4,c5⟩:=bW (show _=I (Obj.cells #[.slice h cs.length aG,.slice j es.length i,g] 66 (0,0)) from O);obtain⟨dD,dE,dO⟩:=bW k.res;have dd:wr.frozen? ⟨w.heap.size+2,0,K⟩=U5:=by have:=k.res;simp[VW,this]
   have df:wr.frozen? ⟨w.heap.size+2,1,K⟩=U5:=by have:=k.res;simp[VW,this]
   have dk:wr.frozen? ⟨w.heap.size+2,2,K⟩=U5:=by have:=k.res;simp[VW,this]
   have cf:X (L.map Vy=dH c cs es f a (fJ c.length a)):=by rw[<-b3];exact M.o
   clear C m O k bi T V M bc b3;subst cl;generalize b*a=p at*;go_wp2;simp[Xw,V0,Tryz.results23,go_sem,c3,c4,c5];exact⟨L,cf.o,ci.o,cb.o⟩
def AQ (j n:Nat):List Nat:=(VS j).map λa=>n/256^a%256
def KE(j n:Nat):AQ (j+1) n=AQ j n++[n/256^j%256]:=by
 unfold AQ;rw[Y2,V1,Xz]
def KD(n:Nat):AQ 4 n=iJ n:=by
 unfold AQ iJ;simp[Y2]
def Cz(n j:Nat):n/256^j/256=n/256^(j+1):=by
 rw[Nat.div_div_eq_div_mul,Yz]
def uG(u:U)(pre:List Nat)(n base:Nat)(w:F)(z:n<4294967296)(L:pre.length<=100000000000)(I:base<=w.heap.size)
 (c:w.ownsRow base 5 1 u pre.length (aF pre)):
 bK 35 #[u,.int .i64 (n:Int)] w λe w'=>∃i,e= .returned i/\w'.ownsRow base 5 1 i (pre++iJ n).length (aF (pre++iJ n))/\aY w w' u i:=by
 obtain⟨E,y,B,C,D⟩:=Wo av.tQ;rw[<-KD];go_enter av.func35,Tryz.ntmps35
 go_wp2_with fail
 go_loopw [0,1,5] (λo G h wr=>∃(a m:Nat) (b:List Nat),a<=4/\h= .int .i64 (a:Int)/\G= .int .i64 (m:Int)/\m<4294967296/\m=n/256^a/\b=pre++AQ a n/\wr.ownsRow base 5 1 o b.length (aF b)/\aY w wr u o/\w.heap.size<=wr.heap.size) (λ_ _ h _=>4-(V3 h).toNat)
 case atStart=>exact⟨0,n,pre,by omega,rfl,rfl,z,by simp,by simp[AQ],c,aY.refl _ _,U7 _⟩
 case round=>
  obtain⟨a,m,b,J,rfl,rfl,N,r,f,c,p,P⟩:=hrel;have k:=af r;have l:=af f;have O:b.length<=100000000004:=by rw[f];simp[AQ];omega
  have j:=af p;clear r f p;by_cases M:a<4
  ·obtain⟨d,g⟩:∃d,d=m%256:=⟨_,rfl⟩;have Q:Zs.wrap (m:Int)=(d:Int):=by rw[g];simp[IntKind.wrap,Zf,YV]
   have v:=af g;clear g
   go_wp2_with (at_builtin;refine aZ _ Y _ _ 95 Y base 5 E (.int .u8 0) 1 1 av.underlying95 y B C D Y (by decide) _ b.length _ Y (c.alloc _) ⟨wr.heap.size,0,K⟩ 1 1 [.int .u8 (d:Int)] Y (by decide) Y (jS _ _ _) (lC _) (by unfold Vp;omega) (by omega) (by simp;omega) ?_;intro R H s x)
   have q:=j.o.trans (aY.append x);have A:w.heap.size<=H.heap.size:=q.gZ.size;rw[fY] at s;refine⟨⟨a+1,m/256,b++[d],by omega,by go_num,by go_num,by omega,?_,?_,by simpa using s,q,A⟩,by simp[V3];omega⟩
   ·rw[k.o];exact Cz n a
   ·rw[l.o,v.o,k.o,KE,Vu]
  ·obtain rfl:a=4:=by omega
   have t:X (wr.ownsRow base 5 1 u0 (pre++AQ 4 n).length (aF (pre++AQ 4 n))):=by show World.ownsRow _ _ _ _ _ _ _;rw[<-l.o];exact c
   clear c;go_wp2;go_ret;exact⟨_,rfl,t.o,j.o⟩
def uD(u:U)(pre:List Nat)(b:lZ)(k:Int)(base:Nat)(w:F)(M:k=1\/k=2\/k=3)(R:tv b.least)(a5:tv b.most)(ba:pre.length<=3000000)(i:base<=w.heap.size)
 (r:w.ownsRow base 5 1 u pre.length (aF pre)):
 bK 54 #[u,Gy b,.int .i64 k] w λe w'=>∃f,e= .returned f/\w'.ownsRow base 5 1 f (pre++cw k b).length (aF (pre++cw k b))/\aY w w' u f:=by
 obtain⟨W,L,S,T,V⟩:=Wo av.tQ;have Q:u.ownBlock≠I w.heap.size:=λh=>by have:=(r.lt _ h).2;omega
 obtain⟨ao,a,c⟩:=b;unfold Gy;cases ao
 ·rw[show cw k ⟨U5,a,c⟩=[0] from rfl];go_enter av.func54,Tryz.ntmps54
  go_wp2_with (at_builtin;refine aZ _ Y _ _ 95 Y base 5 W (.int .u8 0) 1 1 av.underlying95 L S T V Y (by decide) _ pre.length _ Y ((r.alloc _).alloc _) ⟨w.heap.size+1,0,K⟩ 1 1 [.int .u8 ((0:Nat):Int)] Y (by decide) Y (by simpa using jS (w.alloc _) _ _) (lC _) (by unfold Vp;omega) (by omega) (by simp;omega) ?_;intro aa x P a0)
  go_ret;have p:aY w x u aa:=aY.box (aY.append a0);rw[fY] at P;exact⟨_,rfl,by simpa using P,p⟩
 ·rw[show cw k ⟨Z,a,c⟩=[1]++(aU k a++aU k c) from rfl,<-Vu,<-Vu];have bb:=kT k a R.sz;have ab:X (∀d v,d.ownsRow base 5 1 v (pre++[1]).length (aF (pre++[1]))->base<=d.heap.size->bK 77 #[v,.agg (j9 a),.int .i64 k] d λe w'=>∃f,e= .returned f/\w'.ownsRow base 5 1 f (pre++[1]++aU k a).length (aF (pre++[1]++aU k a))/\aY d w' v f):=λd v q i=>
   kz v (pre++[1]) a k base d M R (by simp;omega) i q
  have ad:X (∀d v,d.ownsRow base 5 1 v (pre++[1]++aU k a).length (aF (pre++[1]++aU k a))->base<=d.heap.size->bK 77 #[v,.agg (j9 c),.int .i64 k] d λe w'=>∃f,e= .returned f/\w'.ownsRow base 5 1 f (pre++[1]++aU k a++aU k c).length (aF (pre++[1]++aU k a++aU k c))/\aY d w' v f):=λd v q i=>
   kz v (pre++[1]++aU k a) c k base d M a5 (by simp;omega) i q
  have ar:base<=(w.alloc (.cells (fX ⟨Z,a,c⟩) 100)).heap.size:=by simp;omega
  generalize a9:pre++[1]++aU k a++aU k c=a7 at*;generalize a8:pre++[1]++aU k a=a6 at*;go_enter av.func54,Tryz.ntmps54
  go_upto_region 1 with fail
  have N:=r.alloc (.cells (fX ⟨Z,a,c⟩) 100);have G:(w.alloc (.cells (fX ⟨Z,a,c⟩) 100)).heap[w.heap.size]? =I (.cells (fX ⟨Z,a,c⟩) 100 (0,0)):=bC _ _;have J:aY w (w.alloc (.cells (fX ⟨Z,a,c⟩) 100)) u u:=(aY.refl w u).alloc _;unfold fX at N G J ar;generalize w.alloc (.cells #[.bool Z,.bool a.null,.int .i64 a.n,.string a.s,.bool c.null,.int .i64 c.n,.string c.s] 100)=m at*;have ae:=af J;have H:m.heap[w.heap.size]? =I (.cells (fX ⟨Z,a,c⟩) 100 (0,0)):=G;generalize w.heap.size=g at*;obtain⟨⟨y,z,A,B,C,D,E⟩,-⟩:=dW H;have l:=af H
  go_upto_region 4 with(at_builtin;refine aZ _ Y _ _ 95 Y base 5 W (.int .u8 0) 1 1 av.underlying95 L S T V Y (by decide) _ pre.length _ Y (N.alloc _) ⟨m.heap.size,0,K⟩ 1 1 [.int .u8 ((1:Nat):Int)] Y (by decide) Y (jS _ _ _) (lC _) (by unfold Vp;omega) (by omega) (by simp;omega) ?_;intro s t O aw)
  have j:aY m t u s:=aY.append aw;rw[fY] at O;have a1:t.ownsRow base 5 1 s (pre++[1]).length (aF (pre++[1])):=by simpa using O
  have n:t.heap[g]? =I (.cells (fX ⟨Z,a,c⟩) 100 (0,0)):=(j.gZ.block g (Va l.o) (λe=>Q e.symm)).trans l.o;have bc:=j.gZ.size;have a4:s.ownBlock≠I g:=λe=>by
   rcases j.at_ g e with h|h
   ·exact Q h
   ·have:=Va l.o;omega
  have al:=af (ae.o.trans j);obtain⟨⟨y,z,A,B,C,D,E⟩,-⟩:=dW n
  go_upto_region 5 with(go_at_call 77;refine(ab.o _ _ a1 (by omega)).mono ?_;rintro e x ⟨aa,rfl,a2,o⟩)
  have au:x.heap[g]? =I (.cells (fX ⟨Z,a,c⟩) 100 (0,0)):=(o.gZ.block g (Va n) (λe=>a4 e.symm)).trans n;have bd:=o.gZ.size;have am:=af (al.o.trans o);obtain⟨⟨y,z,A,B,C,D,E⟩,-⟩:=dW au
  go_wp2_with (go_at_call 77;refine(ad.o _ _ a2 (by omega)).mono ?_;rintro e bi ⟨be,rfl,a3,p⟩)
  go_ret;exact⟨_,rfl,a3,am.o.trans p⟩
def iE(n:Nat):(aH n).length<=10:=by unfold aH;exact eO 10 n
def Gv(k:Int)(b:lZ)(h1:b.least.s.size<=32)(a:b.most.s.size<=32):(cw k b).length<=85:=by
 have c:=kT k b.least h1;have d:=kT k b.most a;unfold cw
 split
 ·simp only[U8,WS,Y1];omega
 ·simp
def tK{α:Type}(f:α->List Nat)(m:Nat)(l:List α)(h:∀x∈l,(f x).length<=m):(l.flatMap f).length<=l.length*m:=by
 induction l with
 |nil=>simp
 |cons x g b=>
  rw[Xq,U8,WS,Nat.succ_mul];have d:=h x (by simp);have e:=b (λc a=>h c (by simp[a]));omega
structure DO(n:Nat)(b:Bd):Prop where
 rows:b.rows<2147483648
 len:b.chunks.length=n
 size:∀c∈b.chunks,c.text.size<2147483648
 least:∀c∈b.chunks,tv c.eU.least
 most:∀c∈b.chunks,tv c.eU.most
def Py{l:List j8}{i:Nat}(h:i<l.length):l.getD i ⟨⟨#[]⟩,cK⟩∈l:=by
 rw[Vk,Vf h];exact Vn h
def KT{n:Nat}{b:Bd}(h:DO n b)(cs:List bQ){i:Nat}(c:i<b.chunks.length):(sq cs b.chunks i).length<=95:=by
 have a:=Py c;have d:=iE (b.chunks.getD i ⟨⟨#[]⟩,cK⟩).text.size;have e:=Gv (cs.getD i ⟨⟨#[]⟩,0⟩).kind (b.chunks.getD i ⟨⟨#[]⟩,cK⟩).eU (h.least _ a).sz (h.most _ a).sz;unfold sq;rw[U8];omega
def y9{n:Nat}{b:Bd}(h:DO n b)(cs:List bQ)(k:Nat)(c:k<=b.chunks.length):(eY cs b.chunks k).length<=k*95:=by
 have:=tK (sq cs b.chunks) 95 (VS k) (λd a=>KT h cs (by have:=WK.1 a;omega));simpa [eY] using this
def JW{n:Nat}{b:Bd}(h:DO n b)(e:n<=8)(cs:List bQ):(eB cs b).length<=770:=by
 have a:=y9 h cs b.chunks.length (U7 _);have c:=iE b.rows;have d:=h.len;unfold eB;rw[U8];omega
def x9{n:Nat}{bs:List Bd}(h:∀b∈bs,DO n b)(c:n<=8)(cs:List bQ):(cX cs bs).length<=bs.length*770:=
 tK (eB cs) 770 bs (λb a=>JW (h b a) c cs)
def MH{cs:List bQ}{es:List Int}(h:∀c∈cs,c.name.size<=16){i:Nat}(a:i<cs.length):(Cw cs es i).length<=28:=by
 have b:=iE (cs.getD i ⟨⟨#[]⟩,0⟩).name.size;have d:=h _ (by rw[Vk,Vf a];exact Vn a:cs.getD i ⟨⟨#[]⟩,0⟩∈cs);unfold Cw;rw[U8,U8,ak];simp only[WS,Y1];omega
def uT{cs:List bQ}{es:List Int}(h:∀c∈cs,c.name.size<=16)(k:Nat)(b:k<=cs.length):(jd cs es k).length<=k*28:=by
 have:=tK (Cw cs es) 28 (VS k) (λd a=>MH h (by have:=WK.1 a;omega));simpa [jd] using this
structure jK(w W:F)(cv ev bv u:U)(pre:List Nat):Prop where
 box:W.heap[w.heap.size]? =I (.cells #[cv,ev,bv] 66 (0,0))
 own:W.ownsRow w.heap.size 5 1 u pre.length (aF pre)
 fW:aQ w W
def jK.alloc{w a:F}{c d b u:U}{pre:List Nat}(h:jK w a c d b u pre)(o:Yk):jK w (a.alloc o) c d b u pre:=
 ⟨alloc_old o (Va h.box) h.box,h.own.alloc o,h.fW.alloc h.fW.size o⟩
def jK.drew{w a:F}{c d b u:U}{pre:List Nat}(h:jK w a c d b u pre):jK w a.drew c d b u pre:=
 ⟨h.box,aR h.own (Vi _ _).drew,h.fW.drew⟩
def jK.lT{w e b:F}{g i f u d:U}{pre c:List Nat}(h:jK w e g i f u pre)(a:aY e b u d)(k:b.ownsRow w.heap.size 5 1 d c.length (aF c)):jK w b g i f d c:=
 ⟨(a.gZ.block _ (Va h.box) (bh h.own h.box (by decide))).trans h.box,k,h.fW.trans (a.below (λj a=>(h.own.lt j a).1) h.fW.size)⟩
def jK.cells{w a:F}{c d b u:U}{pre:List Nat}(h:jK w a c d b u pre):cD a w.heap.size 0 c/\cD a w.heap.size 1 d/\cD a w.heap.size 2 b:=bW h.box
def jK.uy{w a c:F}{e f d u k:U}{pre:List Nat}(h:jK w a e f d u pre)(i:aY a c u k){g:Nat}{cs:Array U}{t:Vc}(b:a.heap[g]? =I (.cells cs t (0,0)))(j:t≠5):c.heap[g]? =I (.cells cs t (0,0)):=
 (i.gZ.block _ (Va b) (bh h.own b j)).trans b
def ny{w:F}{g:Nat}{a b:U}{t:Vc}(h:w.heap[g]? =I (.cells #[a,b] t (0,0))):w.cell? ⟨g,0,K⟩=I a/\w.cell? ⟨g,1,K⟩=I b:=by
 refine⟨?_,?_⟩<;>simp[Ve,h]
def JH(w:F)(a b:U)(t:Vc):∀(j:Nat) (u:U),[a,b][j]? =I u->(w.alloc (.cells #[a,b] t)).cell? ((⟨w.heap.size,0,K⟩:VI).add j)=I u:=
 World.news_of_block (bC w _)
def jb(a b:List Nat):aF (a++b)=aF a++aF b:=by simp[aF]
def uF(cs:List bQ)(es:List Int)(bs:List Bd)(c3 c4 c1:U)(w:F)(fk:cs.length<=8)(dd:es.length=cs.length)(cd:∀c∈cs,c.name.size<=16)(dq:∀c∈cs,c.kind=1\/c.kind=2\/c.kind=3)(gj:bs.length<=2000)(c7:∀b∈bs,DO cs.length b)
 (fl:Cd w c3 cs) (ft:uv w c4 es) (fg:∃base L,L.map Vy=bs/\iY w base c1 L):
 bK 34 #[.slice K 0 0,.agg #[c3,c4,c1]] w λe w'=>∃a0,e= .returned a0/\w'.ownsRow w.heap.size 5 1 a0 (jO cs es bs).length (aF (jO cs es bs))/\aQ w w':=by
 obtain⟨d5,dn,d1,d2,d3⟩:=Wo av.tQ;obtain⟨base,L,b2,b1⟩:=fg;have fu:=Ry.cS rf b1.own;obtain⟨D,a3,a4,n,rfl,ae⟩:=fu;obtain⟨u,J,bH,aG,rfl,gl,x⟩:=fl;obtain⟨v,E,R,l,rfl,da,db,dc⟩:=ft;have bd:=af x;have cp:=af da;have cu:=af db;have cv:=af dc;have en:=af dd;have bv:=af cd;have et:=af dq;have cl:=af c7;have eQ:=af b2;have a2:X (L.length=bs.length):=by show _=_;rw[<-b2,VQ]
 have eq:=af ae;have em:=af b1.each;have gs:L.length<=2000:=by have:=a2.o;omega
 clear x da db dc dd cd dq c7 b2 ae b1;go_enter av.func34,Tryz.ntmps34
 go_upto_region 1 with fail
 have a5:jK w (w.alloc (.cells #[.slice u cs.length aG,.slice v es.length l,.slice D L.length n] 66)) (.slice u cs.length aG) (.slice v es.length l) (.slice D L.length n) (.slice K 0 0) []:=
  ⟨bC _ _,Xj _ _ _ _,(Vi _ _).alloc (U7 _) _⟩
 generalize w.alloc (.cells #[.slice u cs.length aG,.slice v es.length l,.slice D L.length n] 66)=bA at*;obtain⟨A,B,C⟩:=a5.cells;have k:X (bK 53 #[.slice K 0 0,.int .i64 (cs.length:Int)] bA λe w'=>∃h,e= .returned h/\w'.ownsRow w.heap.size 5 1 h ([]++aH cs.length).length (aF ([]++aH cs.length))/\aY bA w' (.slice K 0 0) h):=dB _ [] cs.length w.heap.size bA (by omega) (by simp) a5.fW.size a5.own
 go_upto_region 2 with(go_at_call 53;refine k.o.mono ?_;rintro e f5 ⟨f3,rfl,dt,df⟩)
 have t:X (jK w f5 (.slice u cs.length aG) (.slice v es.length l) (.slice D L.length n) f3 (aH cs.length++jd cs es 0)):=by
  have ad:=a5.lT df dt;rw[Yn] at ad;show jK _ _ _ _ _ _ _;rw[show jd cs es 0=[] from rfl,WM];exact ad
 clear a5 A B C k dt df;obtain⟨A,B,C⟩:=t.o.cells
 go_wp2_with fail
 clear A B C
 go_loopw [0,19] (λaw d wr=>∃a:Nat,a<=cs.length/\d= .int .i64 (a:Int)/\jK w wr (.slice u cs.length aG) (.slice v es.length l) (.slice D L.length n) aw (aH cs.length++jd cs es a)) (λ_ d _=>cs.length-(V3 d).toNat)
 case atStart=>exact⟨0,VB _,rfl,t.o⟩
 case round=>
  rename F=>wr
  clear t;obtain⟨a,dp,rfl,g⟩:=hrel;have p:=af g;have dO:w.heap.size<=wr.heap.size:=g.fW.size;by_cases z:a<cs.length
  ·have fx:a<es.length:=by rw[en.o];exact z
   have x:=bd.o.below g.fW;obtain rfl:=x.addr (by omega);obtain rfl:=cp.o (by omega);have au:=x.c0 a z;have bo:=x.c1 a z;have bu:X (E<w.heap.size):=cu.o (by omega);have co:=af (cv.o a fx);have be:X (aH cs.length++jd cs es (a+1)=aH cs.length++jd cs es a++aH cs[a].name.size++bytesOf cs[a].name++[byteOf cs[a].kind,byteOf (es.getD a 0)]):=by
    show _=_;rw[yl];unfold Cw;rw[Vk (l:=cs),Vf z];simp
   have cd:=bv.o cs[a] (Vn z);have dD:(aH cs.length++jd cs es a).length<=300:=by
    have bj:=iE cs.length;have b0:=uT (es:=es) bv.o a dp;rw[U8];omega
   have gr:(a:Int)<(es.length:Int):=by omega
   generalize fi:cs[a]=c at*;generalize fm:es.getD a 0=M at*;generalize a7:aH cs.length++jd cs es a=pre at*;clear x fi fm a7 g
   go_upto_region 5 with fail
   have i:=p.o.alloc (.cells #[.string c.name,.int .i64 c.kind] 51);have y:(wr.alloc (.cells #[.string c.name,.int .i64 c.kind] 51)).heap[wr.heap.size]? =I (.cells #[.string c.name,.int .i64 c.kind] 51 (0,0)):=bC _ _;generalize wr.alloc (.cells #[.string c.name,.int .i64 c.kind] 51)=aa at*;have t:=af i;generalize wr.heap.size=bB at*;obtain⟨N,O⟩:=ny y;have k:X (bK 53 #[u0,.int .i64 (c.name.size:Int)] aa λe w'=>∃h,e= .returned h/\w'.ownsRow w.heap.size 5 1 h (pre++aH c.name.size).length (aF (pre++aH c.name.size))/\aY aa w' u0 h):=dB _ pre c.name.size w.heap.size aa (by omega) (by omega) i.fW.size i.own;clear i au bo p
   go_upto_region 6 with(go_at_call 53;refine k.o.mono ?_;rintro e bc ⟨br,rfl,S,G⟩)
   have ar:=t.o.uy G y (by decide);have q:=af (t.o.lT G S);clear S G t k y N O;obtain⟨N,O⟩:=ny ar;have gx:=iE c.name.size;have fA:(pre++aH c.name.size).length<=310:=by rw[U8];omega
   generalize a7:pre++aH c.name.size=s at*;have a6:=q.o.own;have d4:w.heap.size<=bc.heap.size:=q.o.fW.size
   go_upto_region 7 with(at_builtin;refine eP _ Y _ _ 95 9 Y w.heap.size 5 d5 av.underlying95 av.underlying9 dn d1 d2 d3 _ s.length _ Y a6 c.name Y (by unfold Vp;omega) (by omega) d4 ?_;intro bt P cf b8)
   have b5:=q.o.uy b8 ar (by decide);have am:X (jK w P (.slice (I ⟨J,bH,K⟩) cs.length aG) (.slice (I ⟨E,R,K⟩) es.length l) (.slice D L.length n) bt (s++bytesOf c.name)):=q.o.lT b8 (by
    rw[j5] at cf;rw[U8,ak,jb];exact cf)
   clear cf b8 q ar N O a6 d4;obtain⟨N,O⟩:=ny b5;obtain⟨A,B,C⟩:=am.o.cells;have fd:P.cell? ⟨E,R+a,K⟩=I (.int .i64 M):=(am.o.fW.cell (p:=⟨E,R+a,K⟩) bu.o).trans co.o;have gf:bB<P.heap.size:=Va b5;have gg:w.heap.size<P.heap.size:=Va am.o.box;have gi:E<P.heap.size:=by have:=bu.o;omega
   have fB:(s++bytesOf c.name).length<=330:=by rw[U8,ak];omega
   have e0:X (aH cs.length++jd cs es (a+1)=s++bytesOf c.name++[byteOf c.kind,byteOf M]):=by show _=_;rw[be.o]
   have f0:Zs.wrap c.kind=(byteOf c.kind:Int):=mO c.kind;have f1:Zs.wrap M=(byteOf M:Int):=mO M;clear a7 be;generalize s++bytesOf c.name=H at*;have a6:=am.o.own
   go_region_held3 (λm=>m.cell? ⟨bB,1,K⟩=I (.int .i64 c.kind)/\m.cell? ⟨w.heap.size,1,K⟩=I (.slice (I ⟨E,R,K⟩) es.length l)/\m.cell? ⟨E,R+a,K⟩=I (.int .i64 M)) (first|go_keep|exact⟨d6,a9,ba⟩)
    ((refine step_append_lies _ (by rfl) _ _ 95 (by rfl) w.heap.size 5 d5 _ 1 1 av.underlying95 dn d1 d2 d3 Y (by decide) bt H.length _ (by rfl) ((aR a6 (Vi _ _).drew).alloc _) ⟨P.heap.size,0,K⟩ 2 2 [.int .u8 (byteOf c.kind:Int),.int .u8 (byteOf M:Int)] (by rfl) Y (JH P.drew _ _ _) (by intro aw d0;simp at d0;rcases d0 with rfl|rfl<;>rfl) (by decide) (by unfold Vp;omega) (by omega) (by simp;omega) _ Y ?_;intro c5 c2 ck du dl c6 fz;have ca:aY P ck bt (.slice (I ⟨c5,0,K⟩) (H.length+2) c2):=((aY.refl P bt).drewN 1).trans (aY.lU dl c6);have c8:=am.o.uy ca b5 (by decide);have bx:X (jK w ck (.slice (I ⟨J,bH,K⟩) cs.length aG) (.slice (I ⟨E,R,K⟩) es.length l) (.slice D L.length n) (.slice (I ⟨c5,0,K⟩) (H.length+2) c2) (H++[byteOf c.kind,byteOf M])):=am.o.lT ca (by rw[U8,jb];exact du);have d6:=(ny c8).2;have a9:=bx.o.cells.2.1;have ba:ck.cell? ⟨E,R+a,K⟩=I (.int .i64 M):=(bx.o.fW.cell (p:=⟨E,R+a,K⟩) bu.o).trans co.o))
   clear du dl c6 fz ca c8 d6 a9 ba a6 f0 f1 N O A B C fd
   go_wp2_with fail
   go_roundw
   case rel=>exact⟨a+1,by omega,by go_num,by rw[e0.o];exact bx.o⟩
   case measure=>simp[V3];omega
  ·obtain rfl:a=cs.length:=by omega
   have dD:(aH cs.length++jd cs es cs.length).length<=300:=by
    have bj:=iE cs.length;have b0:=uT (es:=es) bv.o cs.length (U7 _);rw[U8];omega
   have eo:X (jO cs es bs=aH cs.length++jd cs es cs.length++aH bs.length++cX cs (bs.take L.length)):=by
    show _=_;rw[a2.o,Wh];unfold jO;simp
   have cx:X (aH cs.length++jd cs es cs.length++aH bs.length=aH cs.length++jd cs es cs.length++aH bs.length++cX cs (bs.take 0)):=by
    show _=_;simp[cX]
   generalize aH cs.length++jd cs es cs.length=pre at*;obtain⟨A,B,C⟩:=g.cells;have k:X (bK 53 #[u0,.int .i64 (L.length:Int)] wr λe w'=>∃h,e= .returned h/\w'.ownsRow w.heap.size 5 1 h (pre++aH L.length).length (aF (pre++aH L.length))/\aY wr w' u0 h):=dB _ pre L.length w.heap.size wr (by omega) (by omega) g.fW.size g.own;clear g
   go_upto_region 10 with(go_at_call 53;refine k.o.mono ?_;rintro e bc ⟨br,rfl,S,G⟩)
   have q:X (jK w bc (.slice u cs.length aG) (.slice v es.length l) (.slice D L.length n) br (pre++aH bs.length++cX cs (bs.take 0))):=by
    have ad:=p.o.lT G S;rw[a2.o] at ad;show jK _ _ _ _ _ _ _;rw[<-cx.o];rw[a2.o];exact ad
   have fA:(pre++aH bs.length).length<=310:=by have:=iE bs.length;rw[U8];omega
   clear S G p k A B C cx cp cu cv;generalize pre++aH bs.length=s at*;obtain⟨A,B,C⟩:=q.o.cells
   go_wp2_with fail
   clear A B C
   go_loopw [0,54] (λaw d wr=>∃a:Nat,a<=L.length/\d= .int .i64 (a:Int)/\jK w wr (.slice u cs.length aG) (.slice v es.length l) (.slice D L.length n) aw (s++cX cs (bs.take a))) (λ_ d _=>L.length-(V3 d).toNat)
   case atStart=>exact⟨0,VB _,rfl,q.o⟩
   case round=>
    rename F=>W
    clear q;obtain⟨a,dp,rfl,g⟩:=hrel;have p:=af g;have dO:w.heap.size<=W.heap.size:=g.fW.size;by_cases z:a<L.length
    ·have ds:a<bs.length:=by rw[<-a2.o];exact z
     have ae:=eq.o.below g.fW;obtain rfl:=ae.addr (by omega);have au:W.cell? ⟨a3,a4+a*2,K⟩=I (.int .i64 (L[a].1.rows:Int)):=ae.c a z 0 _ Y;have bo:W.cell? ⟨a3,a4+a*2+1,K⟩=I L[a].2:=ae.c a z 1 _ Y;have b4:L[a].1=bs[a]:=by
      have:=eQ.o;have b0:(L.map Vy)[a]'(by simpa using z)=bs[a]:=by simp only[this]
      simpa using b0
     have cB:X (w.ownsRow base 102 8 L[a].2 bs[a].chunks.length (ei bs[a].chunks)):=by have:=em.o L[a] (Vn z);rw[b4] at this;exact this
     have Z:=af (cl.o bs[a] (Vn ds));have be:X (s++cX cs (bs.take (a+1))=s++cX cs (bs.take a)++aH bs[a].rows++eY cs bs[a].chunks bs[a].chunks.length):=by
      show _=_;rw[DZ cs bs a ds];unfold eB;simp
     have dD:(s++cX cs (bs.take a)).length<=1540310:=by
      have bj:=x9 (bs:=bs.take a) (λb b3=>cl.o b (XV b3)) fk cs;rw[U8];rw[WB] at bj;omega
     rw[b4] at au;obtain⟨bm,T,V,bl,dr,o⟩:=Ry.cS uZ cB.o;rw[dr] at bo;have eA:=af o;have gn:bs[a].chunks.length<=8:=by have:=Z.o.len;omega
     have dE:=Z.o.rows;generalize b3:bs[a]=b at*;generalize a7:s++cX cs (bs.take a)=pre at*;clear ae b4 b3 a7 g cB o dr
     go_upto_region 13 with fail
     have i:=p.o.alloc (.cells #[.int .i64 (b.rows:Int),.slice bm b.chunks.length bl] 98);have y:(W.alloc (.cells #[.int .i64 (b.rows:Int),.slice bm b.chunks.length bl] 98)).heap[W.heap.size]? =I (.cells #[.int .i64 (b.rows:Int),.slice bm b.chunks.length bl] 98 (0,0)):=bC _ _;generalize W.alloc (.cells #[.int .i64 (b.rows:Int),.slice bm b.chunks.length bl] 98)=aa at*;have t:=af i;generalize W.heap.size=bB at*;obtain⟨N,O⟩:=ny y;have k:X (bK 53 #[u0,.int .i64 (b.rows:Int)] aa λe w'=>∃h,e= .returned h/\w'.ownsRow w.heap.size 5 1 h (pre++aH b.rows).length (aF (pre++aH b.rows))/\aY aa w' u0 h):=dB _ pre b.rows w.heap.size aa dE (by omega) i.fW.size i.own;clear i au bo p dE
     go_upto_region 14 with(go_at_call 53;refine k.o.mono ?_;rintro e bc ⟨br,rfl,S,G⟩)
     have ar:=t.o.uy G y (by decide);have q:X (jK w bc (.slice u cs.length aG) (.slice v es.length l) (.slice (I ⟨a3,a4,K⟩) L.length n) br (pre++aH b.rows++eY cs b.chunks 0)):=by
      have ad:=t.o.lT G S;show jK _ _ _ _ _ _ _;rw[show eY cs b.chunks 0=[] from rfl,WM];exact ad
     clear S G t k y N O;obtain⟨N,O⟩:=ny ar;have fB:(pre++aH b.rows).length<=1540320:=by have:=iE b.rows;rw[U8];omega
     generalize pre++aH b.rows=H at*
     go_wp2_with fail
     clear N O ar
     go_loopw [0,65] (λaw d wr=>∃ch:Nat,ch<=b.chunks.length/\d= .int .i64 (ch:Int)/\jK w wr (.slice u cs.length aG) (.slice v es.length l) (.slice (I ⟨a3,a4,K⟩) L.length n) aw (H++eY cs b.chunks ch)) (λ_ d _=>b.chunks.length-(V3 d).toNat)
     case atStart=>exact⟨0,VB _,rfl,q.o⟩
     case round=>
      rename F=>j
      clear q;obtain⟨d,fv,rfl,g⟩:=hrel;have p:=af g;have dO:w.heap.size<=j.heap.size:=g.fW.size;by_cases r:d<b.chunks.length
      ·have bk:d<cs.length:=by have:=Z.o.len;omega
       have x:=bd.o.below g.fW;obtain rfl:=x.addr (by omega);have f2:=x.c1 d bk;have o:=eA.o.below g.fW;obtain rfl:=o.addr (by omega);have au:j.cell? ⟨T,V+d*8,K⟩=I (.string b.chunks[d].text):=o.c d r 0 _ Y;have f6:j.cell? ⟨T,V+d*8+1,K⟩=I (.bool b.chunks[d].eU.there):=o.c d r 1 _ Y;have f7:j.cell? ⟨T,V+d*8+2,K⟩=I (.bool b.chunks[d].eU.least.null):=o.c d r 2 _ Y;have f8:j.cell? ⟨T,V+d*8+3,K⟩=I (.int .i64 b.chunks[d].eU.least.n):=o.c d r 3 _ Y;have f9:j.cell? ⟨T,V+d*8+4,K⟩=I (.string b.chunks[d].eU.least.s):=o.c d r 4 _ Y;have gb:j.cell? ⟨T,V+d*8+5,K⟩=I (.bool b.chunks[d].eU.most.null):=o.c d r 5 _ Y;have gc:j.cell? ⟨T,V+d*8+6,K⟩=I (.int .i64 b.chunks[d].eU.most.n):=o.c d r 6 _ Y;have ge:j.cell? ⟨T,V+d*8+7,K⟩=I (.string b.chunks[d].eU.most.s):=o.c d r 7 _ Y;have c0:X (H++eY cs b.chunks (d+1)=H++eY cs b.chunks d++aH b.chunks[d].text.size++cw cs[d].kind b.chunks[d].eU):=by
        show _=_;rw[v8];unfold sq;rw[Vk (l:=cs),Vf bk,Vk (l:=b.chunks),Vf r];simp
       have gv:(H++eY cs b.chunks d).length<=1542000:=by
        have bj:=y9 Z.o cs d fv;rw[U8];omega
       have dT:=Z.o.size _ (Vn r);have e2:=af (Z.o.least _ (Vn r));have e3:=af (Z.o.most _ (Vn r));have er:=af (et.o _ (Vn bk));have cn:X (J<w.heap.size):=bd.o.lt (by omega);have cR:=af (bd.o.c1 d bk);have gq:(d:Int)<(cs.length:Int):=by omega
       generalize b.chunks[d]=f at*;generalize cs[d].kind=al at*;generalize H++eY cs b.chunks d=a8 at*;clear x o g f2
       go_upto_region 17 with fail
       have i:=p.o.alloc (.cells (dF f).toArray 102);have y:(j.alloc (.cells (dF f).toArray 102)).heap[j.heap.size]? =I (.cells (dF f).toArray 102 (0,0)):=bC _ _;rw[show(dF f).toArray=#[.string f.text,.bool f.eU.there,.bool f.eU.least.null,.int .i64 f.eU.least.n,.string f.eU.least.s,.bool f.eU.most.null,.int .i64 f.eU.most.n,.string f.eU.most.s] from rfl] at i y;generalize j.alloc (.cells #[.string f.text,.bool f.eU.there,.bool f.eU.least.null,.int .i64 f.eU.least.n,.string f.eU.least.s,.bool f.eU.most.null,.int .i64 f.eU.most.n,.string f.eU.most.s] 102)=bi at*;have bz:=af i;have b6:bi.heap[j.heap.size]? =I (.cells (dF f).toArray 102 (0,0)):=y;generalize j.heap.size=ab at*;have k:X (bK 53 #[u0,.int .i64 (f.text.size:Int)] bi λe w'=>∃h,e= .returned h/\w'.ownsRow w.heap.size 5 1 h (a8++aH f.text.size).length (aF (a8++aH f.text.size))/\aY bi w' u0 h):=dB _ a8 f.text.size w.heap.size bi dT (by omega) i.fW.size i.own;clear i au f6 f7 f8 f9 gb gc ge p dT y;obtain⟨⟨e4,-⟩,-⟩:=kD b6
       go_upto_region 18 with(go_at_call 53;refine k.o.mono ?_;rintro e a1 ⟨bb,rfl,dv,cb⟩)
       have b7:=bz.o.uy cb b6 (by decide);have ao:=af (bz.o.lT cb dv);have e1:=af c0.o;have gt:(a8++aH f.text.size).length<=1542010:=by have:=iE f.text.size;rw[U8];omega
       clear dv cb bz k b6 e4 c0;generalize a8++aH f.text.size=ci at*;have el:X (bK 54 #[bb,.agg #[.bool f.eU.there,.bool f.eU.least.null,.int .i64 f.eU.least.n,.string f.eU.least.s,.bool f.eU.most.null,.int .i64 f.eU.most.n,.string f.eU.most.s],.int .i64 al] a1.drew λe w'=>∃a0,e= .returned a0/\w'.ownsRow w.heap.size 5 1 a0 (ci++cw al f.eU).length (aF (ci++cw al f.eU))/\aY a1.drew w' bb a0):=
        uD bb ci f.eU al w.heap.size a1.drew er.o e2.o e3.o (by omega) ao.o.fW.size ao.o.drew.own
       obtain⟨⟨-,e5,e6,e7,e8,e9,fa,fb⟩,-⟩:=kD b7;obtain⟨A,B,C⟩:=ao.o.cells;have fe:a1.cell? ⟨J,bH+d*2+1,K⟩=I (.int .i64 al):=(ao.o.fW.cell (p:=⟨J,bH+d*2+1,K⟩) cn.o).trans cR.o
       go_region_held3 (λm=>m.cell? ⟨ab,1,K⟩=I (.bool f.eU.there)/\m.cell? ⟨ab,2,K⟩=I (.bool f.eU.least.null)/\m.cell? ⟨ab,3,K⟩=I (.int .i64 f.eU.least.n)/\m.cell? ⟨ab,4,K⟩=I (.string f.eU.least.s)/\m.cell? ⟨ab,5,K⟩=I (.bool f.eU.most.null)/\m.cell? ⟨ab,6,K⟩=I (.int .i64 f.eU.most.n)/\m.cell? ⟨ab,7,K⟩=I (.string f.eU.most.s)/\m.cell? ⟨w.heap.size,0,K⟩=I (.slice (I ⟨J,bH,K⟩) cs.length aG)/\m.cell? ⟨J,bH+d*2+1,K⟩=I (.int .i64 al)) (first|go_keep|exact⟨a9,ba,d7,d8,d9,eb,ec,ee,ef⟩)
        ((go_at_call 54;refine el.o.mono ?_;rintro e eh ⟨f4,rfl,dC,dk⟩;have cc:aY a1 eh bb f4:=((aY.refl a1 bb).drewN 1).trans dk;have c9:=ao.o.uy cc b7 (by decide);have Q:=af (ao.o.lT cc dC);obtain⟨⟨-,a9,ba,d7,d8,d9,eb,ec⟩,-⟩:=kD c9;have ee:=Q.o.cells.1;have ef:eh.cell? ⟨J,bH+d*2+1,K⟩=I (.int .i64 al):=(Q.o.fW.cell (p:=⟨J,bH+d*2+1,K⟩) cn.o).trans cR.o))
       clear dC dk cc c9 a9 ba d7 d8 d9 eb ec ee ef e5 e6 e7 e8 e9 fa fb A B C fe b7
       go_wp2_with fail
       go_roundw
       case rel=>exact⟨d+1,by omega,by go_num,by rw[e1.o];exact Q.o⟩
       case measure=>simp[V3];omega
      ·obtain rfl:d=b.chunks.length:=by omega
       have Q:X (jK w j (.slice u cs.length aG) (.slice v es.length l) (.slice (I ⟨a3,a4,K⟩) L.length n) u0 (s++cX cs (bs.take (a+1)))):=by show jK _ _ _ _ _ _ _;rw[be.o];exact g
       clear g p
       go_wp2_with fail
       go_roundw
       case rel=>exact⟨a+1,by omega,by go_num,Q.o⟩
       case measure=>simp[V3];omega
    ·obtain rfl:a=L.length:=by omega
     have Q:X (jK w W (.slice u cs.length aG) (.slice v es.length l) (.slice D L.length n) u0 (jO cs es bs)):=by show jK _ _ _ _ _ _ _;rw[eo.o];exact g
     clear g p
     go_wp2_with fail
     go_ret;exact⟨_,rfl,Q.o.own,Q.o.fW⟩
def At (w:F)(base:Nat)(v:U)(pre:List Nat):Prop:=
 w.ownsRow base 5 1 v pre.length (aF pre)\/(pre=dQ/\∃a,v= .slice (I ⟨a,0,K⟩) 4 4/\base<=a/\w.heap[a]? =I (.cells (aF dQ).toArray 5 (4,5)))
def At.lt{w:F}{base:Nat}{v:U}{pre:List Nat}(h:At w base v pre):∀g,v.ownBlock=I g->base<=g/\g<w.heap.size:=by
 rcases h with h|⟨-,g,rfl,b,c⟩
 ·exact h.lt
 ·intro d a;simp[Wz] at a;subst a;exact⟨b,(U4.1 c).1⟩
def At.uy{w:F}{base:Nat}{v:U}{pre:List Nat}(h:At w base v pre){g:Nat}{cs:Array U}{t:Vc}(b:w.heap[g]? =I (.cells cs t (0,0)))(d:t≠5):I g≠v.ownBlock:=by
 rcases h with h|⟨-,e,rfl,-,c⟩
 ·exact bh h b d
 ·intro a;simp[Wz] at a;subst a;rw[b] at c;simp at c
def At.below{w w':F}{base:Nat}{v:U}{pre:List Nat}(h:At w base v pre)(b:aQ w w'):At w' base v pre:=by
 rcases h with h|⟨d,c,e,f,a⟩
 ·exact .inl (aR h b)
 ·exact .inr ⟨d,c,e,f,(b.block _ (U4.1 a).1).trans a⟩
def yQ{w:F}{g:Nat}(h:w.heap[g]? =I (.cells (aF dQ).toArray 5 (4,5))):∀j u,(aF dQ)[j]? =I u->w.cell? ((⟨g,0,K⟩:VI).add j)=I u:=by
 have:=World.news_of_block h;simpa using this
def r7{P:Vb}(w:F){ops:Array Ww}{rest:List Ww}{o:Ww}{a:Xa}{Q:Exit->Xa->F->Prop}(j:o.guard=K)(sl x:Operand)(t u:Vc)
 (m:o.op= .call {callee:=.builtin .append,args:= #[sl,x],argTypes:= #[t,u]})
 (base:Nat) (i:TypeInfo) (q:P.underlying t=I (.slice 5)) (r:P.underlying u=I .string) (k:P.info? 5=I i) (z:i.zero=I (.int .u8 0))
 (p:i.size=1) (g:i.bytes=1) (v:U) (pre:List Nat) (n:a.eval sl=v) (d:At w base v pre) (s:ByteArray) (y:a.eval x= .string s) (S:0<s.size)
 (b:pre.length+s.size<=Vp) (C:pre.length+s.size<=140737488355328) (f:base<=w.heap.size)
 (h:∀e w',w'.ownsRow base 5 1 e (pre.length+s.size) (aF pre++Lib.strCells s)->aY w w' v e->wpList P ops Q rest (a.put o.dst e) w'):wpList P ops Q (o::rest) a w:=by
 rcases d with d|⟨rfl,A,rfl,R,E⟩
 ·exact eP w j sl x t u m base 5 i q r k z p g v pre.length _ n d s y b C f h
 ·refine wpList_plain j λN B=>?_;have O:4+s.size<=9223372036854775807:=by have:dQ.length=4:=rfl;unfold Vp at b;omega
  have J:=Lib.run_append_grow_string (P:=P) w t u o.type 5 i (.int .u8 0) q r k z ⟨A,0,K⟩ 4 4 (aF dQ) (by rw[p];rfl) (yQ E) s (by omega) (by omega) (by rw[g];exact growslice_fits (by omega) (by have:dQ.length=4:=rfl;omega));unfold Oper.wp Vw;simp only[m,resolve,invoke,builtin,XW,Sem.run_pure,Result.andThen_ok,List.map_toArray,Yy,List.map_nil,n,y,J];refine B _ _ (h _ _ ?_ ?_)
  ·have G:=grownCap_ge w (4+s.size) 4 5;have D:=grownCap_le_maxLen w (4+s.size) 4 5 b;have l:(aF dQ++Lib.strCells s).length=(4+s.size)*1:=by rw[U8,Lib.strCells_length,Nat.mul_one];rfl
   refine⟨l,.inr ⟨w.heap.size,_,_,rfl,f,Xf w.drew _,G,D,?_,?_⟩⟩
   ·have L:(Xm Zs 0).cells.size=1:=rfl;have H:(aF dQ).length=4:=rfl;simp only[Array.size_append,List.size_toArray,size_zeroCells,L,H,Lib.strCells_length];omega
   ·simp only[Array.toList_append,Vu];rw[<-Vu];show List.take ((4+s.size)*1) _=_;rw[<-l];exact List.take_left
  ·refine⟨⟨rfl,rfl,rfl,by simp,λM c _=>alloc_old (w:=w.drew) _ c Y⟩,λM c=>?_⟩;simp[Wz] at c;exact .inr (by omega)
def xq{P:Vb}(w:F){ops:Array Ww}{rest:List Ww}{o:Ww}{a:Xa}{Q:Exit->Xa->F->Prop}(A:o.guard=K)(sl x:Operand)(t:Vc)
 (D:o.op= .call {callee:=.builtin .append,args:= #[sl,x],argTypes:= #[t,t]})
 (base:Nat) (i:TypeInfo) (H:P.underlying t=I (.slice 5)) (B:P.info? 5=I i) (L:i.zero=I (.int .u8 0))
 (G:i.size=1) (z:i.bytes=1) (v:U) (pre:List Nat) (E:a.eval sl=v) (p:At w base v pre) (l:VI) (c:Nat) (b:List Nat) (J:a.eval x= .slice (I l) b.length c) (S:0<b.length)
 (hc:∀j u,(aF b)[j]? =I u->w.cell? (l.add j)=I u)
 (N:pre.length+b.length<=Vp) (W:pre.length+b.length<=140737488355328) (y:base<=w.heap.size)
 (h:∀d w',w'.ownsRow base 5 1 d (pre++b).length (aF (pre++b))->aY w w' v d->wpList P ops Q rest (a.put o.dst d) w'):wpList P ops Q (o::rest) a w:=by
 have r:∀u∈aF b,u.oneCell'=Z:=by
  intro u T;obtain⟨aa,-,rfl⟩:=Wu.1 T;rfl
 have C:(aF b).length=b.length*1:=by simp[aF]
 have q:∀(d:U) (w':F),w'.ownsRow base 5 1 d (pre.length+b.length) (aF pre++aF b)->w'.ownsRow base 5 1 d (pre++b).length (aF (pre++b)):=λd w' R=>by
  rw[U8,jb];exact R
 rcases p with p|⟨rfl,M,rfl,s,O⟩
 ·refine aZ w A sl x t D base 5 i (.int .u8 0) 1 1 H B L G z Y (by decide) v pre.length _ E p l b.length c (aF b) J S C hc r N (by omega) y ?_;intro d w' m g;refine h d w' (q _ _ m) ?_;rcases g with⟨k,n⟩|⟨k,n⟩
  ·exact⟨⟨k.os,k.tape,k.output,k.size,λf e _=>k.block f e (by simp)⟩,λf e=>.inr (n.lt f e).1⟩
  ·exact⟨n,λf e=>.inl (by rw[<-k];exact e)⟩
 ·have X:dQ.length=4:=rfl;refine wpList_append_grows w A sl x t D 5 i (.int .u8 0) 1 1 H B L G z Y (by decide) (I ⟨M,0,K⟩) 4 4 (aF dQ) E (λh=>by cases h) Y (λV s=>by cases s;exact yQ O) l b.length c (aF b) J C hc r (by omega) (by omega) (by omega) ?_;intro d w' m g;refine h d w' (q _ _ (bE m y)) ⟨⟨g.os,g.tape,g.output,g.size,λf e _=>g.block f e (by simp)⟩,λf e=>.inr (m.lt f e).1⟩
structure oW(w W:F)(cv ev bv u:U)(pre:List Nat):Prop where
 box:W.heap[w.heap.size]? =I (.cells #[cv,ev,bv] 66 (0,0))
 own:At W w.heap.size u pre
 fW:aQ w W
def oW.below{w b c:F}{e f d u:U}{pre:List Nat}(h:oW w b e f d u pre)(a:aQ b c):oW w c e f d u pre:=
 ⟨(a.block _ (Va h.box)).trans h.box,h.own.below a,h.fW.trans (a.mono h.fW.size)⟩
def oW.alloc{w a:F}{c d b u:U}{pre:List Nat}(h:oW w a c d b u pre)(o:Yk):oW w (a.alloc o) c d b u pre:=h.below ((Vi _ _).alloc (U7 _) o)
def oW.lT{w e b:F}{g i f u d:U}{pre c:List Nat}(h:oW w e g i f u pre)(a:aY e b u d)(k:b.ownsRow w.heap.size 5 1 d c.length (aF c)):oW w b g i f d c:=
 ⟨(a.gZ.block _ (Va h.box) (h.own.uy h.box (by decide))).trans h.box,.inl k,h.fW.trans (a.below (λj a=>(h.own.lt j a).1) h.fW.size)⟩
def oW.cells{w a:F}{c d b u:U}{pre:List Nat}(h:oW w a c d b u pre):cD a w.heap.size 0 c/\cD a w.heap.size 1 d/\cD a w.heap.size 2 b:=bW h.box
def FZ(n:Nat):0<(aH n).length:=by
 unfold aH jl
 split<;>simp
def OH(l:List j8)(k:Nat):(b9 (l.take k)).length<=(b9 l).length:=by
 have a:b9 l=b9 (l.take k)++b9 (l.drop k):=by
  unfold b9;rw[<-Wi,X4]
 rw[a,U8];omega
def Mv(bs:List Bd)(k:Nat):(bO (bs.take k)).length<=(bO bs).length:=by
 have a:bO bs=bO (bs.take k)++bO (bs.drop k):=by
  unfold bO;rw[<-Wi,X4]
 rw[a,U8];omega
def Nm(cs:List bQ)(es:List Int)(bs:List Bd)(O P N:U)(w:F)(b8:cs.length<=8)(cc:es.length=cs.length)(a3:∀c∈cs,c.name.size<=16)(cn:∀c∈cs,c.kind=1\/c.kind=2\/c.kind=3)(dl:bs.length<=2000)(R:∀b∈bs,DO cs.length b)(cB:∀b∈bs,∀c∈b.chunks,0<c.text.size)(b6:(bO bs).length<=10000000000)
 (ca:Cd w O cs) (cd:uv w P es) (b5:∃base L,L.map Vy=bs/\iY w base N L):
 bK 22 #[.agg #[O,P,N]] w λe w'=>e= .returned (.string (strOf (yx cs es bs)))/\aQ w w':=by
 obtain⟨bb,a2,a7,a8,a9⟩:=Wo av.tQ;have bt:X (∀y,aQ w y->bK 34 #[aM,.agg #[O,P,N]] y λe w'=>∃D,e= .returned D/\w'.ownsRow y.heap.size 5 1 D (jO cs es bs).length (aF (jO cs es bs))/\aQ y w'):=λy aw=>
  uF cs es bs O P N y b8 cc a3 cn dl R (ca.below aw) (cd.lower aw) (by obtain⟨base,L,ao,B⟩:=b5;exact⟨base,L,ao,B.below aw⟩)
 have c2:X ((jO cs es bs).length<=2000000/\0<(jO cs es bs).length):=by
  have ao:=iE cs.length;have B:=uT (es:=es) a3 cs.length (U7 _);have df:=iE bs.length;have em:=x9 R b8 cs;have en:=FZ cs.length;show _/\_;unfold jO;simp only[U8];omega
 obtain⟨base,L,au,ar⟩:=b5;have E:=Ry.cS rf ar.own;obtain⟨M,z,A,n,rfl,v⟩:=E;obtain⟨o,eb,bH,aG,rfl,eo,-⟩:=ca;obtain⟨q,ec,ee,p,rfl,-,-,-⟩:=cd;have bv:=af au;have am:X (L.length=bs.length):=by show _=_;rw[<-au,VQ]
 have bu:=af v;have bo:=af ar.each;have bB:=af cB;have bm:=af R;have al:=af b6;have e1:L.length<=2000:=by have:=am.o;omega
 have du:∀(H:Yk) (x:Array U) (Z c:Nat),(convert 95 95 (.slice (I ⟨w.heap.size+1,0,K⟩) Z c)).run (ax U1) ((w.alloc H).alloc (.cells x 5))= .ok (.slice (I ⟨w.heap.size+1,0,K⟩) Z c) ((w.alloc H).alloc (.cells x 5 (x.size,x.size+1))):=λH x Z c=>by
  have dd:=Lib.run_convert_bytes_const (P:=(ax U1)) (w.alloc H) 95 5 x Z c av.underlying95 av.underlying5;rwa [show(w.alloc H).heap.size=w.heap.size+1 by simp] at dd
 clear cc a3 cn R au v ar cB b6;go_enter av.func22,Tryz.ntmps22
 go_upto_region 2 with fail
 clear du;have Q:oW w ((w.alloc (.cells #[.slice o cs.length aG,.slice q es.length p,.slice M L.length n] 66)).alloc (.cells (aF dQ).toArray 5 (4,5))) (.slice o cs.length aG) (.slice q es.length p) (.slice M L.length n) (.slice (I ⟨w.heap.size+1,0,K⟩) 4 4) (dQ++bO (bs.take 0)):=
  ⟨alloc_old _ (by simp) (bC w _),.inr ⟨by simp[bO],w.heap.size+1,rfl,by omega,kw w _ _⟩,kA _ _⟩
 rw[show(aF dQ).toArray=#[.int .u8 83,.int .u8 84,.int .u8 82,.int .u8 65] from rfl] at Q;generalize (w.alloc (.cells #[.slice o cs.length aG,.slice q es.length p,.slice M L.length n] 66)).alloc (.cells #[.int .u8 83,.int .u8 84,.int .u8 82,.int .u8 65] 5 (4,5))=d9 at*;obtain⟨bd,be,bi⟩:=Q.cells;have b1:=af Q;clear Q
 go_wp2_with fail
 clear bd be bi
 go_loopw [3,14] (λbj a wr=>∃d:Nat,d<=L.length/\a= .int .i64 (d:Int)/\oW w wr (.slice o cs.length aG) (.slice q es.length p) (.slice M L.length n) bj (dQ++bO (bs.take d))) (λ_ a _=>L.length-(V3 a).toNat)
 case atStart=>exact⟨0,VB _,rfl,b1.o⟩
 case round=>
  clear b1;obtain⟨d,eQ,rfl,g⟩:=hrel;have j:=af g;have dr:w.heap.size<=wr.heap.size:=g.fW.size;by_cases G:d<L.length
  ·have S:d<bs.length:=by rw[<-am.o];exact G
   have v:=bu.o.below g.fW;obtain rfl:=v.addr (by omega);have aa:cD wr z (A+d*2) (.int .i64 (L[d].1.rows:Int)):=v.c d G 0 _ Y;have c0:cD wr z (A+d*2+1) L[d].2:=v.c d G 1 _ Y;have a0:L[d].1=bs[d]:=by
    have:=bv.o;have B:(L.map Vy)[d]'(by simpa using G)=bs[d]:=by simp only[this]
    simpa using B
   have bA:X (w.ownsRow base 102 8 L[d].2 bs[d].chunks.length (ei bs[d].chunks)):=by have:=bo.o L[d] (Vn G);rw[a0] at this;exact this
   have c5:X (dQ++bO (bs.take (d+1))=dQ++bO (bs.take d)++b9 (bs[d].chunks.take bs[d].chunks.length)):=by
    show _=_;rw[yc bs d S,Wh,Vu]
   have c6:=af (bB.o _ (Vn S));have bx:X (∀a,(dQ++bO (bs.take d)++b9 (bs[d].chunks.take a)).length<=10000000004):=λa=>by
    have ao:=OH bs[d].chunks a;have B:=Mv bs (d+1);rw[yc bs d S,U8] at B;have df:=al.o;rw[U8,U8];have:dQ.length=4:=rfl;omega
   have eq:bs[d].chunks.length<=8:=by have:=(bm.o bs[d] (Vn S)).len;omega
   rw[a0] at aa;obtain⟨W,s,t,V,co,i⟩:=Ry.cS uZ bA.o;rw[co] at c0;have c3:=af i;generalize dk:bs[d]=b at*;generalize a6:dQ++bO (bs.take d)=pre at*;clear v a0 dk a6 g bA i co
   go_upto_region 5 with fail
   have r:=j.o.alloc (.cells #[.int .i64 (b.rows:Int),.slice W b.chunks.length V] 98);have C:(wr.alloc (.cells #[.int .i64 (b.rows:Int),.slice W b.chunks.length V] 98)).heap[wr.heap.size]? =I (.cells #[.int .i64 (b.rows:Int),.slice W b.chunks.length V] 98 (0,0)):=bC _ _;generalize wr.alloc (.cells #[.int .i64 (b.rows:Int),.slice W b.chunks.length V] 98)=da at*;have u:X (oW w da (.slice o cs.length aG) (.slice q es.length p) (.slice (I ⟨z,A,K⟩) L.length n) u3 (pre++b9 (b.chunks.take 0))):=by
    show oW _ _ _ _ _ _ _;rw[show b9 (b.chunks.take 0)=[] from rfl,WM];exact r
   generalize wr.heap.size=eh at*;obtain⟨dC,dD⟩:=ny C;clear r aa c0 j
   go_wp2_with fail
   clear dC dD C
   go_loopw [3,21] (λbj a wr=>∃ba:Nat,ba<=b.chunks.length/\a= .int .i64 (ba:Int)/\oW w wr (.slice o cs.length aG) (.slice q es.length p) (.slice (I ⟨z,A,K⟩) L.length n) bj (pre++b9 (b.chunks.take ba))) (λ_ a _=>b.chunks.length-(V3 a).toNat)
   case atStart=>exact⟨0,VB _,rfl,u.o⟩
   case round=>
    rename F=>h
    clear u;obtain⟨a,eA,rfl,g⟩:=hrel;have j:=af g;have dr:w.heap.size<=h.heap.size:=g.fW.size;by_cases l:a<b.chunks.length
    ·have i:=c3.o.below g.fW;obtain rfl:=i.addr (by omega);have aa:cD h s (t+a*8) (.string b.chunks[a].text):=i.c a l 0 _ Y;have d2:cD h s (t+a*8+1) (.bool b.chunks[a].eU.there):=i.c a l 1 _ Y;have d3:cD h s (t+a*8+2) (.bool b.chunks[a].eU.least.null):=i.c a l 2 _ Y;have d4:cD h s (t+a*8+3) (.int .i64 b.chunks[a].eU.least.n):=i.c a l 3 _ Y;have d5:cD h s (t+a*8+4) (.string b.chunks[a].eU.least.s):=i.c a l 4 _ Y;have d6:cD h s (t+a*8+5) (.bool b.chunks[a].eU.most.null):=i.c a l 5 _ Y;have d7:cD h s (t+a*8+6) (.int .i64 b.chunks[a].eU.most.n):=i.c a l 6 _ Y;have d8:cD h s (t+a*8+7) (.string b.chunks[a].eU.most.s):=i.c a l 7 _ Y;have b0:X (pre++b9 (b.chunks.take (a+1))=pre++b9 (b.chunks.take a)++bytesOf b.chunks[a].text):=by
      show _=_;rw[IC b.chunks a l,Vu]
     have e0:=bx.o a;have dp:=bx.o (a+1);rw[b0.o,U8,ak] at dp;have dq:=c6.o _ (Vn l);generalize b.chunks[a]=f at*;generalize pre++b9 (b.chunks.take a)=dv at*;clear i g
     go_upto_region 8 with fail
     have r:=j.o.alloc (.cells (dF f).toArray 102);have C:(h.alloc (.cells (dF f).toArray 102)).heap[h.heap.size]? =I (.cells (dF f).toArray 102 (0,0)):=bC _ _;rw[show(dF f).toArray=#[.string f.text,.bool f.eU.there,.bool f.eU.least.null,.int .i64 f.eU.least.n,.string f.eU.least.s,.bool f.eU.most.null,.int .i64 f.eU.most.n,.string f.eU.most.s] from rfl] at r C;generalize h.alloc (.cells #[.string f.text,.bool f.eU.there,.bool f.eU.least.null,.int .i64 f.eU.least.n,.string f.eU.least.s,.bool f.eU.most.null,.int .i64 f.eU.most.n,.string f.eU.most.s] 102)=b2 at*;have c7:=af r;have cb:b2.heap[h.heap.size]? =I (.cells (dF f).toArray 102 (0,0)):=C;have ds:w.heap.size<=b2.heap.size:=r.fW.size;have cx:=r.own;generalize h.heap.size=el at*;clear r aa d2 d3 d4 d5 d6 d7 d8 j C;obtain⟨⟨db,-⟩,-⟩:=kD cb
     go_wp2_with (at_builtin;refine r7 _ Y _ _ 95 9 Y w.heap.size bb av.underlying95 av.underlying9 a2 a7 a8 a9 _ dv Y cx f.text Y dq (by unfold Vp;omega) (by omega) ds ?_;intro dO d1 a4 cl)
     have c8:X (oW w d1 (.slice o cs.length aG) (.slice q es.length p) (.slice (I ⟨z,A,K⟩) L.length n) dO (pre++b9 (b.chunks.take (a+1)))):=c7.o.lT cl (by
      rw[j5] at a4;rw[b0.o,U8,ak,jb];exact a4)
     clear a4 cl cx db cb
     go_roundw
     case rel=>exact⟨a+1,by omega,by go_num,c8.o⟩
     case measure=>simp[V3];omega
    ·obtain rfl:a=b.chunks.length:=by omega
     have c9:X (oW w h (.slice o cs.length aG) (.slice q es.length p) (.slice (I ⟨z,A,K⟩) L.length n) u3 (dQ++bO (bs.take (d+1)))):=by show oW _ _ _ _ _ _ _;rw[c5.o];exact g
     clear g j
     go_wp2_with fail
     go_roundw
     case rel=>exact⟨d+1,by omega,by go_num,c9.o⟩
     case measure=>simp[V3];omega
  ·obtain rfl:d=L.length:=by omega
   have ch:dQ++bO (bs.take L.length)=dQ++bO bs:=by rw[am.o,Wh]
   rw[ch] at g;have br:X (yx cs es bs=dQ++bO bs++jO cs es bs++iJ (jO cs es bs).length++bytesOf ⟨#[83,84,82,65]⟩):=by
    show _=_;rw[show bytesOf ⟨#[83,84,82,65]⟩=dQ from rfl];unfold yx;simp only[Vu]
   have e4:(dQ++bO bs).length<=10000000004:=by
    have:=al.o;rw[U8];have:dQ.length=4:=rfl;omega
   obtain⟨et,cf⟩:=c2.o;generalize jO cs es bs=k at*;generalize dQ++bO bs=pre at*;have j:=af g;obtain⟨bd,be,bi⟩:=g.cells;clear g ch bv bu bo bB bm al
   go_upto_region 12 with(go_at_call 34;refine(bt.o _ j.o.fW).mono ?_;rintro e dT ⟨ef,rfl,a5,b4⟩)
   have u:=af (j.o.below b4);obtain⟨b3,dc,rfl,-,-⟩:=a5.form cf;have b7:=a5.cells (g:=b3) Y;have cp:=u.o.own;have dt:w.heap.size<=dT.heap.size:=u.o.fW.size;clear bd be bi b4 j bt
   go_upto_region 13 with(at_builtin;refine xq _ Y _ _ 95 Y w.heap.size bb av.underlying95 a2 a7 a8 a9 _ pre Y cp ⟨b3,0,K⟩ dc k Y cf b7 (by unfold Vp;omega) (by omega) dt ?_;intro ab ad T ci)
   have a1:aQ w ad:=(u.o.lT ci T).fW;have e2:(pre++k).length<=10002000004:=by rw[U8];omega
   have c1:=af br.o;clear b7 cp ci u a5 br;generalize a6:pre++k=J at*;have bk:X (bK 35 #[ab,.int .i64 (k.length:Int)] ad λe w'=>∃D,e= .returned D/\w'.ownsRow w.heap.size 5 1 D (J++iJ k.length).length (aF (J++iJ k.length))/\aY ad w' ab D):=uG ab J k.length w.heap.size ad (by omega) (by omega) a1.size T;have ae:=af a1;have bz:X (∀m,ab.ownBlock=I m->w.heap.size<=m):=λm E=>(T.lt m E).1;clear a6 T a1
   go_upto_region 14 with(go_at_call 35;refine bk.o.mono ?_;rintro e d0 ⟨dE,rfl,cu,ck⟩)
   have bl:=af (ae.o.trans (ck.below bz.o ae.o.size));have cR:w.heap.size<=d0.heap.size:=bl.o.size;have c4:X (∀m,dE.ownBlock=I m->w.heap.size<=m):=λm E=>(cu.lt m E).1;have e3:(J++iJ k.length).length<=10002000008:=by rw[U8];have:(iJ k.length).length=4:=rfl;omega
   clear ck bk ae bz;generalize J++iJ k.length=bc at*
   go_wp2_with (at_builtin;refine eP _ Y _ _ 95 9 Y w.heap.size 5 bb av.underlying95 av.underlying9 a2 a7 a8 a9 _ bc.length _ Y cu ⟨#[83,84,82,65]⟩ Y (show bc.length+4<=Vp by unfold Vp;omega) (show bc.length+4<=140737488355328 by omega) cR ?_;intro e5 e6 cv dn;rw[j5,<-jb] at cv;have er:=qP cv (by rw[U8,ak]))
   go_ret;rw[c1.o];exact⟨rfl,bl.o.trans (dn.below c4.o cR)⟩
def Ef{ps:List Nat}{k:Nat}(h:mb 0 (ps.take k)=K):mb 0 ps=K:=by rw[uQ ps k,h];rfl
def Px{ps:List Nat}{k t n:Nat}(h:mb 0 (ps.take k)=I t)(b:n<t):mb 0 ps≠I n:=by
 rw[uQ ps k,h];intro a;have:=yf (show mb t (ps.drop k)=I n from a);omega
def wU(s:ByteArray)(r p n:Nat)(z:U)(ps:List Nat)(w:F)(S:n<=100)(R:ps.length<=100)(D:∀q∈ps,q<65536)(H:uv w z (jQ ps))(h:w.heap[r]? =I (bY s p)):
 bK 126 #[(aP r),z,.int .i64 n] w λe w'=>w'=w/\((e= .returned (.tuple #[])/\mb 0 ps=I n)\/(∃q,e= .panicked (ez q)/\mb 0 ps≠I n)):=by
 have v:=af h;obtain⟨L,B,J,M,rfl,x,C,y⟩:=H;have i:(jQ ps).length=ps.length:=by simp[jQ]
 rw[i] at x C ⊢;have A:X (∀f,(m:f<ps.length)->cD w B (J+f) (.int .i64 (ps[f]:Int))):=λf m=>by
  have:=y f (by rw[i];exact m);rw[fp (by rw[i];exact m)] at this;simpa [jQ] using this
 clear y h i;go_enter av.func126,Tryz.ntmps126
 go_wp2_with fail
 go_loopw [6,11] (λK t wr=>∃a b:Nat,a<=ps.length/\t= .int .i64 (a:Int)/\K= .int .i64 (b:Int)/\b<=n/\mb 0 (ps.take a)=I b/\wr=w) (λ_ t _=>ps.length-(V3 t).toNat)
 case atStart=>exact⟨0,0,VB _,rfl,rfl,VB _,rfl,rfl⟩
 case round=>
  obtain⟨a,b,Q,rfl,rfl,G,d,rfl⟩:=hrel;have j:=af d;clear d;by_cases o:a<ps.length
  ·obtain rfl:=x (by omega);have P:=A.o a o;have g:=af (Ay ps a o j.o);have V:=D _ (Vn o);generalize ps[a]=q at*;by_cases O:b<q\/n<=q
   ·have k:X (mb 0 ps≠I n):=by
     by_cases N:b<q
     ·have c:=g.o;rw[if_neg (by omega),if_neg (by omega)] at c;show _≠_;rw[Ef c];simp
     ·have c:=g.o;rw[if_neg (by omega),if_pos (by omega)] at c;exact Px c (by omega)
    go_wp2_with (go_at_call 73;refine(bU r p s _ v.o).mono ?_;rintro e w' ⟨rfl,rfl⟩)
    all_goals exact⟨rfl,rfl,.inr ⟨_,rfl,k.o⟩⟩
   ·by_cases E:q=b
    ·subst E;have l:X (mb 0 (ps.take (a+1))=I (q+1)):=by
      have c:=g.o;rw[if_neg (by omega),if_pos Y] at c;exact c
     go_wp2
     go_roundw
     case rel=>exact⟨a+1,q+1,by omega,by go_num,by go_num,by omega,l.o,by trivial⟩
     case measure=>simp[V3];omega
    ·have l:X (mb 0 (ps.take (a+1))=I b):=by
      have c:=g.o;rw[if_pos (by omega)] at c;exact c
     have T:((q:Int)==(b:Int))=U5:=by simp;omega
     go_wp2
     go_roundw
     case rel=>exact⟨a+1,b,by omega,by go_num,rfl,G,l.o,by trivial⟩
     case measure=>simp[V3];omega
  ·obtain rfl:a=ps.length:=by omega
   have d:=j.o;rw[Wh] at d;have u:=af d;clear d j;by_cases W:b<n
   ·have k:X (mb 0 ps≠I n):=by
     show _≠_;rw[u.o];simp;omega
    go_wp2_with (go_at_call 73;refine(bU r p s _ v.o).mono ?_;rintro e w' ⟨rfl,rfl⟩)
    exact⟨rfl,rfl,.inr ⟨_,rfl,k.o⟩⟩
   ·obtain rfl:b=n:=by omega
    go_wp2
    go_end0
    exact⟨rfl,.inl ⟨rfl,u.o⟩⟩
def kE{k:Int}{s:ByteArray}{p cn:Nat}{L:List aC}(m:cn<=100)(hL:L.length=cn)(i:∀x∈L,VK k x)(a:ai (bytesOf s) p (eR k L)):
 ∃(d:List aC) (ps:List Nat),d.length<=cn/\(∀x∈d,VK k x)/\d.Nodup/\ps.length=cn/\mb 0 ps=I d.length/\ai (bytesOf s) p (aH d.length)/\ai (bytesOf s) (p+(aH d.length).length) (aV k d)/\
  ai (bytesOf s) (p+(aH d.length).length+(aV k d).length) (dX (wid d.length) ps):=by
 obtain⟨c,e,l⟩:=vT L ⟨U5,0,⟨#[]⟩⟩;obtain⟨f,g,h,b⟩:=yp L L.length (U7 _);rw[Wh] at f g h b;unfold eR at a;rw[ap,ap] at a;exact⟨(dfold L).1,(dfold L).2,by omega,λx j=>i x (b x j),c,by omega,e,a.1,a.2.1,a.2.2⟩
def xa(k:Int)(a3:k=1\/k=2\/k=3)(s:ByteArray)(r p cn:Nat)(w:F)(a5:s.size<=Vp)(G:cn<=100)(b3:p<=s.size)(h:w.heap[r]? =I (bY s p)):
 bK 124 #[(aP r),.int .i64 k,.int .i64 cn] w λe w'=>Kp r w w'/\
  ((∃(d:List aC) (v:U),e= .returned v/\d.length<=cn/\(∀x∈d,VK k x)/\d.Nodup/\ai (bytesOf s) p (aH d.length)/\ai (bytesOf s) (p+(aH d.length).length) (aV k d)/\
    (∀D:List aC,D.length=d.length->(∀x∈D,VK k x)->ai (bytesOf s) (p+(aH d.length).length) (aV k D)->D=d)/\p+(aH d.length).length+(aV k d).length<=s.size/\
    w'.heap[r]? =I (bY s (p+(aH d.length).length+(aV k d).length))/\w'.ownsRow w.heap.size 54 3 v d.length (az d))\/
   (∃q,e= .panicked (ez q)/\∀L:List aC,L.length=cn->(∀x∈L,VK k x)->¬ai (bytesOf s) p (eR k L))):=by
 have cu:=Va h;have bd:=af h;have cp:= @run_makeMap (ax U1);go_enter av.func124,Tryz.ntmps124
 go_wp2_with fail
 refine(jF r p s _ a5 b3 bd.o).mono ?_;rintro e c1 ⟨S,⟨b,rfl,b1,b4,bA,bl⟩|⟨q,rfl,W⟩⟩
 ·have y:=af S;have C:=af b4;have ae:=af bl;have K:=af b1;have a8:=S.size;by_cases ci:cn<b
  ·have f:X (∀L:List aC,L.length=cn->(∀x∈L,VK k x)->¬ai (bytesOf s) p (eR k L)):=by
    intro L j l m;obtain⟨d,Z,O,A,E,P,Q,g,i,R⟩:=kE G j l m;have:=ct (by omega) (by have:=K.o;omega) g C.o;omega
   go_wp2_with (go_at_call 73;refine(bU r _ s _ ae.o).mono ?_;rintro e w' ⟨rfl,rfl⟩)
   exact⟨rfl,y.o,.inr ⟨_,rfl,f.o⟩⟩
  ·go_wp2_with fail
   refine(su k a3 s r (p+(aH b).length) b _ a5 (by omega) bA ae.o).mono ?_;rintro e c ⟨a1,⟨d,v,rfl,bv,bu,b5,b6,bB,bm,a6⟩|⟨q,rfl,W⟩⟩
   ·subst bv;have aa:=af bu;have be:=af b5;have ar:=af b6;have al:=af bm;have z:=af (y.o.trans a1);have bb:=af (bE a6 a8);obtain⟨cb,cc,cx,cd,rfl,u⟩:=tE.cS a6;have bi:=af u;have t:=World.ownsMap_made c (ax U1) 54 (plainElem (H:=Unit) (ax U1) 3);have cv:=z.o.size
    go_wp2_with fail
    go_loopw [28] (λJ wr=>∃(a b:Nat) (D:DataW Unit),a<=d.length/\b<=a/\J= .int .i64 (a:Int)/\(d.take a).Nodup/\wr.ownsMap (ax U1) 54 (plainElem (H:=Unit) (ax U1) 3) c.heap.size b D/\Knows D (d.take a)/\aQ c wr) (λJ _=>d.length-(V3 J).toNat)
    case atStart=>exact⟨0,0,.map [],VB _,U7 _,rfl,by simp,t,by simpa using Knows.empty,(Vi _ _).alloc (U7 _) _⟩
    case round=>
     obtain⟨a,b,D,cl,cs,rfl,H,t,a4,T⟩:=hrel;have n:=af T;have a7:c.heap.size<=wr.heap.size:=T.size;have a8:c.heap.size+1<=wr.heap.size:=by have:=t.lt;omega
     have ad:X (d.take a).Nodup:=H;by_cases o:a<d.length
     ·have u:=bi.o.below T;obtain rfl:=u.addr (by omega);have cB:=u.c0 a o;have cR:=u.c1 a o;have c0:=u.c2 a o;have N:X (tv d[a]):=(aa.o _ (Vn o)).ok a3;have V:=G2 d[a] N.o;have ba:=af a4;have ab:=a4.has d[a] N.o;have am:X ((d.take a).length=a):=by show _=_;rw[WB];omega
      have ao:=af (Vh o);by_cases B:idx (d.take a) d[a]<(d.take a).length
      ·have f:X (∀L:List aC,L.length=cn->(∀x∈L,VK k x)->¬ai (bytesOf s) p (eR k L)):=by
        intro L j l m;obtain⟨bj,Z,O,A,E,P,Q,g,i,R⟩:=kE G j l m;have aw:=ct (by omega) (by have:=K.o;omega) g C.o;rw[aw] at i;have bk:=ar.o bj aw A i;subst bk;have b0:=(tP _ _).1 B;obtain⟨J,ck,a0⟩:=WN b0;rw[WE] at a0;have ch:=am.o;have:=u7 E (by omega) o a0;omega
       rw[decide_eq_true B] at ab;generalize d[a]=x at*
       go_wp2_with (first
        |(at_lookup;refine wpList_lookup_own_ok_int _ Y _ _ 176 Y 54 3 .i64 PY av.underlying176 av.underlying3 (Rv _) c.heap.size b D Y (t.alloc _) _ _ Y V ?_;intro au bs b7)
        |(go_at_call 73;refine(bU r _ s _ (by rw[VH _ _ r (by omega),n.o.block r (by omega)];exact al.o)).mono ?_;rintro e w' ⟨rfl,rfl⟩))
       exact⟨rfl,z.o.trans (Kp.cr (n.o.alloc a7 _)),.inr ⟨_,rfl,f.o⟩⟩
      ·rw[decide_eq_false B] at ab;have M:X (d.take (a+1)).Nodup:=by
        show List.Nodup _;rw[ao.o,List.nodup_append];refine⟨ad.o,by simp,?_⟩;intro ca bo au a2 e;simp at a2;subst a2;subst e;exact B ((tP _ _).2 bo)
       have bc:X (Knows (D.put (kl d[a]) (.lit (.int .i64 (a:Int)))) (d.take (a+1))):=by
        have:=ba.o.put d[a] N.o B;rw[am.o] at this;show Knows _ _;rw[ao.o];exact this
       have co:I wr.heap.size≠I c.heap.size:=by simp;omega
       have br:∀a9:Yk,(wr.alloc a9).heap.size=wr.heap.size+1:=λa9=>by simp
       generalize d[a]=x at*
       go_wp2_with (first
        |(at_lookup;refine wpList_lookup_own_ok_int _ Y _ _ 176 Y 54 3 .i64 PY av.underlying176 av.underlying3 (Rv _) c.heap.size b D Y (t.alloc _) _ _ Y V ?_;intro au bs b7)
        |(at_mapUpdate;refine wpList_mapUpdate_own _ Y _ _ _ 176 Y 54 3 PY av.underlying176 _ c.heap.size b D Y (t.alloc _) ?_ _ _ _ Y Y V _ [] (plainElem_int av.underlying3 (wf_i64 _ (by omega) (by omega))) ?_;(unfold Vp;omega);intro b8 b2 bz))
       have bt:aQ c b8:=(n.o.alloc a7 _).grown bz (by rw[br];omega) (λcf bx=>by cases bx;exact U7 _);refine⟨⟨a+1,b+1,_,by omega,by omega,by simp,M.o,b2,bc.o,bt⟩,by simp[V3];omega⟩
     ·obtain rfl:a=d.length:=by omega
      have H:=ad.o;rw[Wh] at H;have M:X d.Nodup:=H;go_wp2;go_ret;exact⟨z.o.trans (Kp.cr n.o),.inl ⟨d,_,rfl,by omega,aa.o,M.o,C.o,be.o,ar.o,bB,by rw[n.o.block r (by omega)];exact al.o,aR bb.o n.o⟩⟩
   ·have f:X (∀L:List aC,L.length=cn->(∀x∈L,VK k x)->¬ai (bytesOf s) p (eR k L)):=by
     intro L j l m;obtain⟨d,Z,O,A,E,P,Q,g,i,R⟩:=kE G j l m;have:=ct (by omega) (by have:=K.o;omega) g C.o;rw[this] at i;exact W d this A i
    have z:=af (y.o.trans a1);go_wp2;exact⟨rfl,z.o,.inr ⟨q,rfl,f.o⟩⟩
 ·have f:X (∀L:List aC,L.length=cn->(∀x∈L,VK k x)->¬ai (bytesOf s) p (eR k L)):=by
   intro L j l m;obtain⟨d,Z,O,A,E,P,Q,g,i,R⟩:=kE G j l m;exact W d.length (by omega) g
  have y:=af S;go_wp2;exact⟨rfl,y.o,.inr ⟨q,rfl,f.o⟩⟩
def Na(d:List aC)(z:aC)(q:Nat)(h:q<d.length):d.getD q z=d[q]:=by simp[ZB,h]
def C4(k:Int)(b3:k=1\/k=2\/k=3)(s:ByteArray)(r p cn:Nat)(w:F)(b5:s.size<=Vp)(Q:cn<=100)(cb:p<=s.size)(h:w.heap[r]? =I (bY s p)):
 bK 119 #[(aP r),.int .i64 k,.int .i64 cn] w λe w'=>Kp r w w'/\
  ((∃(l:List aC) (v:U),e= .returned v/\l.length=cn/\(∀x∈l,VK k x)/\ai (bytesOf s) p (eR k l)/\(∀L:List aC,L.length=cn->(∀x∈L,VK k x)->ai (bytesOf s) p (eR k L)->L=l)/\p+(eR k l).length<=s.size/\
    w'.heap[r]? =I (bY s (p+(eR k l).length))/\w'.ownsRow w.heap.size 54 3 v l.length (az l))\/
   (∃q,e= .panicked (ez q)/\∀L:List aC,L.length=cn->(∀x∈L,VK k x)->¬ai (bytesOf s) p (eR k L))):=by
 obtain⟨cv,g,d4,co,d5⟩:=Wo av.mW;have d1:r<w.heap.size:=Va h;have bc:=af h;clear h;go_enter av.func119,Tryz.ntmps119
 go_wp2_with fail
 refine(xa k b3 s r p cn _ b5 Q cb bc.o).mono ?_;rintro e cB ⟨O,⟨c,v,rfl,dE,bB,b6,cd,cf,ci,b4,bz,a0⟩|⟨q,rfl,i⟩⟩
 ·have y:=af O;have Z:=af cd;have df:=af cf;have ab:=af ci;have bd:=af bz;have c3:=af bB;have db:X c.Nodup:=b6;have bb:=af a0;have es:=O.size;obtain⟨e0,e1,rfl⟩:=Bz a0;have H:=af b4;generalize bx:p+(aH c.length).length+(aV k c).length=f at*;have G:=af bx;have dp:X (∀w,bK 106 #[.int .i64 (c.length:Int)] w λe w'=>e= .returned (.int .i64 (wid c.length))/\w'=w):=λw=>F3 c.length (by omega) w;clear O cd cf ci bz bB b6 a0 bc bx b4;have cl:=IT c.length
  go_wp2_with (go_at_call 106;refine(dp.o _).mono ?_;rintro e w' ⟨rfl,o⟩;rw[o];clear o w')
  refine(zx s r f (wid c.length) cn _ b5 (by omega) Q H.o bd.o).mono ?_;rintro e d ⟨P,⟨rfl,A,bA,b7⟩|⟨q,rfl,i⟩⟩
  ·have dk:=af (AT s f _ cn H.o A);have dl:X (∀b:List Nat,b.length=cn->(∀x∈b,x<2^wid c.length)->ai (bytesOf s) f (dX (wid c.length) b)->b=D (wid c.length) (eG s f) cn):=by
    intro b N bu dv;have:=(mi s f _ b H.o bu dv).2;rw[N] at this;exact this.symm
   have a1:(D (wid c.length) (eG s f) cn).length=cn:=qf _ _ _;have cc:∀q∈D (wid c.length) (eG s f) cn,q<65536:=λq B=>by
    have N:=Rw _ _ _ q B;have bu:2^wid c.length<=2^7:=Xx (by omega) cl;omega
   generalize D (wid c.length) (eG s f) cn=b at*;have S:(jQ b).length=cn:=by rw[<-a1];simp[jQ]
   have z:=af a1;have dd:=af cc;have aa:X (uv d (.slice (I ⟨cB.heap.size,0,K⟩) cn cn) (jQ b)):=uv.cS (by rw[S];exact b7);have C:=af (y.o.trans P);have dc:=af (P.own bb.o d1);have be:=af bA;have d3:=C.o.size;clear P bA b7 A y bb bd a1 cc S;generalize bv:f+(cn*wid c.length+7)/8=bl at*;have da:=af bv;clear bv cl
   go_wp2_with fail
   refine(wU s r bl c.length _ b _ (by omega) (by rw[z.o];omega) dd.o aa.o be.o).mono ?_;rintro e w' ⟨o,⟨rfl,n⟩|⟨q,rfl,i⟩⟩
   ·rw[o];clear o w';have eh:=af n;have ba:X _:=Ki b3 (s:=s) (p:=p) (cn:=cn) (n:=c.length) (d:=c) (ps:=b) ⟨U5,0,⟨#[]⟩⟩ Q dE Y c3.o db.o z.o n Z.o df.o (by rw[G.o];exact dk.o) ab.o (by rw[G.o];exact H.o);have c9:X (∀a,(g:a<b.length)->b[a]<c.length):=λa g=>uP n _ (Vn g);clear n;have bj:=af (tE.cS dc.o);obtain⟨et,V,W,eA,cp,a4,a5,a6⟩:=aa.o;simp only[V7] at cp;obtain⟨cs,cu,d6⟩:=cp;rw[<-cu] at a4 a5 a6;have c6:X (∀a,(g:a<b.length)->cD d V (W+a) (.int .i64 (b[a]:Int))):=λa g=>by
     have N:=a6 a (by rw[<-z.o];exact g);have S:(jQ b).length=b.length:=by simp[jQ]
     rw[fp (by rw[S];exact g)] at N;simpa [jQ] using N
    have c5:=af a5;have c4:X (0<cn->(I (⟨cB.heap.size,0,K⟩:VI))=I ⟨V,W,K⟩):=λdu=>by rw[cs];exact a4 du
    obtain⟨el,em,eQ,en,cx,ck⟩:=bj.o;simp only[V7] at cx;obtain⟨rfl,_,rfl⟩:=cx;have dn:=af ck;clear a4 a5 a6 ck bj aa cs cu d6
    go_wp2_with (at_make;refine XD _ Y _ _ 55 Y d.heap.size 54 cv _ 3 av.underlying55 g d4 co .i64 .i64 _ cn Y Y Y (by rw[d5];omega) (by unfold Vp;omega) (U7 _) ?_;intro ee b8 b1)
    have a9:X (aQ d ee):=(Vi _ _).grown b1 (U7 _) (by simp);clear b1
    go_loopw [9,31] (λd7 a3 wr=>∃a:Nat,a<=cn/\a3= .int .i64 (a:Int)/\d7= .slice (I ⟨d.heap.size,0,K⟩) a cn/\wr.ownsRow d.heap.size 54 3 (.slice (I ⟨d.heap.size,0,K⟩) a cn) a (az ((b.take a).map λq=>c.getD q ⟨U5,0,⟨#[]⟩⟩))/\aQ d wr) (λ_ a3 _=>cn-(V3 a3).toNat)
    case atStart=>exact⟨0,VB _,rfl,rfl,by simpa [az] using b8,a9.o⟩
    case round=>
     clear b8 a9;obtain⟨a,eq,rfl,rfl,T,ar⟩:=hrel;have u:=af ar;have d2:=ar.size;clear ar;by_cases d0:a<cn
     ·have aw:a<b.length:=by rw[z.o];exact d0
      have B:=c9.o a aw;have b0:=c4.o (by omega);have dT:=c5.o (by omega);have n:cD wr V (W+a) (.int .i64 (b[a]:Int)):=(u.o.cell (p:=⟨V,W+a,K⟩) dT).trans (c6.o a aw);have R:=dn.o.below u.o;obtain rfl:=R.addr (by omega);have d8:=R.c0 b[a] B;have d9:=R.c1 b[a] B;have eb:=R.c2 b[a] B;have bi:X (∀x:aC,c[b[a]]=x->az ((b.take a).map λq=>c.getD q ⟨U5,0,⟨#[]⟩⟩)++[.bool x.null,.int .i64 x.n,.string x.s]=az ((b.take (a+1)).map λq=>c.getD q ⟨U5,0,⟨#[]⟩⟩)):=by
       intro x t;rw[Vh aw,V1,Xz,<-ew,Na c _ _ B,t]
      simp only[VY,Xk] at b0;obtain⟨dC,dD,_⟩:=b0;subst dC;subst dD;rw[VV] at n;generalize t:c[b[a]]=x at*;have bk:=bi.o x Y;have dq:=af bk;clear bk bi t R;generalize b[a]=q at*
      go_wp2_with (at_builtin;refine WL _ Y _ _ 55 Y d.heap.size 54 cv 3 av.underlying55 g co d.heap.size a cn _ Y (T.alloc _) ⟨wr.heap.size,0,K⟩ 1 1 [.bool x.null,.int .i64 x.n,.string x.s] Y Y (by exact jj _ _ _ _ _) (fU x) (by omega) ?_;intro ef ca b2)
      have c2:X (aQ d ef):=(u.o.alloc d2 _).grown b2 (by simp;omega) (by intro eo dO;simp at dO;omega);rw[dq.o] at ca;clear T b2 u n d8 d9 eb;go_wp2
      go_roundw
      case rel=>exact⟨a+1,by omega,by go_num,rfl,ca,c2.o⟩
      case measure=>simp[V3];omega
     ·obtain rfl:a=cn:=by omega
      have ch:b.take a=b:=VJ (by rw[z.o];omega);rw[ch] at T;obtain⟨bm,bo,br,bs,bt⟩:=ba.o;have a7:=af bm;have cR:=af bo;have c0:=af br;have a8:=af bs;have c1:=af bt;clear bm bo br bs bt ba ch;have c7:X (p+(eR k (b.map λq=>c.getD q ⟨U5,0,⟨#[]⟩⟩)).length=bl):=by
       show _=_;rw[c0.o,U8,U8,fR,z.o,<-Wc,<-Wc,G.o,da.o]
      have c8:X (p+(eR k (b.map λq=>c.getD q ⟨U5,0,⟨#[]⟩⟩)).length<=s.size):=by
       have:=gJ a8.o (by rw[ak];exact cb);rwa [ak] at this
      generalize er:(b.map λq=>c.getD q ⟨U5,0,⟨#[]⟩⟩)=l at*;go_wp2;go_ret;exact⟨C.o.trans (Kp.cr u.o),.inl ⟨l,_,rfl,a7.o,cR.o,a8.o,c1.o,c8.o,by rw[c7.o,u.o.block r (by omega)];exact be.o,by rw[a7.o];exact bE T d3⟩⟩
   ·have E:X (∀L:List aC,L.length=cn->(∀x∈L,VK k x)->¬ai (bytesOf s) p (eR k L)):=by
     intro L au A a2;obtain⟨ad,ec,ds,al,dt,am,j,ao,M,m⟩:=kE Q au A a2;have J:=ct (by omega) (by omega) ao Z.o;rw[J] at M m j;have ae:=ab.o ad J al M;rw[ae,G.o] at m;have dr:=dl.o ec am (λx t=>An _ (by omega) x (uP j x t)) m;rw[dr] at j;exact i j
    rw[o];clear i o w';go_wp2;exact⟨rfl,C.o,.inr ⟨q,rfl,E.o⟩⟩
  ·have E:X (∀L:List aC,L.length=cn->(∀x∈L,VK k x)->¬ai (bytesOf s) p (eR k L)):=by
    intro L au A a2;obtain⟨ad,b,ds,al,dt,am,j,ao,M,m⟩:=kE Q au A a2;have J:=ct (by omega) (by omega) ao Z.o;rw[J] at M m j;have ae:=ab.o ad J al M;rw[ae,G.o] at m;have:=(mi s f (wid c.length) b H.o (λx t=>An _ (by omega) x (uP j x t)) m).1;rw[am] at this;exact i this
   have C:=af (y.o.trans P);clear i P y;go_wp2;exact⟨rfl,C.o,.inr ⟨q,rfl,E.o⟩⟩
 ·have E:=af i;have y:=af O;clear i O;go_wp2;exact⟨rfl,y.o,.inr ⟨q,rfl,E.o⟩⟩
def J0(L:List aC)(d:∀x∈L,VK 2 x):(L.map aC.n).map Cm=L:=by
 rw[List.map_map]
 conv=>rhs;rw[<-List.map_id L]
 apply List.map_congr_left;intro x e;have a:=d x e;have b:=a.there;have c:=(a.s2 Y).2;cases x;simp at b c;simp[Cm,b,c]
def sM(a:List Int):(a.map Cm).map aC.n=a:=by
 rw[List.map_map]
 conv=>rhs;rw[<-List.map_id a]
 rfl
def Po(b:List Int)(h:od b):∀x∈b.map Cm,VK 2 x:=by
 intro x d;obtain⟨a,e,rfl⟩:=Wu.1 d;have c:=h a e;exact⟨rfl,by show _<=a;omega,by show a<=_;omega,λh=>by omega,λ_=>⟨c,rfl⟩,λh=>by omega⟩
def F1(L:List aC)(a:∀x∈L,VK 2 x):od (L.map aC.n):=by
 intro d c;obtain⟨x,b,rfl⟩:=Wu.1 c;exact((a x b).s2 Y).1
def Reads(s:ByteArray)(r p cn:Nat)(k:Int)(E:List aC->List Nat)(w:F)(e:X6)(w':F):Prop:=Kp r w w'/\
 ((∃(b:List aC) (v:U),e= .returned v/\b.length=cn/\(∀c∈b,VK k c)/\ai (bytesOf s) p (E b)/\(∀a:List aC,a.length=cn->(∀c∈a,VK k c)->ai (bytesOf s) p (E a)->a=b)/\p+(E b).length<=s.size/\
   w'.heap[r]? =I (bY s (p+(E b).length))/\w'.ownsRow w.heap.size 54 3 v b.length (az b))\/
  (∃d,e= .panicked (ez d)/\∀a:List aC,a.length=cn->(∀c∈a,VK k c)->¬ai (bytesOf s) p (E a)))
def xd(k e:Int)(A:bw k e=Z)(s:ByteArray)(r p cn:Nat)(w:F)(o:s.size<=Vp)(l:cn<=100)(t:p<=s.size)(h:w.heap[r]? =I (bY s p)):
 bK 111 #[(aP r),.int .i64 k,.int .i64 e,.int .i64 cn] w λx w'=>Reads s r p cn k (eg k e) w x w':=by
 obtain⟨G,R⟩:=Bn A;have al:=Va h;have n:=af h;rcases R with rfl|rfl|rfl|rfl
 ·have i:∀a,eg k 0 a=aV k a:=λa=>rfl;have c:X (eg k 0=aV k):=funext i;go_enter av.func111,Tryz.ntmps111
  go_wp2_with fail
  refine(su k G s r p cn _ o l t n.o).mono ?_;intro x j g;have f:X (Reads s r p cn k (eg k 0) w x j):=by
   show Reads _ _ _ _ _ _ _ _ _;rw[c.o];exact g
  rcases g with⟨b,⟨a,v,rfl,_⟩|⟨u,rfl,_⟩⟩
  ·clear b;go_wp2;go_ret;exact f.o
  ·clear b;go_wp2;exact⟨rfl,f.o⟩
 ·have B:k=1:=by simp[bw] at A;omega
  subst B;have i:∀a,eg 1 1 a=cz 0 a:=λa=>rfl;have c:X (eg 1 1=cz 0):=funext i;go_enter av.func111,Tryz.ntmps111
  go_wp2_with fail
  refine(AV s r p cn _ o l t n.o).mono ?_;intro x j g;have f:X (Reads s r p cn 1 (eg 1 1) w x j):=by
   show Reads _ _ _ _ _ _ _ _ _;rw[c.o];exact g
  rcases g with⟨b,⟨a,v,rfl,_⟩|⟨u,rfl,_⟩⟩
  ·clear b;go_wp2;go_ret;exact f.o
  ·clear b;go_wp2;exact⟨rfl,f.o⟩
 ·have i:∀a,eg k 2 a=eR k a:=λa=>rfl;have c:X (eg k 2=eR k):=funext i;go_enter av.func111,Tryz.ntmps111
  go_wp2_with fail
  refine(C4 k G s r p cn _ o l t n.o).mono ?_;intro x j g;have f:X (Reads s r p cn k (eg k 2) w x j):=by
   show Reads _ _ _ _ _ _ _ _ _;rw[c.o];exact g
  rcases g with⟨b,⟨a,v,rfl,_⟩|⟨u,rfl,_⟩⟩
  ·clear b;go_wp2;go_ret;exact f.o
  ·clear b;go_wp2;exact⟨rfl,f.o⟩
 ·have B:k=2:=by simp[bw] at A;omega
  subst B;have i:∀a,eg 2 3 a=cC (a.map aC.n):=λa=>rfl;have c:=af i;go_enter av.func111,Tryz.ntmps111
  go_wp2_with fail
  refine(ua s r p cn _ o l t n.o).mono ?_;rintro x j ⟨b,⟨C,v,rfl,ad,ab,W,aa,S,P,U⟩|⟨u,rfl,T⟩⟩
  ·have y:=af b;have O:=af ab;have M:=af W;have N:=af aa;have L:=af P;have H:=af (uv.cS U);have E:=af ad;have Y:=b.size
   go_wp2_with fail
   refine(DC v C _ (by rw[E.o];exact l) H.o).mono ?_;rintro x am ⟨Q,ae,rfl,V⟩;have D:=af Q;have K:=af V;go_wp2;go_ret;refine⟨y.o.trans (Kp.cr D.o),.inl ⟨C.map Cm,ae,rfl,by rw[VQ];exact E.o,Po C O.o,?_,?_,?_,?_,?_⟩⟩
   ·rw[c.o,sM];exact M.o
   ·intro d z q m;rw[c.o] at m;rw[<-N.o (d.map aC.n) (by rw[VQ];exact z) (F1 d q) m,J0 d q]
   ·rw[c.o,sM];exact S
   ·rw[c.o,sM,D.o.block r (by omega)];exact L.o
   ·rw[VQ];exact bE K.o Y
  ·have J:X (∀d:List aC,d.length=cn->(∀x∈d,VK 2 x)->¬ai (bytesOf s) p (eg 2 3 d)):=by
    intro d z q m;rw[c.o] at m;exact T (d.map aC.n) (by rw[VQ];exact z) (F1 d q) m
   have y:=af b;go_wp2;exact⟨rfl,y.o,.inr ⟨u,rfl,J.o⟩⟩
def Bx:aC:=⟨Z,0,⟨#[]⟩⟩
structure Mc(k:Int)(zs:List Int)(pres:List aC)(j nx:Nat)(l:List aC):Prop where
 lv:l.map oI=zs.take j
 th:there l=pres.take nx
 T7:nx=mY (zs.take j)
 ok:∀x∈l,VC k x
def KO(a:List Int)(j:Nat):mY (a.take j)<=mY a:=by
 unfold mY;exact((List.take_sublist j a).filter _).length_le
def z8(l:List aC)(x:aC):there (l++[x])=if x.null then there l else there l++[x]:=by
 unfold there;rw[List.filter_append];cases a:x.null<;>simp[a]
def Mc.null{k:Int}{a:List Int}{f:List aC}{j e:Nat}{l:List aC}(h:Mc k a f j e l)(i:od a)(c:j<a.length)(d:a.getD j 0=0):Mc k a f (j+1) e (l++[Bx]):=by
 have g:=ry a i j c;rw[d] at g;refine⟨?_,?_,?_,?_⟩
 ·rw[V1,h.lv,Vh c,<-fp c,d];rfl
 ·rw[z8];exact h.th
 ·rw[h.T7];omega
 ·intro n m;rcases VM.1 m with b|b
  ·exact h.ok n b
  ·simp at b;subst b;exact .inl ⟨rfl,rfl,rfl⟩
def Mc.lt{k:Int}{a:List Int}{c:List aC}{j e:Nat}{l:List aC}(h:Mc k a c j e l)(d:od a)(b:j<a.length)(o:a.getD j 0≠0)(n:c.length=mY a):e<c.length:=by
 have g:=ry a d j b;have i:=KO a (j+1);have f:=d _ (Vn b);rw[<-fp b] at f;have m:=h.T7;omega
def Mc.one{k:Int}{a:List Int}{d:List aC}{j c:Nat}{l:List aC}(h:Mc k a d j c l)(i:od a)(b:j<a.length)(r:a.getD j 0≠0)(o:c<d.length)(f:VK k d[c]):Mc k a d (j+1) (c+1) (l++[d[c]]):=by
 have m:=ry a i j b;have n:=i _ (Vn b);rw[<-fp b] at n;have g:a.getD j 0=1:=by omega
 rw[g] at m;refine⟨?_,?_,?_,?_⟩
 ·rw[V1,h.lv,Vh b,<-fp b,g];congr 1;simp[oI,f.there]
 ·rw[z8,f.there,h.th,Vh o];rfl
 ·rw[h.T7];omega
 ·intro q p;rcases VM.1 p with e|e
  ·exact h.ok q e
  ·simp at e;subst e;exact .inr f
def zu(k e:Int)(b6:bw k e=Z)(s:ByteArray)(r p cn:Nat)(w:F)(a6:s.size<=Vp)(b5:cn<=100)(ci:p<=s.size)(h:w.heap[r]? =I (bY s p)):
 bK 100 #[(aP r),.int .i64 k,.int .i64 e,.int .i64 cn] w λx w'=>Kp r w w'/\
  ((∃(l:List aC) (v:U),x= .returned v/\l.length=cn/\(∀x∈l,VC k x)/\ai (bytesOf s) p (bD k e l)/\(∀L:List aC,L.length=cn->(∀x∈L,VC k x)->ai (bytesOf s) p (bD k e L)->L=l)/\p+(bD k e l).length<=s.size/\
    w'.heap[r]? =I (bY s (p+(bD k e l).length))/\w'.ownsRow w.heap.size 54 3 v l.length (az l))\/
   (∃q,x= .panicked (ez q)/\∀L:List aC,L.length=cn->(∀x∈L,VC k x)->¬ai (bytesOf s) p (bD k e L))):=by
 obtain⟨ae,S,c2,W,c3⟩:=Wo av.mW;have co:r<w.heap.size:=Va h;have bs:=af h;go_enter av.func100,Tryz.ntmps100
 go_wp2_with fail
 refine(ua s r p cn _ a6 b5 ci bs.o).mono ?_;rintro x c9 ⟨N,⟨b,v,rfl,c5,ba,cp,cx,ca,a2,a8⟩|⟨q,rfl,T⟩⟩
 ·have z:=af N;have B:=af ba;have bv:=af cp;have au:=af cx;have bt:=af a2;have bo:=af a8;have bm:X (uv c9 v b):=uv.cS a8;have n:=af c5;have dn:=N.size;have cd:mY b<=100:=by have:=Jn b;omega
  have be:X (∀w,uv w v b->bK 112 #[v] w λe w'=>e= .returned (.int .i64 ((mY b:Nat):Int))/\w'=w):=λw h=>AD v b w (by omega) ba h;have dl:=Va a2
  go_wp2_with (go_at_call 112;refine(be.o _ bm.o).mono ?_;rintro x w' ⟨rfl,c0⟩;rw[c0])
  refine(xd k e b6 s r (p+(cC b).length) (mY b) _ a6 cd ca bt.o).mono ?_;rintro x d ⟨O,⟨f,dv,rfl,cl,ck,cs,cB,cb,b4,cf⟩|⟨q,rfl,T⟩⟩
  ·have A:X (Kp r w d):=z.o.trans O;have br:=af ck;have bx:=af cs;have bz:=af cB;have bu:=af b4;have ar:=af cl;obtain⟨dp,ab,ad,dq,rfl,bb,bc,c6⟩:=uv.cS (O.own bo.o co);have bk:=af c6;obtain⟨db,dc,dr,dd,rfl,cR⟩:=tE.cS cf;have bA:=af cR;have cu:=A.o.size;have cc:p+(cC b).length+(eg k e f).length<=s.size:=cb;rw[n.o] at bb bc;have bl:X (∀a,a<cn->cD d ab (ad+a) (.int .i64 (b.getD a 0))):=by
    have:=bk.o;rw[n.o] at this;exact this
   rw[n.o]
   go_wp2_with (at_make;refine XD _ Y _ _ 55 Y d.heap.size 54 ae _ 3 av.underlying55 S c2 W .i64 .i64 _ cn Y Y Y (by rw[c3];omega) (by unfold Vp;omega) (U7 _) ?_;intro da ch b7)
   have bd:X (aQ d da):=(Vi _ _).grown b7 (U7 _) (by simp)
   go_loopw [11,12,28] (λc7 c8 aa wr=>∃(a c:Nat) (l:List aC),a<=cn/\c<=a/\aa= .int .i64 (a:Int)/\c8= .int .i64 (c:Int)/\c7= .slice (I ⟨d.heap.size,0,K⟩) a cn/\Mc k b f a c l/\wr.ownsRow d.heap.size 54 3 (.slice (I ⟨d.heap.size,0,K⟩) a cn) a (az l)/\aQ d wr) (λ_ _ aa _=>cn-(V3 aa).toNat)
   case atStart=>exact⟨0,0,[],VB _,U7 _,rfl,rfl,rfl,⟨rfl,rfl,rfl,λx c1=>by simp at c1⟩,by simpa [az] using ch,bd.o⟩
   case round=>
    obtain⟨a,c,l,df,dk,rfl,rfl,rfl,b3,V,a1⟩:=hrel;have m:=af a1;have i:=af b3;have a9:=a1.size;by_cases a5:a<cn
    ·have o:a<b.length:=by rw[n.o];exact a5
     obtain rfl:=bb (by omega);have b8:=bc (by omega);have a3:cD wr ab (ad+a) (.int .i64 (b.getD a 0)):=(m.o.cell (p:=⟨ab,ad+a,K⟩) b8).trans (bl.o a a5);by_cases E:b.getD a 0=0
     ·have H:X (Mc k b f (a+1) c (l++[Bx])):=i.o.null B.o o E;rw[E] at a3;have M:X (az l++[.bool Z,.int .i64 0,.string ⟨#[]⟩]=az (l++[Bx])):=ew l Bx
      go_wp2_with (at_builtin;refine WL _ Y _ _ 55 Y d.heap.size 54 ae 3 av.underlying55 S W d.heap.size a cn _ Y (V.alloc _) ⟨wr.heap.size,0,K⟩ 1 1 [.bool Z,.int .i64 0,.string ⟨#[]⟩] Y Y (by exact jj _ _ _ _ _) (fU Bx) (by omega) ?_;intro al u R)
      have G:X (aQ d al):=(m.o.alloc a9 _).grown R (by simp;omega) (by intro bB Q;simp at Q;omega);rw[M.o] at u;refine⟨⟨a+1,c,l++[Bx],by omega,by omega,by go_num,rfl,rfl,H.o,u,G.o⟩,by simp[V3];omega⟩
     ·have t:=i.o.lt B.o o E ar.o;have c4:b.getD a 0=1:=by
       have b2:=B.o _ (Vn o);rw[<-fp o] at b2;omega
      have H:X (Mc k b f (a+1) (c+1) (l++[f[c]])):=i.o.one B.o o E t (br.o _ (Vn t));rw[c4] at a3;have D:=bA.o.below m.o;obtain rfl:=D.addr (by omega);have ds:=D.c0 c t;have dt:=D.c1 c t;have du:=D.c2 c t;have M:X (az l++[.bool f[c].null,.int .i64 f[c].n,.string f[c].s]=az (l++[f[c]])):=ew l _;generalize f[c]=y at*
      go_wp2_with (at_builtin;refine WL _ Y _ _ 55 Y d.heap.size 54 ae 3 av.underlying55 S W d.heap.size a cn _ Y (V.alloc _) ⟨wr.heap.size,0,K⟩ 1 1 [.bool y.null,.int .i64 y.n,.string y.s] Y Y (by exact jj _ _ _ _ _) (fU y) (by omega) ?_;intro al u R)
      have G:X (aQ d al):=(m.o.alloc a9 _).grown R (by simp;omega) (by intro bB Q;simp at Q;omega);rw[M.o] at u;refine⟨⟨a+1,c+1,l++[y],by omega,by omega,by go_num,by go_num,rfl,H.o,u,G.o⟩,by simp[V3];omega⟩
    ·obtain rfl:a=cn:=by omega
     have cv:b.take a=b:=VJ (by rw[n.o];omega);have j:=i.o.lv;have C:=i.o.th;have aw:=i.o.T7;rw[cv] at j aw;rw[aw,<-ar.o,Wh] at C;have a4:l.length=a:=by rw[<-n.o,<-j,VQ]
     obtain⟨b0,b1⟩:=Eh (k:=k) (e:=e) (s:=s) (p:=p) (cn:=a) (l:=l) a4 i.o.ok (by rw[j];exact bv.o) (by rw[j];exact au.o) (by rw[j,C];exact bx.o) (by rw[j,C];exact bz.o);have bi:=af b0;have bj:=af b1;have ao:X (p+(bD k e l).length=p+(cC b).length+(eg k e f).length):=by
      show _=_;unfold bD;rw[U8,j,C,Wc]
     have am:=af a4;go_wp2;go_ret;exact⟨A.o.trans (Kp.cr m.o),.inl ⟨l,_,rfl,am.o,i.o.ok,bi.o,bj.o,by rw[ao.o];exact cc,by rw[ao.o,m.o.block r (by omega)];exact bu.o,by rw[am.o];exact bE V cu⟩⟩
  ·have J:X (∀L:List aC,L.length=cn->(∀x∈L,VC k x)->¬ai (bytesOf s) p (bD k e L)):=by
    intro L P a7 g;unfold bD at g;rw[ap] at g;have a0:=au.o (L.map oI) (by rw[VQ];exact P) (yO L) g.1;rw[a0] at g;exact T (there L) (by rw[z4,a0]) (FR a7) g.2
   have A:X (Kp r w d):=z.o.trans O;go_wp2;exact⟨rfl,A.o,.inr ⟨q,rfl,J.o⟩⟩
 ·have J:X (∀L:List aC,L.length=cn->(∀x∈L,VC k x)->¬ai (bytesOf s) p (bD k e L)):=by
   intro L P a7 g;unfold bD at g;rw[ap] at g;exact T (L.map oI) (by rw[VQ];exact P) (yO L) g.1
  have z:=af N;go_wp2;exact⟨rfl,z.o,.inr ⟨q,rfl,J.o⟩⟩
end Ec
namespace Pk
open Go.RowKit Pm
def Dt(w:F)(a b c:Yk):(((w.alloc a).alloc b).alloc c).heap[w.heap.size]? =I a:=by
 rw[VH _ _ _ (by simp;omega),VH _ _ _ (by simp)];exact Xf w a
def Du(w:F)(a b c:Yk):(((w.alloc a).alloc b).alloc c).heap[w.heap.size+1]? =I b:=by
 rw[VH _ _ _ (by simp)];have:=Xf (w.alloc a) b;rwa [show(w.alloc a).heap.size=w.heap.size+1 from by simp] at this
def Dv(w:F)(a b c:Yk):(((w.alloc a).alloc b).alloc c).heap[w.heap.size+1+1]? =I c:=by
 have:=Xf ((w.alloc a).alloc b) c;rwa [show((w.alloc a).alloc b).heap.size=w.heap.size+1+1 from by simp] at this
end Pk
namespace Ec
open Go.RowKit Pk Pm
def dy{w:F}{g:Nat}{v:U}{t:Vc}(h:w.heap[g]? =I (.cells #[v] t (0,0))):w.cell? ⟨g,0,K⟩=I v/\w.frozen? ⟨g,0,K⟩=U5:=by
 constructor
 ·simp[Ve,h]
 ·simp[VW,h]
def tT{w:F}{g:Nat}{v:U}(u:U){t:Vc}(h:w.heap[g]? =I (.cells #[v] t (0,0))):(w.setCell ⟨g,0,K⟩ u).heap[g]? =I (.cells #[u] t (0,0)):=by
 rw[Vl w g 0 _ _ _ h];rfl
def uO(a b:VI)(m l:U)(u:Vc)(d:U)(c:List Ws)(w:F)(h:w.cell? a=I m)(i:w.frozen? a=U5)
 (f:(w.setCell a aM).cell? b=I l) (g:(w.setCell a aM).frozen? b=U5):
 CallsD (ax U1) 117 #[.pointer (I a),.pointer (I b)] (.panicking ({v:=.iface u d,recovered:=U5}::c)) w λe k w'=>
  e= .returned (.tuple #[])/\k= .panicking ({v:=.iface u d,recovered:=Z}::c)/\w'=(w.setCell a aM).setCell b (.bool U5):=by
 refine callsD_of_wpS av.func117 Y λo n j=>?_;apply wpS_seq;apply wpS_region;simp[wpOpsS,go_sem,recoverD,j,Tryz.ntmps117,Exit.thenS];refine wpS_cond (t:=Z) (by simp[Act.eval,V8]) ?_;simp only[if_true];apply wpS_seq;apply wpS_region;simp[wpOpsS,go_sem,Exit.thenS];apply wpS_region;simp[wpOpsS,go_sem,h,i,f,g,bodyPostS,V0,Tryz.results117]
def Eb(d c:VI)(w:F):
 CallsD (ax U1) 117 #[.pointer (I d),.pointer (I c)] .returning w λe f w'=>e= .returned (.tuple #[])/\f= .returning/\w'=w:=by
 refine callsD_of_wpS av.func117 Y λa g b=>?_;apply wpS_seq;apply wpS_region;simp[wpOpsS,go_sem,recoverD,b,Tryz.ntmps117,Exit.thenS];refine wpS_cond (t:=U5) (by simp[Act.eval,V8]) ?_;simp only[Vv,if_false];refine wpS_of_wp (wp_skip ?_);cases a;simp_all [bodyPostS,V0,Tryz.results117]
def Bi{w w4:F}{v:U}{d b:Vc}{v2:U}(q:Nat)(hL:w4.heap[w.heap.size]? =I (.cells #[v] d (0,0)))(c:w4.heap[w.heap.size+1]? =I (.cells #[v2] b (0,0))):
 CallsD (ax U1) 117 #[(aP w.heap.size),(aP (w.heap.size+1))] (.panicking (ez q)) w4 λe f w'=>
  e= .returned (.tuple #[])/\f= .panicking [{v:=.iface 161 (.agg #[.int .i64 (q:Int)]),recovered:=Z}]/\w'=(w4.setCell ⟨w.heap.size,0,K⟩ aM).setCell ⟨w.heap.size+1,0,K⟩ (.bool U5):=by
 have a:(w4.setCell ⟨w.heap.size,0,K⟩ aM).heap[w.heap.size+1]? =I (.cells #[v2] b (0,0)):=by
  rw[Vj _ _ _ _ (by simp)];exact c
 exact uO _ _ _ _ _ _ [] w4 (dy hL).1 (dy hL).2 (dy a).1 (dy a).2
def vN{w w4:F}{v v2:U}{b c:Vc}(u1 u2:U)(hL:w4.heap[w.heap.size]? =I (.cells #[v] b (0,0)))(g:w4.heap[w.heap.size+1]? =I (.cells #[v2] c (0,0)))(f:aQ w w4):
 let a:=(w4.setCell ⟨w.heap.size,0,K⟩ u1).setCell ⟨w.heap.size+1,0,K⟩ u2
 cD a w.heap.size 0 u1/\cD a (w.heap.size+1) 0 u2/\aQ w a:=by
 have d:=tT u1 hL;have e:(w4.setCell ⟨w.heap.size,0,K⟩ u1).heap[w.heap.size+1]? =I (.cells #[v2] c (0,0)):=by
  rw[Vj _ _ _ _ (by simp)];exact g
 refine⟨?_,(dy (tT u2 e)).1,?_⟩
 ·refine(dy (t:=b) ?_).1;rw[Vj _ _ _ _ (by simp)];exact d
 ·exact(f.setCell (U7 _) _).setCell (Nat.le_succ _) _
def IS(c1 c2 J:U)(s:ByteArray)(w:F)(R:s.size<=Vp)(f h:Nat)(Q:Nat->List U->Nat->Prop)(N:Prop)
 (au:∀(i:F) (r:Nat),aQ w i->r=w.heap.size+1+1->i.heap[r]? =I (bY s 0)->bK 99 #[(aP r),c1,c2,J] i λe w'=>Kp r i w'/\
   ((∃v n d q,e= .returned v/\w'.heap[r]? =I (bY s q)/\q<=s.size/\w'.ownsRow i.heap.size f h v n d/\Q n d q)\/(∃q,e= .panicked (ez q)/\N))):
 bK 109 #[.string s,.func (.func 99) #[] #[c1,c2,J]] w λe w'=>aQ w w'/\
  ((∃v n d,e= .returned (.tuple #[v,.bool Z])/\w'.ownsRow w.heap.size f h v n d/\Q n d s.size)\/(e= .returned (.tuple #[aM,.bool U5])/\(N\/∃n d q,Q n d q/\q<s.size))):=by
 have V:=af au;have a7:∀(L:Fn) (first a:Array U) (w:F),(Instr.makeFunc L first a).run (ax U1) w= .ok (.func L first a) w:=λ_ _ _ _=>rfl
 go_enter_defers av.func109,Tryz.ntmps109
 go_wp2_with (go_at_call 45;refine(n7 s _).mono ?_;rintro e w' ⟨rfl,rfl⟩)
 have O:(((w.alloc (.cells #[aM] 55)).alloc (.cells #[.bool U5] 4)).alloc (bY s 0)).heap[w.heap.size]? =I (.cells #[aM] 55 (0,0)):=Dt _ _ _ _;have M:(((w.alloc (.cells #[aM] 55)).alloc (.cells #[.bool U5] 4)).alloc (bY s 0)).heap[w.heap.size+1]? =I (.cells #[.bool U5] 4 (0,0)):=Du _ _ _ _;have ao:(((w.alloc (.cells #[aM] 55)).alloc (.cells #[.bool U5] 4)).alloc (bY s 0)).heap[w.heap.size+1+1]? =I (bY s 0):=Dv _ _ _ _;have a6:(((w.alloc (.cells #[aM] 55)).alloc (.cells #[.bool U5] 4)).alloc (bY s 0)).heap.size=w.heap.size+3:=by simp
 have z:aQ w (((w.alloc (.cells #[aM] 55)).alloc (.cells #[.bool U5] 4)).alloc (bY s 0)):=(((Vi _ _).alloc (U7 _) _).alloc (by simp) _).alloc (by simp;omega) _;generalize (((w.alloc (.cells #[aM] 55)).alloc (.cells #[.bool U5] 4)).alloc (bY s 0))=aa at*;refine(V.o aa (w.heap.size+1+1) z Y ao).mono ?_;rintro e c ⟨g,⟨v,n,d,q,rfl,ar,a8,x,am⟩|⟨q,rfl,ab⟩⟩
 ·have p:c.heap[w.heap.size]? =I (.cells #[aM] 55 (0,0)):=Kp.block g O (by omega);have o:c.heap[w.heap.size+1]? =I (.cells #[.bool U5] 4 (0,0)):=Kp.block g M (by omega);have A:aQ w c:=z.trans ((g.below (by omega)).mono (by omega));have aw:v.ownBlock≠I w.heap.size/\v.ownBlock≠I (w.heap.size+1):=⟨λe=>by have:=(x.lt _ e).1;omega,λe=>by have:=(x.lt _ e).1;omega⟩;obtain⟨b,a,a0⟩:=Bz x;subst a0;have W:X (c.ownsRow w.heap.size f h (.slice b n a) n d):=bE x (by omega);have y:=af aw;have G:=af am;obtain⟨a3,a5⟩:=dy p;obtain⟨a2,a4⟩:=dy o;have E:=af p;have D:=af o;have C:=af A;have H:=af ar;by_cases P:q<s.size
  ·go_wp2_with (go_at_call 68;refine(CA (w.heap.size+1+1) q s _ R P (by rw[Vj _ _ _ _ (by simp;omega)];exact H.o)).mono ?_;rintro e w' ⟨rfl,m,rfl⟩)
   have u:((c.setCell ⟨w.heap.size,0,K⟩ (.slice b n a)).drewN m).heap[w.heap.size]? =I (.cells #[.slice b n a] 55 (0,0)):=tT _ E.o;have t:((c.setCell ⟨w.heap.size,0,K⟩ (.slice b n a)).drewN m).heap[w.heap.size+1]? =I (.cells #[.bool U5] 4 (0,0)):=by
    show(c.setCell ⟨w.heap.size,0,K⟩ (.slice b n a)).heap[w.heap.size+1]? =_;rw[Vj _ _ _ _ (by simp)];exact D.o
   have B:=below_drewN (C.o.setCell (p:=⟨w.heap.size,0,K⟩) (U7 _) (.slice b n a)) m;generalize (c.setCell ⟨w.heap.size,0,K⟩ (.slice b n a)).drewN m=a9 at*;obtain⟨j,k,l⟩:=vN aM (.bool U5) u t B;refine leaves_cons (f:=117) (args:= #[(aP w.heap.size),(aP (w.heap.size+1))]) (by simp) (by simp[go_sem]) ?_;refine(Bi _ u t).mono ?_;rintro e S T ⟨rfl,rfl,rfl⟩;simp[Leaves,settle,V0,Tryz.results109,go_sem,j,k];exact⟨l,.inr ⟨n,d,q,G.o,P⟩⟩
  ·obtain rfl:q=s.size:=by omega
   go_wp2_with (go_at_call 68;refine(GQ (w.heap.size+1+1) s.size s _ R (by omega) (by rw[Vj _ _ _ _ (by simp;omega)];exact H.o)).mono ?_;rintro e w' ⟨rfl,m,rfl⟩)
   have u:((c.setCell ⟨w.heap.size,0,K⟩ (.slice b n a)).drewN m).heap[w.heap.size]? =I (.cells #[.slice b n a] 55 (0,0)):=tT _ E.o;have t:((c.setCell ⟨w.heap.size,0,K⟩ (.slice b n a)).drewN m).heap[w.heap.size+1]? =I (.cells #[.bool U5] 4 (0,0)):=by
    show(c.setCell ⟨w.heap.size,0,K⟩ (.slice b n a)).heap[w.heap.size+1]? =_;rw[Vj _ _ _ _ (by simp)];exact D.o
   have B:=below_drewN (C.o.setCell (p:=⟨w.heap.size,0,K⟩) (U7 _) (.slice b n a)) m;have ad:((c.setCell ⟨w.heap.size,0,K⟩ (.slice b n a)).drewN m).ownsRow w.heap.size f h (.slice b n a) n d:=sn (ownsRow_setCell_other W.o y.o.1 _) m;have ae:(((c.setCell ⟨w.heap.size,0,K⟩ (.slice b n a)).drewN m).setCell ⟨w.heap.size,0,K⟩ (.slice b n a)).ownsRow w.heap.size f h (.slice b n a) n d:=ownsRow_setCell_other ad y.o.1 _;have al:((((c.setCell ⟨w.heap.size,0,K⟩ (.slice b n a)).drewN m).setCell ⟨w.heap.size,0,K⟩ (.slice b n a)).setCell ⟨w.heap.size+1,0,K⟩ (.bool Z)).ownsRow w.heap.size f h (.slice b n a) n d:=ownsRow_setCell_other ae y.o.2 _;obtain⟨j,k,l⟩:=vN (.slice b n a) (.bool Z) u t B;generalize (((c.setCell ⟨w.heap.size,0,K⟩ (.slice b n a)).drewN m).setCell ⟨w.heap.size,0,K⟩ (.slice b n a)).setCell ⟨w.heap.size+1,0,K⟩ (.bool Z)=a1 at*;refine leaves_cons (f:=117) (args:= #[(aP w.heap.size),(aP (w.heap.size+1))]) (by simp) (by simp[go_sem]) ?_;refine(Eb ⟨w.heap.size,0,K⟩ ⟨w.heap.size+1,0,K⟩ _).mono ?_;rintro e S T ⟨rfl,rfl,rfl⟩;simp[Leaves,settle,V0,Tryz.results109,go_sem,j,k];exact⟨l,n,d,al,G.o⟩
 ·have p:c.heap[w.heap.size]? =I (.cells #[aM] 55 (0,0)):=Kp.block g O (by omega);have o:c.heap[w.heap.size+1]? =I (.cells #[.bool U5] 4 (0,0)):=Kp.block g M (by omega);have A:aQ w c:=z.trans ((g.below (by omega)).mono (by omega));obtain⟨j,k,l⟩:=vN aM (.bool U5) p o A;refine leaves_cons (f:=117) (args:= #[(aP w.heap.size),(aP (w.heap.size+1))]) (by simp) (by simp[go_sem]) ?_;refine(Bi _ p o).mono ?_;rintro e S T ⟨rfl,rfl,rfl⟩;simp[Leaves,settle,V0,Tryz.results109,go_sem,j,k];exact⟨l,.inl ab⟩
def Eo(k e:Int)(B:bw k e=Z)(s:ByteArray)(r cn x y z:Nat)(w:F)(D:s.size<=Vp)(A:cn<=100)(h:w.heap[r]? =I (bY s 0))
 (N:cD w x 0 (.int .i64 k)) (O:cD w y 0 (.int .i64 e)) (P:cD w z 0 (.int .i64 cn)):
 bK 99 #[(aP r),(aP x),(aP y),(aP z)] w λf w'=>Kp r w w'/\
  ((∃v n d q,f= .returned v/\w'.heap[r]? =I (bY s q)/\q<=s.size/\w'.ownsRow w.heap.size 54 3 v n d/\
    (∃l:List aC,n=cn/\l.length=cn/\d=az l/\q=(bD k e l).length/\(∀x∈l,VC k x)/\ai (bytesOf s) 0 (bD k e l)/\∀L:List aC,L.length=cn->(∀x∈L,VC k x)->ai (bytesOf s) 0 (bD k e L)->L=l))\/
   (∃q,f= .panicked (ez q)/\∀L:List aC,L.length=cn->(∀x∈L,VC k x)->¬ai (bytesOf s) 0 (bD k e L))):=by
 have m:=af h;go_enter av.func99,Tryz.ntmps99
 go_wp2_with fail
 refine(zu k e B s r 0 cn _ D A (VB _) m.o).mono ?_;rintro f Q ⟨c,⟨l,v,rfl,C,G,J,K,M,u,H⟩|⟨q,rfl,E⟩⟩
 ·have a:=af c;have b:=af C;have j:=af G;have p:=af J;have t:=af K;have o:=af u;have i:=af H;go_wp2;go_ret;refine⟨a.o,.inl ⟨v,cn,az l,(bD k e l).length,rfl,by simpa using o.o,by omega,by rw[<-b.o];exact i.o,l,rfl,b.o,rfl,rfl,j.o,p.o,t.o⟩⟩
 ·have a:=af c;have g:=af E;go_wp2;exact⟨rfl,a.o,.inr ⟨q,rfl,g.o⟩⟩
def zy(c1 c2 d:U)(s:ByteArray)(w:F)(t:s.size<=Vp)(f g:Nat)(Q:Nat->List U->Nat->Prop)(N:Prop)
 (p:∀(b:F) (r:Nat),aQ w b->r=w.heap.size+1+1->b.heap[r]? =I (bY s 0)->bK 99 #[(aP r),c1,c2,d] b λe w'=>Kp r b w'/\
   ((∃v n a q,e= .returned v/\w'.heap[r]? =I (bY s q)/\q<=s.size/\w'.ownsRow b.heap.size f g v n a/\Q n a q)\/(∃q,e= .panicked (ez q)/\N))):
 bK 98 #[.string s,.func (.func 99) #[] #[c1,c2,d]] w λe w'=>aQ w w'/\
  ((∃v n a,e= .returned (.tuple #[v,.int .i64 0])/\w'.ownsRow w.heap.size f g v n a/\Q n a s.size)\/(e= .returned (.tuple #[aM,.int .i64 3])/\(N\/∃n a q,Q n a q/\q<s.size))):=by
 have i:=af p;go_enter av.func98,Tryz.ntmps98
 go_wp2_with fail
 refine(IS c1 c2 d s w t f g Q N i.o).mono ?_;rintro e x ⟨h,⟨v,n,a,rfl,u,o⟩|⟨rfl,m⟩⟩
 ·have c:=af h;have k:=af u;have l:=af o;go_wp2
  go_ret2
  exact⟨c.o,.inl ⟨v,n,a,rfl,k.o,l.o⟩⟩
 ·have c:=af h;have j:=af m;go_wp2
  go_ret2
  exact⟨c.o,.inr ⟨rfl,j.o⟩⟩
structure tA(s:ByteArray)(k e:Int)(cn:Nat)(l:List aC):Prop where
 len:l.length=cn
 ok:∀x∈l,VC k x
 eq:bD k e l=bytesOf s
 JJ:∀L:List aC,L.length=cn->(∀x∈L,VC k x)->ai (bytesOf s) 0 (bD k e L)->L=l
def xQ (s:ByteArray)(k e:Int)(cn:Nat):Prop:=∀a:List aC,a.length=cn->(∀b∈a,VC k b)->bD k e a≠bytesOf s
def J7(cn k e:Int):js cn k e≠0\/(js cn k e=0/\bw k e=Z/\∃c:Nat,cn=(c:Int)/\c<=100):=by
 unfold js;by_cases a:cn<0\/100<cn
 ·left;rw[if_pos a];omega
 ·rw[if_neg a];cases b:bw k e with
  |false=>left;simp
  |true=>right;exact⟨by simp,rfl,cn.toNat,by omega,by omega⟩
def RM(w:F)(a b c:Yk):(((w.alloc a).alloc b).alloc c).heap.size=w.heap.size+3:=by simp
def qt(s:ByteArray)(k e cn:Int)(w:F)(G:s.size<=Vp):
 bK 81 #[.string s,.int .i64 k,.int .i64 e,.int .i64 cn] w λf w'=>aQ w w'/\
  ((js cn k e≠0/\f= .returned (.tuple #[aM,.int .i64 (js cn k e)]))\/
   (∃c:Nat,cn=(c:Int)/\c<=100/\js cn k e=0/\bw k e=Z/\((∃v l,f= .returned (.tuple #[v,.int .i64 0])/\w'.ownsRow w.heap.size 54 3 v l.length (az l)/\tA s k e c l)\/(f= .returned (.tuple #[aM,.int .i64 3])/\xQ s k e c)))):=by
 have ae:aQ w (((w.alloc (.cells #[.int .i64 k] 3)).alloc (.cells #[.int .i64 e] 3)).alloc (.cells #[.int .i64 cn] 3)):=(((Vi _ _).alloc (U7 _) _).alloc (by simp) _).alloc (by simp;omega) _;have m:=af ae;have i:=pW cn k e;have aw:∀(C:Fn) (first B:Array U) (w:F),(Instr.makeFunc C first B).run (ax U1) w= .ok (.func C first B) w:=λ_ _ _ _=>rfl;rcases J7 cn k e with H|⟨D,am,c,rfl,q⟩
 ·generalize js cn k e=R at*;have ar:(R !=0)=Z:=by simpa using H
  go_enter av.func81,Tryz.ntmps81
  go_wp2_with (go_at_call 78;refine(i _).mono ?_;rintro x w' ⟨rfl,rfl⟩)
  go_ret2
  exact⟨m.o,.inl ⟨H,rfl⟩⟩
 ·rw[D] at i;have Y:=(dy (Dt w (.cells #[.int .i64 k] 3 (0,0)) (.cells #[.int .i64 e] 3 (0,0)) (.cells #[.int .i64 (c:Int)] 3 (0,0)))).1;have aa:=(dy (Du w (.cells #[.int .i64 k] 3 (0,0)) (.cells #[.int .i64 e] 3 (0,0)) (.cells #[.int .i64 (c:Int)] 3 (0,0)))).1;have ab:=(dy (Dv w (.cells #[.int .i64 k] 3 (0,0)) (.cells #[.int .i64 e] 3 (0,0)) (.cells #[.int .i64 (c:Int)] 3 (0,0)))).1;have M:=RM w (.cells #[.int .i64 k] 3) (.cells #[.int .i64 e] 3) (.cells #[.int .i64 (c:Int)] 3);have O:=af Y;have P:=af aa;have Q:=af ab;have T:=af M;have A:=af D;have o:=af am;go_enter av.func81,Tryz.ntmps81
  go_wp2_with (go_at_call 78;refine(i _).mono ?_;rintro x w' ⟨rfl,rfl⟩)
  generalize (((w.alloc (.cells #[.int .i64 k] 3)).alloc (.cells #[.int .i64 e] 3)).alloc (.cells #[.int .i64 (c:Int)] 3))=V at*;have M:=T.o;refine(zy (aP w.heap.size) (aP (w.heap.size+1)) (.pointer (I ⟨w.heap.size+1+1,0,K⟩)) s V G 54 3
   (λd z N=>∃l:List aC,d=c/\l.length=c/\z=az l/\N=(bD k e l).length/\(∀g∈l,VC k g)/\ai (bytesOf s) 0 (bD k e l)/\∀a:List aC,a.length=c->(∀g∈a,VC k g)->ai (bytesOf s) 0 (bD k e a)->a=l)
   (∀a:List aC,a.length=c->(∀g∈a,VC k g)->¬ai (bytesOf s) 0 (bD k e a))
   (λW x b a1 al=>Eo k e o.o s x c _ _ _ W G q al ((b.cell (p:=⟨w.heap.size,0,K⟩) (by show w.heap.size<_;omega)).trans O.o) ((b.cell (p:=⟨w.heap.size+1,0,K⟩) (by show w.heap.size+1<_;omega)).trans P.o) ((b.cell (p:=⟨w.heap.size+1+1,0,K⟩) (by show w.heap.size+1+1<_;omega)).trans Q.o))).mono ?_
  rintro f y ⟨b,⟨v,d,z,rfl,ao,l,rfl,t,rfl,J,h,L,u⟩|⟨rfl,p⟩⟩
  ·have j:X (aQ w y):=m.o.trans (b.mono (by omega));have S:X (y.ownsRow w.heap.size 54 3 v l.length (az l)):=by rw[t];exact bE ao (by omega)
   have n:X (tA s k e d l):=⟨t,h,Dr L (by rw[ak];omega),u⟩;go_wp2
   go_ret2
   exact⟨j.o,.inr ⟨d,rfl,q,A.o,o.o,.inl ⟨v,l,rfl,S.o,n.o⟩⟩⟩
  ·have j:X (aQ w y):=m.o.trans (b.mono (by omega));have n:X (xQ s k e c):=by
    intro a E h r;rcases p with p|⟨d,z,N,⟨l,rfl,t,rfl,J,a0,L,u⟩,au⟩
    ·exact p a E h (eN r)
    ·have ad:=u a E h (eN r);subst ad;rw[r,ak] at J;omega
   go_wp2
   go_ret2
   exact⟨j.o,.inr ⟨c,rfl,q,A.o,o.o,.inr ⟨rfl,n.o⟩⟩⟩
def kW(n:Nat):∀x∈aH n,x<256:=OR 10 n
def Fp(f:Nat)(l:List Int):∀x∈iC f l,x<256:=by
 induction f generalizing l with
 |zero=>simp[iC]
 |succ f c=>
  cases l with
  |nil=>simp[iC]
  |cons e d=>
   intro x b;simp only[iC] at b;rcases VM.1 b with a|a
   ·exact kW _ x a
   ·rcases VM.1 a with a|a
    ·simp at a;rw[a];exact oy _
    ·exact c _ x a
def vi(k:Int)(v:aC):∀x∈aU k v,x<256:=by
 intro x a;unfold aU at a
 split at a
 ·exact kW _ x a
 ·split at a
  ·simp at a;rw[a];exact oy _
  ·rcases VM.1 a with b|b
   ·exact kW _ x b
   ·exact jr _ x b
def zf(k:Int)(l:List aC):∀x∈aV k l,x<256:=by
 intro x a;unfold aV at a;obtain⟨v,_,b⟩:=List.mem_flatMap.1 a;exact vi k v x b
def Kg(a:Int)(l:List aC):∀x∈cz a l,x<256:=by
 induction l generalizing a with
 |nil=>simp[cz]
 |cons f e d=>
  intro x c;simp only[cz] at c;rcases VM.1 c with b|b
  ·exact kW _ x b
  ·exact d _ x b
def GH(k e:Int)(l:List aC):∀x∈bD k e l,x<256:=by
 intro x b;unfold bD at b;rcases VM.1 b with a|a
 ·exact Fp _ _ x a
 ·unfold eg at a
  split at a
  ·exact Kg _ _ x a
  ·split at a
   ·unfold eR at a;rcases VM.1 a with a|a
    ·exact kW _ x a
    ·rcases VM.1 a with a|a
     ·exact zf _ _ x a
     ·exact tV _ _ x a
   ·split at a
    ·exact Fp _ _ x a
    ·exact zf _ _ x a
def FU(a n:Int)(b:0<=a)(c:0<n):0<=a.tmod n/\a.tmod n<n:=by
 rw[Int.tmod_eq_emod_of_nonneg b];exact⟨Int.emod_nonneg _ (by omega),Int.emod_lt_of_pos _ c⟩
def tmod_neg(a n:Int)(c:a<=0)(b:0<n):0<= -(a.tmod n)/\ -(a.tmod n)<n:=by
 have:=FU (-a) n (by omega) b;rwa [Int.neg_tmod] at this
def EM{cs:List bQ}(h:mF cs):∀c∈cs,c.name.size<=16:=by
 intro c a;obtain⟨d,b,rfl⟩:=WN a;have:=(h.2.2 d b).1;simp[pX] at this;omega
def My{P:aC->Prop}{b:lZ}{v:aC}(h1:P b.least)(a:P b.most)(c:P v):P (ox b v).least/\P (ox b v).most:=by
 unfold ox
 split
 ·exact⟨h1,a⟩
 ·dsimp only;constructor<;>split<;>assumption
def Gw{P:aC->Prop}(d:P ⟨U5,0,⟨#[]⟩⟩)(l:List aC)(h:∀x∈l,P x):P (cy l).least/\P (cy l).most:=by
 have:∀(l:List aC) (a:lZ),P a.least->P a.most->(∀x∈l,P x)->P (l.foldl ox a).least/\P (l.foldl ox a).most:=by
  intro l
  induction l with
  |nil=>intro a b c _;exact⟨b,c⟩
  |cons x j g=>
   intro a b c h;rw[List.foldl_cons];have e:=My b c (h x (by simp));exact g _ e.1 e.2 (λi f=>h i (by simp[f]))
 exact this l cK d d h
def Aj:tv ⟨U5,0,⟨#[]⟩⟩:=⟨by decide,by decide,by decide⟩
def Lm{l:List Int}(h:0<l.length):0<(cC l).length:=by
 cases l with
 |nil=>simp at h
 |cons b a=>
  unfold cC iC;simp;omega
def Eg{k e:Int}{l:List aC}(h:0<l.length):0<(bD k e l).length:=by
 unfold bD;rw[U8];have:=Lm (l:=l.map oI) (by simpa using h);omega
def GG{k e:Int}{l:List aC}(h:∀x∈l,tv x)(a:l.length<=100):(bD k e l).length<=110000:=by
 unfold bD;rw[U8];have c:=pE (l.map oI) (by simpa using a);have d:=AB k e (there l) (λx b=>h x (B2 b)) (by have:=pM l;omega);omega
structure sJ(cs:List bQ)(rows:List (List aC))(es:List Int)(bd:Nat):Prop where
 table:iG cs rows
 n5:nU cs es
 lo:1<=bd
 hi:bd<=100
 vals:∀r∈rows,∀x∈r,L7 x
def sJ.len{cs:List bQ}{a:List (List aC)}{es:List Int}{b:Nat}(h:sJ cs a es b):∀r∈a,r.length=cs.length:=by
 intro r d;obtain⟨e,c,rfl⟩:=WN d;exact(h.table.2.2 e c).1
def El{a:List (List aC)}{b j:Nat}{r:List aC}(h:r∈ea a b j):r∈a:=List.mem_of_mem_drop (XV h)
def sJ.col{cs:List bQ}{k:List (List aC)}{es:List Int}{c:Nat}(h:sJ cs k es c)(j p:Nat)(e:p<cs.length):∀x∈bS (ea k c j) p,gD x cs[p].kind=Z/\tv x:=by
 intro x g;unfold bS at g;obtain⟨i,m,rfl⟩:=Wu.1 g;have f:=El m;obtain⟨o,l,n⟩:=WN f;have b:=h.table.2.2 o l;rw[n] at b;have a:p<i.length:=by rw[b.1];exact e
 have d:=b.2 p a e;rw[Vk,Vf a];exact⟨d,Ai (h.vals i f _ (Vn a)) d⟩
def sJ.cut{cs:List bQ}{b:List (List aC)}{es:List Int}{a:Nat}(h:sJ cs b es a)(j p:Nat):(bS (ea b a j) p).length<=100:=by
 rw[jN,iq];have:=h.hi;omega
def sJ.Kk{cs:List bQ}{b:List (List aC)}{es:List Int}{a:Nat}(h:sJ cs b es a):es.length=cs.length:=h.n5.1.symm
def sJ.mb{cs:List bQ}{c:List (List aC)}{es:List Int}{a:Nat}(h:sJ cs c es a)(d:Bool)(j p:Nat)(b:p<cs.length):
 Ee (ea c a j) cs es d p=⟨strOf (bD cs[p].kind (es.getD p 0) (bS (ea c a j) p)),if d then cy (bS (ea c a j) p) else cK⟩:=by
 rw[I5 b (by rw[h.Kk];exact b)];have e:=h.col j p b;rw[MZ (by have:=h.cut j p;omega) (h.n5.2 p b) (λg f=>(e _ (Vn f)).1)]
def sJ.chunks{cs:List bQ}{d:List (List aC)}{es:List Int}{a:Nat}(h:sJ cs d es a)(e:Bool)(j:Nat):∀c∈eD (ea d a j) cs es e cs.length,c.text.size<=110000/\tv c.eU.least/\tv c.eU.most/\(j*a<d.length->0<c.text.size):=by
 intro c k;unfold eD at k;obtain⟨b,f,rfl⟩:=Wu.1 k;have f:=WK.1 f;rw[h.mb e j b f];have l:∀g∈bS (ea d a j) b,tv g:=λg n=>(h.col j b f g n).2;have m:=Gw Aj _ l;have i:tv (if e=Z then cy (bS (ea d a j) b) else cK).least/\tv (if e=Z then cy (bS (ea d a j) b) else cK).most:=by
  cases e
  ·exact⟨Aj,Aj⟩
  ·exact m
 refine⟨?_,i.1,i.2,λo=>?_⟩
 ·show(strOf _).size<=_;rw[nu];exact GG l (h.cut j b)
 ·show 0<(strOf _).size;rw[nu];refine Eg ?_;rw[jN,iq];have:=h.lo;omega
def sJ.Ul{cs:List bQ}{e:List (List aC)}{es:List Int}{c:Nat}(h:sJ cs e es c)(f:Bool)(j:Nat):DO cs.length (nJ (ea e c j) cs es f):=by
 have d:=h.chunks f j;refine⟨?_,dM _ _ _ _ _,λa b=>?_,λa b=>(d a b).2.1,λa b=>(d a b).2.2.1⟩
 ·show(ea e c j).length<_;rw[iq];have:=h.hi;omega
 ·have:=(d a b).1;omega
def sJ.nb{cs:List bQ}{b:List (List aC)}{es:List Int}{a:Nat}(h:sJ cs b es a):fJ b.length a<=2000:=by
 have d:=h.table.2.1;have e:=h.lo;unfold fJ;have:=Nat.div_le_self (b.length+a-1) a;rcases WG a 2 with c|c
 ·have:a=1:=by omega
  subst this;simp;omega
 ·have f:=Nat.div_mul_le_self (b.length+a-1) a;have g:(b.length+a-1)/a*2<=(b.length+a-1)/a*a:=Nat.mul_le_mul_left _ c;have:=h.hi;omega
def sJ.cj{cs:List bQ}{e:List (List aC)}{es:List Int}{a:Nat}(h:sJ cs e es a)(c:Bool)(n:Nat):∀b∈dH e cs es c a n,DO cs.length b:=by
 intro b d;unfold dH at d;obtain⟨f,-,rfl⟩:=Wu.1 d;exact h.Ul c f
def sJ.pos{cs:List bQ}{d:List (List aC)}{es:List Int}{a:Nat}(h:sJ cs d es a)(e:Bool):∀b∈dH d cs es e a (fJ d.length a),∀c∈b.chunks,0<c.text.size:=by
 intro b f c i;unfold dH at f;obtain⟨g,j,rfl⟩:=Wu.1 f;exact(h.chunks e g c i).2.2.2 ((qs h.lo g).2 (WK.1 j))
def sJ.body{cs:List bQ}{b:List (List aC)}{es:List Int}{a:Nat}(h:sJ cs b es a)(c:Bool):(bO (dH b cs es c a (fJ b.length a))).length<=10000000000:=by
 have i:=tK (λf:Bd=>b9 f.chunks) 880000 (dH b cs es c a (fJ b.length a)) (λf g=>by
  unfold dH at g;obtain⟨d,-,rfl⟩:=Wu.1 g;have j:=tK (λe:j8=>bytesOf e.text) 110000 (eD (ea b a d) cs es c cs.length) (λe k=>by rw[ak];exact(h.chunks c d e k).1);have l:=h.table.1.2.1;rw[dM] at j;show(List.flatMap _ _).length<=_;have:(nJ (ea b a d) cs es c).chunks=eD (ea b a d) cs es c cs.length:=rfl;rw[this];omega)
 have m:=h.nb;rw[nX] at i;show(List.flatMap _ _).length<=_;omega
def ki (cs:List bQ)(b:List (List aC))(es:List Int)(c:Bool)(a:Nat):List Nat:=yx cs es (dH b cs es c a (fJ b.length a))
def Mm (cs:List bQ)(a:List (List aC))(b:Int)(es:List Int)(c:Bool)(s:ByteArray)(n:Int):Prop:=
 (¬iG cs a/\s=⟨#[]⟩/\n=1)\/(iG cs a/\¬mI b es cs/\s=⟨#[]⟩/\n=2)\/
 (iG cs a/\mI b es cs/\65536<(ki cs a es c b.toNat).length/\s=⟨#[]⟩/\n=6)\/
 (iG cs a/\mI b es cs/\¬ 65536<(ki cs a es c b.toNat).length/\s=strOf (ki cs a es c b.toNat)/\n=0)
end Ec
namespace Ec
open Go.RowKit Pk
def vt{w:F}{g:Nat}{C:Array U}{t:Vc}(h:w.heap[g]? =I (.cells C t (0,0))):w.rangeAt g 0 C.toList:=by
 intro b v a;rw[VV];simp only[Ve,h];simpa using a
def BN{w:F}{g:Nat}{C:Array U}{t:Vc}(h:w.heap[g]? =I (.cells C t (0,0))):w.there g 0 C.size:=by
 intro b a;rw[VV];refine⟨?_,?_⟩
 ·simp[Ve,h,a]
 ·simp[VW,h]
theorem mN{g k:Nat}(h:k≠g):∀(vs:List U) (o:Nat) (w:F),(w.setCells g o vs).heap[k]? =w.heap[k]?
 | [],_,_=>rfl
 |v::a,o,w=>by
  rw[World.setCells,mN h a (o+1)];exact Vj _ _ _ _ (by simpa using h)
def BA{P:Vb}{fn:Func}{R:X6->F->Prop}{a:Xa}{w:F}{p:Tmp}{ty:Vc}{g:Nat}{cs:List U}{d:TypeDesc}(k:fn.results=#[.cell p ty])(c:a.defers=[])
 (i:a.tmps.getD p V9=(aP g)) (hc:w.rangeAt g 0 cs) (l:P.underlying ty=I d) (e:d.isRow=Z) (f:(P.info? ty).map (·.size)=I cs.length) (h:R (.returned (.agg cs.toArray)) w):Xw P fn R .ret a w:=by
 refine bodyPost_ret (v:=.agg cs.toArray) ?_ c h;have b:=run_loadVar_mid w g 0 ty cs d hc l e f;have j:a.tmps[p]?.getD V9=(aP g):=by simpa using i
 simp[V0,k,j,asAddr,XW,Result.andThen,b]
end Ec
namespace Ec
open Go.RowKit Pk Pm
def Ma (k:Int)(b:lZ):Prop:=b=cK\/(b.there=Z/\VK k b.least/\VK k b.most/\¬ 0<jI b.least b.most)
def aF (b:lZ):Array U:= #[.bool b.there,.bool b.least.null,.int .i64 b.least.n,.string b.least.s,.bool b.most.null,.int .i64 b.most.n,.string b.most.s]
theorem Kp.SA{r g:Nat}{w:F}(c:w.heap.size<=g):∀(vs:List U) (o:Nat) (a:F),Kp r w a->Kp r w (a.setCells g o vs)
 | [],_,_,b=>b
 |v::e,o,a,b=>Kp.SA c e (o+1) _ (b.grown (aL a g o v) (λf d=>by cases d;exact c))
def Fw{w:F}{g:Nat}{b:lZ}{t:Vc}(h:w.heap[g]? =I (.cells (aF b) t (0,0))):(w.cell? ⟨g,0,K⟩=I (.bool b.there)/\w.cell? ⟨g,1,K⟩=I (.bool b.least.null)/\w.cell? ⟨g,2,K⟩=I (.int .i64 b.least.n)/\w.cell? ⟨g,3,K⟩=I (.string b.least.s)/\w.cell? ⟨g,4,K⟩=I (.bool b.most.null)/\w.cell? ⟨g,5,K⟩=I (.int .i64 b.most.n)/\w.cell? ⟨g,6,K⟩=I (.string b.most.s))/\∀j,w.frozen? ⟨g,j,K⟩=U5:=by
 unfold aF at h;refine⟨⟨?_,?_,?_,?_,?_,?_,?_⟩,λj=>by simp[VW,h]⟩<;>simp[Ve,h]
def IY (w:F)(r p:Nat)(s:ByteArray)(k:Int)(e:X6)(w':F):Prop:=
 Kp r w w'/\((∃a:lZ,e= .returned (Gy a)/\Ma k a/\ai (bytesOf s) p (cw k a)/\p+(cw k a).length<=s.size/\w'.heap[r]? =I (bY s (p+(cw k a).length)))\/
  (∃b,e= .panicked (ez b)/\∀a:lZ,Ma k a->¬ai (bytesOf s) p (cw k a)))
def zq(k:Int)(H:k=1\/k=2\/k=3)(r p:Nat)(s:ByteArray)(w:F)(a1:s.size<=Vp)(a2:p<=s.size)(h:w.heap[r]? =I (bY s p)):
 bK 87 #[(aP r),.int .i64 k] w (IY w r p s k):=by
 have c3:r<w.heap.size:=Va h;have b2:X ((w.alloc (.cells (aF cK) 100)).heap[r]? =I (bY s p)):=by
  show _=_;rw[VH _ _ r c3];exact h
 have a7:X (Kp r w (w.alloc (.cells (aF cK) 100))):=(Kp.refl r w).alloc _;have da:X (∀p,p<=s.size->∀a3,ai (bytesOf s) p a3->p+a3.length<=s.size):=λp a2 a3 b=>by have:=gJ b (by rw[ak];exact a2);rwa [ak] at this
 go_enter av.func87,Tryz.ntmps87
 go_wp2_with fail
 refine(Cn r p s _ a1 a2 b2.o).mono ?_;rintro i A ⟨au,⟨dl,rfl,f,c4,cR,bk⟩|⟨u,rfl,z⟩⟩;rotate_left
 ·have x:X (∀e:lZ,Ma k e->¬ai (bytesOf s) p (cw k e)):=λe f b=>by
   rcases f with rfl|⟨t,-⟩
   ·exact z 0 (.inl Y) b
   ·unfold cw at b;rw[if_pos t] at b;exact z 1 (.inr Y) (ap.1 b).1
  have B:X (Kp r w A):=a7.o.trans au;go_wp2;exact⟨rfl,B.o,.inr ⟨u,rfl,x.o⟩⟩
 ·have B:X (Kp r w A):=a7.o.trans au;have S:X (A.heap[w.heap.size]? =I (.cells (aF cK) 100 (0,0))):=Kp.block au (Xf w _) (by omega);have a9:=af cR;have ba:=af c4;rcases f with rfl|rfl
  ·have b8:X (A.there w.heap.size 0 (aF cK).size):=BN S.o;have ae:X ((A.setCells w.heap.size 0 (aF cK).toList).rangeAt w.heap.size 0 (aF cK).toList):=World.rangeAt_setCells_same _ _ _ _ b8.o;obtain⟨⟨ca,cb,cc,cd,cf,ch,ci⟩,j⟩:=Fw S.o;have ck:=j 0;have cl:=j 1;have cn:=j 2;have co:=j 3;have cp:=j 4;have cs:=j 5;have cu:=j 6;have U:X (IY w r p s k (.returned (.agg (aF cK).toList.toArray)) (A.setCells w.heap.size 0 (aF cK).toList)):=⟨Kp.SA (U7 _) _ _ _ B.o,.inl ⟨cK,rfl,.inl Y,ba.o,bk,(mN (by omega) _ _ _).trans a9.o⟩⟩;go_wp2;exact BA Tryz.results87 Y Y ae.o av.underlying100 Y (by kernel_rfl) U.o
  ·have N:=af ba.o
   go_upto_region 3 with fail
   have b0:X (∀d,d.heap[r]? =I (bY s (p+1))->bK 104 #[(aP r),.int .i64 k] d λi o=>Kp r d o/\((∃v:aC,i= .returned (.agg (j9 v))/\VK k v/\ai (bytesOf s) (p+1) (aU k v)/\p+1+(aU k v).length<=s.size/\o.heap[r]? =I (bY s (p+1+(aU k v).length)))\/(∃u,i= .panicked (ez u)/\∀v:aC,VK k v->¬ai (bytesOf s) (p+1) (aU k v)))):=λd G=>jY k H r (p+1) s d a1 bk G
   go_wp2_with fail
   refine(b0.o _ a9.o).mono ?_;rintro i q ⟨aw,⟨c,rfl,c7,c5,bl,bi⟩|⟨u,rfl,z⟩⟩;rotate_left
   ·have x:X (∀e:lZ,Ma k e->¬ai (bytesOf s) p (cw k e)):=λe f b=>by
     rcases f with rfl|⟨t,y,-⟩
     ·have:=iD N.o (show ai (bytesOf s) p [0] from b) Y;simp at this
     ·unfold cw at b;rw[if_pos t] at b;exact z _ y (ap.1 (ap.1 b).2).1
    have K:X (Kp r w q):=B.o.trans aw;go_wp2;exact⟨rfl,K.o,.inr ⟨u,rfl,x.o⟩⟩
   ·have ad:=af c7;have ab:=af c5;obtain⟨g,bm⟩:∃g,g=p+1+(aU k c).length:=⟨_,rfl⟩;have L:=af bm;rw[<-bm] at bl bi;have K:X (Kp r w q):=B.o.trans aw;have a4:X (q.heap[w.heap.size]? =I (.cells (aF cK) 100 (0,0))):=Kp.block aw S.o (by omega);have df:w.heap.size<q.heap.size:=Va a4.o;have b4:X ((q.alloc (.cells (j9 c) 54)).heap[r]? =I (bY s g)):=by
     show _=_;rw[VH _ _ r (by omega)];exact bi
    have b1:X (∀d,d.heap[r]? =I (bY s g)->bK 104 #[(aP r),.int .i64 k] d λi o=>Kp r d o/\((∃v:aC,i= .returned (.agg (j9 v))/\VK k v/\ai (bytesOf s) g (aU k v)/\g+(aU k v).length<=s.size/\o.heap[r]? =I (bY s (g+(aU k v).length)))\/(∃u,i= .panicked (ez u)/\∀v:aC,VK k v->¬ai (bytesOf s) g (aU k v)))):=λd G=>jY k H r g s d a1 bl G
    go_upto_region 4 with fail
    go_wp2_with fail
    refine(b1.o _ b4.o).mono ?_;rintro i m ⟨Q,⟨a,rfl,c8,c6,c2,c0⟩|⟨u,rfl,z⟩⟩;rotate_left
    ·have x:X (∀e:lZ,Ma k e->¬ai (bytesOf s) p (cw k e)):=λe f b=>by
      rcases f with rfl|⟨t,y,E,-⟩
      ·have:=iD N.o (show ai (bytesOf s) p [0] from b) Y;simp at this
      ·unfold cw at b;rw[if_pos t] at b;obtain⟨a0,f⟩:=ap.1 (ap.1 b).2;have:=mA H y ad.o a0 ab.o;rw[this] at f;refine z _ E ?_;rw[L.o];exact f
     have V:X (Kp r w m):=(K.o.alloc _).trans Q;go_wp2;exact⟨rfl,V.o,.inr ⟨u,rfl,x.o⟩⟩
    ·have bd:=af c8;have bb:=af c6;have b3:=af c0;have V:X (Kp r w m):=(K.o.alloc _).trans Q;have bz:X (m.heap[w.heap.size]? =I (.cells (aF cK) 100 (0,0))):=Kp.block Q (alloc_old _ (by omega) a4.o) (by omega);have bc:X (m.heap[q.heap.size]? =I (.cells (j9 c) 54 (0,0))):=Kp.block Q (bC q _) (by omega);have b7:X (∀e:lZ,Ma k e->ai (bytesOf s) p (cw k e)->e=⟨Z,c,a⟩):=λe f b=>by
      rcases f with rfl|⟨t,y,E,-⟩
      ·have:=iD N.o (show ai (bytesOf s) p [0] from b) Y;simp at this
      ·unfold cw at b;rw[if_pos t] at b;obtain⟨a0,f⟩:=ap.1 (ap.1 b).2;have ar:=mA H y ad.o a0 ab.o;rw[ar,show p+[1].length+(aU k c).length=g from L.o.symm] at f;have be:=mA H E bd.o f bb.o;obtain⟨dd,db,dc⟩:=e;simp only at t ar be;subst t ar be;rfl
     have b5:X (ai (bytesOf s) p (cw k ⟨Z,c,a⟩)):=by
      show ai _ _ ([1]++(aU k c++aU k a));refine ap.2 ⟨N.o,ap.2 ⟨ab.o,?_⟩⟩;rw[show p+[1].length+(aU k c).length=g from L.o.symm];exact bb.o
     have dk:q.heap.size<m.heap.size:=Va bc.o;have T:X (∀d,bK 80 #[.agg (j9 c),.agg (j9 a)] d λi o=>i= .returned (.int .i64 (jI c a))/\aQ d o):=λd=>jC c a d
     go_upto_region 5 with fail
     have a6:X (Kp r w (m.alloc (.cells (j9 a) 54))):=V.o.alloc _;have M:X ((m.alloc (.cells (j9 a) 54)).heap[r]? =I (bY s (g+(aU k a).length))):=alloc_old _ (by omega) b3.o;have J:X ((m.alloc (.cells (j9 a) 54)).heap[w.heap.size]? =I (.cells (aF cK) 100 (0,0))):=alloc_old _ (by omega) bz.o;have C:X ((m.alloc (.cells (j9 a) 54)).heap[q.heap.size]? =I (.cells (j9 c) 54 (0,0))):=alloc_old _ (by omega) bc.o;have D:X ((m.alloc (.cells (j9 a) 54)).heap[m.heap.size]? =I (.cells (j9 a) 54 (0,0))):=bC m _;generalize m.alloc (.cells (j9 a) 54)=dn at*;generalize q.heap.size=O at*;generalize m.heap.size=P at*;obtain⟨br,bs,bt⟩:=bW C.o;obtain⟨bu,bv,bx⟩:=bW D.o;have bA:X (∀d,d.heap[r]? =I (bY s (g+(aU k a).length))->bK 73 #[(aP r)] d λi o=>i= .panicked (ez (g+(aU k a).length))/\Kp r d o):=λd G=>(bU r _ s d G).mono (λi o ⟨y,E⟩=>⟨y,by subst E;exact Kp.refl r _⟩);obtain⟨ao,bj⟩:∃ao,ao=jI c a:=⟨_,rfl⟩;rw[<-bj] at T;have a5:=af bj;by_cases bo:0<ao
     ·go_upto_region 6 with(go_at_call 80;refine(T.o _).mono ?_;rintro i l ⟨rfl,n⟩;have al:X (l.heap[O]? =I (.cells (j9 c) 54 (0,0))):=(n.block O (Va C.o)).trans C.o;have am:X (l.heap[P]? =I (.cells (j9 a) 54 (0,0))):=(n.block P (Va D.o)).trans D.o;have R:X (l.heap[w.heap.size]? =I (.cells (aF cK) 100 (0,0))):=(n.block _ (Va J.o)).trans J.o;have aa:X (l.heap[r]? =I (bY s (g+(aU k a).length))):=(n.block _ (Va M.o)).trans M.o;have W:X (Kp r w l):=a6.o.trans (Kp.cr n);obtain⟨br,bs,bt⟩:=bW al.o;obtain⟨bu,bv,bx⟩:=bW am.o)
      go_wp2_with fail
      refine(bA.o _ aa.o).mono ?_;rintro i c9 ⟨rfl,cB⟩;have x:X (∀e:lZ,Ma k e->¬ai (bytesOf s) p (cw k e)):=λe f b=>by
       have c1:=b7.o e f b;subst c1;rcases f with cv|⟨-,-,-,cx⟩
       ·simp[cK] at cv
       ·exact cx (by rw[a5.o] at bo;exact bo)
      have bB:X (Kp r w c9):=W.o.trans cB;go_wp2;exact⟨rfl,bB.o,.inr ⟨_,rfl,x.o⟩⟩
     ·go_upto_region 7 with(go_at_call 80;refine(T.o _).mono ?_;rintro i l ⟨rfl,n⟩;have al:X (l.heap[O]? =I (.cells (j9 c) 54 (0,0))):=(n.block O (Va C.o)).trans C.o;have am:X (l.heap[P]? =I (.cells (j9 a) 54 (0,0))):=(n.block P (Va D.o)).trans D.o;have R:X (l.heap[w.heap.size]? =I (.cells (aF cK) 100 (0,0))):=(n.block _ (Va J.o)).trans J.o;have aa:X (l.heap[r]? =I (bY s (g+(aU k a).length))):=(n.block _ (Va M.o)).trans M.o;have W:X (Kp r w l):=a6.o.trans (Kp.cr n);obtain⟨br,bs,bt⟩:=bW al.o;obtain⟨bu,bv,bx⟩:=bW am.o)
      obtain⟨⟨ca,cb,cc,cd,cf,ch,ci⟩,j⟩:=Fw R.o;have ck:=j 0;have cl:=j 1;have cn:=j 2;have co:=j 3;have cp:=j 4;have cs:=j 5;have cu:=j 6;have b6:X (l.there w.heap.size 0 (aF ⟨Z,c,a⟩).size):=(show l.there w.heap.size 0 7 from BN R.o);have ae:X ((l.setCells w.heap.size 0 (aF ⟨Z,c,a⟩).toList).rangeAt w.heap.size 0 (aF ⟨Z,c,a⟩).toList):=World.rangeAt_setCells_same _ _ _ _ b6.o;have a8:X (p+(cw k ⟨Z,c,a⟩).length=g+(aU k a).length):=by
       show p+([1]++(aU k c++aU k a)).length=_;have:=L.o;simp only[U8,List.length_singleton];omega
      have U:X (IY w r p s k (.returned (.agg (aF ⟨Z,c,a⟩).toList.toArray)) (l.setCells w.heap.size 0 (aF ⟨Z,c,a⟩).toList)):=⟨Kp.SA (U7 _) _ _ _ W.o,.inl ⟨⟨Z,c,a⟩,rfl,.inr ⟨rfl,ad.o,bd.o,by rw[<-a5.o];omega⟩,b5.o,by rw[a8.o];exact c2,(mN (by omega) _ _ _).trans (by rw[a8.o];exact aa.o)⟩⟩;go_wp2;exact BA Tryz.results87 Y Y ae.o av.underlying100 Y (by kernel_rfl) U.o
def Fs(s:ByteArray)(w:F)(E:s.size<=65536):bK 74 #[.string s] w λe w'=>e= .returned (.string s)/\aQ w w':=by
 by_cases j:s.size=0
 ·obtain rfl:s=⟨#[]⟩:=ByteArray.ext (Array.eq_empty_of_size_eq_zero j);go_enter av.func74,Tryz.ntmps74;go_wp2;go_ret;exact⟨rfl,Vi _ _⟩
 ·obtain⟨m,g,x,h,y⟩:=Wo av.tQ;have u:((ax U1).info? 5).map (·.size)=I 1:=by rw[g];simp[h]
  have q:(ax U1).cellsOf 5=1:=by simp[Program.cellsOf,g,h]
  obtain⟨a,d⟩:∃a,a=YH (Xm .u8 0).cells (((s.size:Nat):Int).toNat*m.size):=⟨_,rfl⟩;have A:a.size=s.size:=by rw[d,size_madeCells,h];simp
  have D:∀c:F,(YZ 95 (.int .i64 (s.size:Int)) (.int .i64 (s.size:Int))).run (ax U1) c= .ok (.slice (I ⟨c.heap.size,0,K⟩) s.size s.size) (c.alloc (.cells a 5)):=λc=>by
   have i:=run_make (P:=(ax U1)) c 95 5 m (.int .u8 0) av.underlying95 g x .i64 .i64 (s.size:Int) (s.size:Int) (by omega) (by omega) (by rw[y];omega) (by omega);rw[<-d] at i;simpa using i
  clear d;have r:=Lib.run_copy_row_string (P:=(ax U1)) (w.alloc (.cells a 5)) 95 9 3 5 w.heap.size 0 s.size s.size s a 5 av.underlying95 u (Xf w _) (U7 _) (by omega);obtain⟨b,f⟩:∃b,b=(a.toList.take 0++Lib.byteCells s.data.toList++a.toList.drop (0+s.size)).toArray:=⟨_,rfl⟩;rw[<-f] at r;have k:b.toList=Lib.byteCells s.data.toList:=by
   rw[f,List.toList_toArray,List.take_zero,Yn,List.drop_of_length_le (by rw[WW];omega),WM]
  have B:b.size=s.size:=by rw[<-WW,k,Lib.byteCells_length,<-Y4]
  have l:((w.alloc (.cells a 5)).setRow w.heap.size b).heap[w.heap.size]? =I (.cells b 5 (0,0)):=setRow_heap _ _ a _ 5 (0,0) (Xf w _);have t:s.data.toList≠[]:=λe=>j (by rw[Y4,e];rfl);have n:=Lib.run_unsafeString_row (P:=(ax U1)) ((w.alloc (.cells a 5)).setRow w.heap.size b) 162 3 9 5 av.underlying162 q w.heap.size b.size (by unfold World.shape?;rw[l]) s.data.toList t (by rw[<-Y4];omega) (by rw[<-Y4];omega)
   (λz H v=>Lib.cells_of_row l b.size z _ (by rw[VJ (by rw[WW];exact U7 _),k];simp[Lib.byteCells,v]))
  rw[<-Y4] at n;clear f;go_enter av.func74,Tryz.ntmps74;go_wp2;go_ret;have o:aQ w (w.alloc (.cells a 5)):=(Vi _ w).alloc (U7 _) _;have p:XC w.heap.size (w.alloc (.cells a 5)) ((w.alloc (.cells a 5)).setRow w.heap.size b):=⟨rfl,rfl,rfl,by simp,λG C=>setRow_other _ _ _ _ (by omega)⟩;exact⟨rfl,Lib.below_freeze (o.trans p) (p:=⟨w.heap.size,0,K⟩) (U7 _) _⟩
def yg(s:ByteArray)(w:F)(b:s.size<=65536):bK 46 #[.string s] w λe w'=>e= .returned (.string s)/\aQ w w':=by
 go_enter av.func46,Tryz.ntmps46
 go_wp2_with fail
 refine(Fs s _ b).mono ?_;rintro e w' ⟨rfl,a⟩;go_wp2;go_ret;exact⟨rfl,a⟩
def Bc(r p:Nat)(s:ByteArray)(w:F)(d:s.size<=Vp)(f:p<=s.size)(h:w.heap[r]? =I (bY s p)):
 bK 85 #[(aP r)] w λe w'=>Kp r w w'/\((∃b:Nat,e= .returned (.int .u8 (b:Int))/\b<256/\ai (bytesOf s) p [b]/\p+1<=s.size/\w'.heap[r]? =I (bY s (p+1)))\/
  (∃q,e= .panicked (ez q)/\∀b:Nat,¬ai (bytesOf s) p [b])):=by
 by_cases a:p<s.size
 ·refine(xw r p s w d a h).mono ?_;rintro e w' ⟨rfl,c,rfl⟩;exact⟨(Kp.refl r w).set 1 _ c,.inl ⟨_,rfl,s[p].toNat_lt,dA.2 (tF s p a),a,mo h c⟩⟩
 ·refine(tG r p s w d a f h).mono ?_;rintro e w' ⟨rfl,c,rfl⟩;refine⟨(Kp.refl r w).drewN c,.inr ⟨_,rfl,λb g=>?_⟩⟩;have:=gJ g (by rw[ak];exact f);rw[ak] at this;simp at this;omega
def B0(r p c:Nat)(s:ByteArray)(w:F)(f:s.size<=Vp)(g:p<=s.size)(hc:c<=2147483648)(h:w.heap[r]? =I (bY s p)):
 bK 84 #[(aP r),.int .i64 (c:Int)] w λe w'=>Kp r w w'/\((∃x:ByteArray,e= .returned (.string x)/\x.size=c/\ai (bytesOf s) p (bytesOf x)/\p+c<=s.size/\w'.heap[r]? =I (bY s (p+c)))\/
  (∃q,e= .panicked (ez q)/\∀d:List Nat,d.length=c->¬ai (bytesOf s) p d)):=by
 by_cases b:p+c<=s.size
 ·refine(FP r p c s w f b h).mono ?_;rintro e w' ⟨rfl,a,rfl⟩;refine⟨(Kp.refl r w).set 1 _ a,.inl ⟨_,rfl,by rw[ByteArray.size_extract];omega,?_,b,mo h a⟩⟩;rw[dm];exact List.take_prefix _ _
 ·refine(BZ r p c s w f hc b g h).mono ?_;rintro e w' ⟨rfl,a,rfl⟩;refine⟨(Kp.refl r w).drewN a,.inr ⟨_,rfl,λd j i=>?_⟩⟩;have:=gJ i (by rw[ak];exact g);rw[ak] at this;omega
end Ec
end Go.Proofs.YtjidbonhhpkljabGreat
