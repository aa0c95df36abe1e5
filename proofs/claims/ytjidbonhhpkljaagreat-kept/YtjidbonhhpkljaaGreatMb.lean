/- What the proof stands on, in short names. -/
import Derived.Test.YtjidbonhhpkljaaGreatMa
import Derived.Lib.AppendStr
import Derived.Lib.Strings
import Derived.Lib.Slices
import Derived.Lib.Small
import Derived.Lib.Walk
import Derived.Lib.BitFns
import Derived.Maps.OwnSet
import Derived.Maps.OwnOps
import Derived.DeepKeys4
import Derived.Lib.BufferWrite
import Derived.Lib.UnsafeStr
import Derived.Laws.MakeOwn
import Derived.WalkSpells
import Derived.Deep.CutBlock
import Derived.Deep.RegionHeld
import Derived.Lib.Bytealg
import Derived.Deep.RegionHeld3
import Derived.Deep.AppendLies
import Derived.OrdersHeld
import Derived.RegionTactic
import Derived.Outline
import Derived.Deep.MidRow
set_option linter.all false
open Array renaming getElem?_eq_none->Vm,length_toList->Wb,replicate->U4
open BitVec renaming ofInt->Xd
open Bool renaming and_eq_true->Ux,false->T8,false_eq_true->UC,not_eq_true'->WR,true->Z
open Go renaming Act->V7,Addr->UK,Obj->Xx,Oper->Vv,Program->Ug,TypeId->Ui,Value->U,World->F,bodyPost->VS,execOp->UI,getD_set_ne->XD,heap_alloc_new->V5,heap_setCell_other->Uv,heap_setCell_same->Us,info_parts->Vg,lt_of_block->Uf,maxLen->Ur,results->UY,undef->Vl,wpList_append_fits->VI,wpList_make_own->Wc,yielded->Vk
open Go.Act renaming put->UX
open Go.Addr renaming add->Ys,add_lit->VM
open Go.Addr.mk renaming injEq->Wi
open Go.Builtin renaming append_->XY
open Go.ByteArray renaming toList_eq->XL
open Go.Extern.BytealgCompare renaming compare->XA
open Go.IntKind renaming bits->Yh,i64->XO,signed->XV,u64->Wm,u8->Yv,wrap_i64->Xa
open Go.Lib renaming compareBytes->Vf,size_eq->X5
open Go.Maps.Keyed renaming of_law->Y4
open Go.Proofs.Tryz renaming prog->T5
open Go.Region renaming binds->Vo,ready->U0,wanted->UG
open Go.RowKit renaming Below->WN,intOf->UT,wrap64->Vd
open Go.RowKit.Below renaming heap_alloc->UO,refl->Uq
open Go.Sem renaming run_bind->WK
open Go.Value renaming bool->WQ,int->VZ,ownBlock->VA,slice->Vc
open Go.Value.slice renaming injEq->VB
open Go.World renaming cell?->Ut,frozen?->UR,ownsRow_nil->Vq
open Go.World.grownBy renaming block->Ww
open List renaming all_eq_true->UA,append_assoc->UD,cons_append->We,eq_nil_of_length_eq_zero->Vi,flatMap_append->Vj,flatMap_singleton->Ve,getD->Yx,getD_eq_getElem?_getD->Uj,getElem?_append_left->Vx,getElem?_append_right->Vp,getElem?_eq_getElem->Uo,getElem?_eq_some_iff->UB,getElem_mem->Uk,getElem_of_mem->Vw,getElem_take->VG,length_append->Ub,length_drop->Xc,length_eq_zero_iff->Wh,length_map->UH,length_take->Vt,map_append->U1,map_cons->Xy,map_singleton->Wq,mem_append->U2,mem_cons->VN,mem_map->U8,mem_of_mem_take->V6,range->UL,range_succ->XK,replicate->VF,setIfInBounds_toArray->Ud,set_cons_succ->Ul,set_cons_zero->Um,take_length->Vh,take_of_length_le->UP,take_succ_eq_append_getElem->Up
open List.cons renaming injEq->Xl
open Nat renaming add_assoc->U6,le_refl->T9,le_trans->Uz,lt_of_lt_of_le->Ue,lt_or_ge->Vz,mod_eq_of_lt->Xw,mul_comm->Xz,mul_le_mul->Wt,mul_le_mul_left->Xk,pow_add->Xm,pow_le_pow_right->VP,pow_succ->WM,zero_add->UU,zero_le->UF
open Option renaming bind_some->XT,getD_some->V3,none->K,some->I
open Option.some renaming injEq->U9
open Prod renaming fst->Uy,snd->VV
set_option maxRecDepth 100000
set_option maxHeartbeats 8000000
namespace Go.Proofs.YtjidbonhhpkljaaGreat
namespace Ec
open Go.RowKit Pk Pm
def ai (B:List Nat)(p:Nat)(a:List Nat):Prop:=a <+:B.drop p
def mU(B:List Nat)(p:Nat):ai B p []:=List.nil_prefix
def au{B:List Nat}{p:Nat}{a b:List Nat}:ai B p (a++b)↔ai B p a/\ai B (p+a.length) b:=by
 unfold ai;constructor
 ·rintro⟨e,c⟩;refine⟨⟨b++e,by rw[<-c];simp⟩,⟨e,?_⟩⟩;rw[<-List.drop_drop,<-c];simp
 ·rintro⟨⟨e,c⟩,⟨f,d⟩⟩;refine⟨f,?_⟩;rw[<-List.drop_drop,<-c] at d;simp at d;rw[<-c,UD,d]
def eX{B:List Nat}{p x:Nat}{r:List Nat}:ai B p (x::r)↔B[p]? =I x/\ai B (p+1) r:=by
 rw[show x::r=[x]++r from rfl,au];have:ai B p [x]↔B[p]? =I x:=by
  unfold ai;rw[<-List.head?_drop];cases B.drop p with
  |nil=>simp
  |cons b a=>simp[List.cons_prefix_cons];exact eq_comm
 rw[this];rfl
def dI{B:List Nat}{p x:Nat}:ai B p [x]↔B[p]? =I x:=by
 rw[eX];simp[mU]
def gK{B:List Nat}{p:Nat}{a:List Nat}(h:ai B p a)(b:p<=B.length):p+a.length<=B.length:=by
 have:=h.length_le;rw[Xc] at this;omega
def CR{B a:List Nat}(h:ai B 0 a)(b:¬ 0+a.length<B.length):a=B:=by
 unfold ai at h;rw[List.drop_zero] at h;exact h.eq_of_length_le (by omega)
def eP{B a:List Nat}(h:a=B):ai B 0 a:=by
 subst h;unfold ai;exact List.prefix_refl _
def iE{B:List Nat}{p:Nat}{a b:List Nat}(c:ai B p a)(d:ai B p b)(e:a.length=b.length):a=b:=
 (List.prefix_of_prefix_length_le c d (by omega)).eq_of_length e
def qz{B:List Nat}{p f c x:Nat}(hc:B[p]? =I c)(h:128<=c)(a:ai B p (iU (f+1) x)):128<=x/\x%128+128=c/\ai B (p+1) (iU f (x/128)):=by
 by_cases b:x<128
 ·rw[fM f x b,dI,hc] at a;simp at a;omega
 ·rw[iS f x b,eX,hc] at a;simp at a;exact⟨by omega,a.1.symm,a.2⟩
def mV{B:List Nat}{p f c x:Nat}(hc:B[p]? =I c)(h:c<128):ai B p (iU (f+1) x)↔x=c:=by
 by_cases a:x<128
 ·rw[fM f x a,dI,hc];simp;exact eq_comm
 ·rw[iS f x a,eX,hc];simp;omega
structure BG(B:List Nat)(p j acc:Nat):Prop where
 lt:acc<128^j
 all:∀v,v<18446744073709551616->(ai B p (aL v)↔∃x,v=acc+128^j*x/\(x≠0\/j=0)/\ai B (p+j) (iU (10-j) x))
 len:∀x,(x≠0\/j=0)->(aL (acc+128^j*x)).length=j+(iU (10-j) x).length
def BG.zero(B:List Nat)(p:Nat):BG B p 0 0:=
 ⟨by simp,λv _=>⟨λb=>⟨v,by simp,.inr Y,b⟩,fun⟨d,a,_,c⟩=>by simp at a;subst a;exact c⟩,λd _=>by simp[aL]⟩
def BG.more{B:List Nat}{p j b c:Nat}(h:BG B p j b)(r:j<10)(hc:B[p+j]? =I c)(h1:128<=c)(n:c<256):BG B p (j+1) (b+128^j*(c-128)):=by
 have t:=h.lt;have g:10-j=(10-(j+1))+1:=by omega
 have s:∀a,c-128+128*a=128*a+(c-128):=λa=>by omega
 have f:∀a,b+128^j*(c-128)+128^(j+1)*a=b+128^j*(c-128+128*a):=λa=>by
  rw[WM,Nat.mul_add,Nat.mul_assoc];omega
 refine⟨?_,?_,?_⟩
 ·have d:128^j*(c-128)<=128^j*127:=Xk _ (by omega);rw[WM];omega
 ·intro v m;rw[h.all v m];constructor
  ·rintro⟨a,d,k,e⟩;rw[g] at e;obtain⟨o,q,l⟩:=qz hc h1 e;refine⟨a/128,?_,.inl (by omega),by rw[<-U6];exact l⟩;rw[f,d];congr 2;omega
  ·rintro⟨a,d,k,e⟩;have i:a≠0:=by rcases k with h|h;exact h;omega
   refine⟨c-128+128*a,by rw[d,f],.inl (by omega),?_⟩;rw[g,iS _ _ (by omega),eX];refine⟨by rw[hc];congr 1;omega,?_⟩;rw[show(c-128+128*a)/128=a by omega,U6];exact e
 ·intro a i;have i:a≠0:=by rcases i with h|h;exact h;omega
  rw[f,h.len _ (.inl (by omega)),g,iS _ _ (by omega),show(c-128+128*a)/128=a by omega];simp;omega
def BG.fin{B:List Nat}{p j d c:Nat}(h:BG B p j d)(i:j<10)(hc:B[p+j]? =I c)(h1:c<128)(v:Nat)(g:v<18446744073709551616):
 ai B p (aL v)↔v=d+128^j*c/\(c≠0\/j=0):=by
 rw[h.all v g];have f:10-j=(10-(j+1))+1:=by omega
 constructor
 ·rintro⟨k,a,b,e⟩;rw[f,mV hc h1] at e;subst e;exact⟨a,b⟩
 ·rintro⟨a,b⟩;exact⟨c,a,b,by rw[f,mV hc h1]⟩
def BG.OT{B:List Nat}{p j a c:Nat}(h:BG B p j a)(b:j<10)(h1:c<128)(hc:c≠0\/j=0):(aL (a+128^j*c)).length=j+1:=by
 rw[h.len c hc,show 10-j=(10-(j+1))+1 by omega,fM _ _ h1];rfl
def BG.none{B:List Nat}{p j d:Nat}(h:BG B p j d)(k:j<10)(l:¬p+j<B.length)(v:Nat)(e:v<18446744073709551616):¬ai B p (aL v):=by
 rw[h.all v e];rintro⟨f,g,i,a⟩;rw[show 10-j=(10-(j+1))+1 by omega] at a;have b:B[p+j]? =K:=List.getElem?_eq_none (by omega);by_cases c:f<128
 ·rw[fM _ _ c,dI,b] at a;simp at a
 ·rw[iS _ _ c,eX,b] at a;simp at a
def BG.T2{B:List Nat}{p a:Nat}(h:BG B p 10 a)(v:Nat)(c:v<18446744073709551616):¬ai B p (aL v):=by
 rw[h.all v c];rintro⟨f,b,d,e⟩;have:(128:Nat)^10=1180591620717411303424:=by decide
 rw[this] at b;omega
def BG.top{B:List Nat}{p j a c:Nat}(h:BG B p j a)(f:j<9\/(j=9/\c<=1))(hc:c<128):a+128^j*c<18446744073709551616:=by
 have g:=h.lt;rcases f with d|⟨rfl,d⟩
 ·have e:128^(j+1)<=128^9:=VP (by omega) (by omega);have b:(128:Nat)^9=9223372036854775808:=by decide
  rw[WM] at e;have i:128^j*c<=128^j*127:=Xk _ (by omega);omega
 ·have b:(128:Nat)^9=9223372036854775808:=by decide
  rw[b] at g ⊢;omega
def BG.over{B:List Nat}{p a c:Nat}(h:1<c):¬a+128^9*c<18446744073709551616:=by
 have b:(128:Nat)^9=9223372036854775808:=by decide
 rw[b];omega
def cB{B:List Nat}{p a b:Nat}(e:a<18446744073709551616)(n:b<18446744073709551616)(h1:ai B p (aL a))(d:ai B p (aL b)):a=b:=by
 have j:∀f a b p,a<128^f->b<128^f->ai B p (iU f a)->ai B p (iU f b)->a=b:=by
  intro f
  induction f with
  |zero=>intro a b p h1 d;simp at h1 d;omega
  |succ f i=>
   intro a b p h1 d c g;by_cases e:a<128
   ·rw[fM f a e,dI] at c;exact((mV c e).1 g).symm
   ·rw[iS f a e,eX] at c;obtain⟨k,l,h⟩:=qz c.1 (by omega) g;have m:=i (a/128) (b/128) (p+1) (by rw[WM] at h1;omega) (by rw[WM] at d;omega) c.2 h;omega
 have c:(128:Nat)^10=1180591620717411303424:=by decide
 exact j 10 a b p (by omega) (by omega) h1 d
def nQ (l:List Int):Prop:=∀a∈l,a=0\/a=1
def lK(x:Int)(r:List Int):0<dH x (x::r):=by simp[dH]
def GF:∀(f:Nat) (l:List Int),l.length<=f->iD (f+1) l=iD f l:=by
 intro f
 induction f with
 |zero=>intro l c;cases l with
  |nil=>rfl
  |cons a b=>simp at c
 |succ f e=>
  intro l c;cases l with
  |nil=>rfl
  |cons a b=>
   have g:=lK a b;have d:=e ((a::b).drop (dH a (a::b))) (by rw[Xc];simp at c ⊢;omega);rw[iD,iD];simp only[d]
def Nt(f:Nat)(l:List Int)(h:l.length<=f):iD f l=cz l:=by
 induction f with
 |zero=>
  have:l=[]:=Wh.1 (by omega);subst this;rfl
 |succ f b=>
  by_cases a:l.length<=f
  ·rw[GF f l a,b a]
  ·unfold cz;rw[show l.length=f+1 by omega]
def Ko:cz []=[]:=rfl
def zi(x:Int)(r:List Int):cz (x::r)=aL (dH x (x::r))++([byteOf x]++cz ((x::r).drop (dH x (x::r)))):=by
 have a:=lK x r;rw[<-Nt r.length ((x::r).drop (dH x (x::r))) (by rw[Xc];simp;omega)];rfl
def GD(b:Int)(n:Nat)(m:List Int)(h:m.head? ≠I b):dH b (VF n b++m)=n:=by
 induction n with
 |zero=>
  cases m with
  |nil=>rfl
  |cons e d=>simp[dH];intro a;subst a;simp at h
 |succ n c=>rw[List.replicate_succ,We,dH,if_pos Y,c]
def Kr(b:Int)(n:Nat)(m:List Int)(e:n≠0)(h:m.head? ≠I b):cz (VF n b++m)=aL n++([byteOf b]++cz m):=by
 obtain⟨a,rfl⟩:∃a,n=a+1:=⟨n-1,by omega⟩;have c:VF (a+1) b++m=b::(VF a b++m):=by rw[List.replicate_succ];rfl
 have d:=GD b (a+1) m h;rw[c] at d ⊢;rw[zi,d,<-c];simp
def Cz(x:Int)(l:List Int):l=VF (dH x l) x++l.drop (dH x l):=by
 induction l with
 |nil=>rfl
 |cons d c b=>
  simp only[dH]
  split
  ·rename_i a;subst a;rw[List.replicate_succ,We,List.drop_succ_cons,<-b]
  ·simp
def Cy(x:Int)(l:List Int):(l.drop (dH x l)).head? ≠I x:=by
 intro a;rw[List.head?_drop] at a;obtain⟨b,c⟩:=UB.1 a;exact zh x l b c
structure Ld(B:List Nat)(p cn:Nat)(l:List Int)(R:List Nat):Prop where
 le:l.length<=cn
 bits:nQ l
 st:ai B p R
 ext:∀m:List Int,(m=[]\/l=[]\/m.head? ≠l.getLast?)->cz (l++m)=R++cz m
 IN:∀L:List Int,L.length=cn->nQ L->ai B p (cz L)->∃m,L=l++m/\(m=[]\/l=[]\/m.head? ≠l.getLast?)
def Ld.zero(B:List Nat)(p cn:Nat):Ld B p cn [] []:=
 ⟨UF _,λc b=>by simp at b,mU _ _,λm _=>rfl,λa _ _ _=>⟨a,rfl,.inr (.inl Y)⟩⟩
def kA{b:Int}(h:b=0\/b=1):byteOf b=b.toNat:=by rcases h with rfl|rfl<;>rfl
def Ld.next{B:List Nat}{p cn:Nat}{l:List Int}{R:List Nat}(h:Ld B p cn l R)(k:l.length<cn)(L:List Int)(hL:L.length=cn)(g:nQ L)(e:ai B p (cz L)):
 ∃(n:Nat) (b:Int) (m:List Int),1<=n/\n<=cn-l.length/\(b=0\/b=1)/\(l=[]\/l.getLast? ≠I b)/\ai B (p+R.length) (aL n)/\ai B (p+R.length+(aL n).length) [b.toNat]/\
  L=(l++VF n b)++m/\m.head? ≠I b:=by
 obtain⟨m,rfl,i⟩:=h.IN L hL g e;rw[Ub] at hL;cases m with
 |nil=>simp at hL;omega
 |cons a c=>
  rw[h.ext _ i,au] at e;have f:=e.2;rw[zi,au,au] at f;have j:a=0\/a=1:=g a (by simp);refine⟨dH a (a::c),a,(a::c).drop (dH a (a::c)),lK a c,?_,j,?_,f.1,?_,?_,Cy a (a::c)⟩
  ·have:=Bi a (a::c);omega
  ·rcases i with d|d|d
   ·simp at d
   ·exact .inl d
   ·right;simpa [eq_comm] using d
  ·rw[<-kA j];exact f.2.1
  ·rw[UD,<-Cz]
def Ld.more{B:List Nat}{p cn:Nat}{l:List Int}{R:List Nat}(h:Ld B p cn l R){n:Nat}{b:Int}(c:n≠0)(N:n<=cn-l.length)(D:n<18446744073709551616)(e:b=0\/b=1)(z:l=[]\/l.getLast? ≠I b)
 (j:ai B (p+R.length) (aL n)) (a:ai B (p+R.length+(aL n).length) [b.toNat]) (M:cn<=100) (A:l.length<cn):Ld B p cn (l++VF n b) (R++(aL n++[b.toNat])):=by
 have O:VF n b≠[]:=by simp;exact c
 have f:(l++VF n b).getLast?= I b:=by
  rw[List.getLast?_append,List.getLast?_replicate,if_neg c];rfl
 have y:∀m,(VF n b++m).head?= I b:=by
  intro m;obtain⟨i,rfl⟩:∃i,n=i+1:=⟨n-1,by omega⟩;rw[List.replicate_succ];rfl
 refine⟨by simp;omega,?_,?_,?_,?_⟩
 ·intro H F;rcases U2.1 F with h1|h1
  ·exact h.bits H h1
  ·rw[(List.mem_replicate.1 h1).2];exact e
 ·rw[au,au];exact⟨h.st,j,a⟩
 ·intro m g;rw[f] at g;have C:m.head? ≠I b:=by
   rcases g with h1|h1|h1
   ·subst h1;simp
   ·simp at h1;omega
   ·exact h1
  rw[UD,h.ext _ (by rw[y];rcases z with h1|h1;exact .inr (.inl h1);exact .inr (.inr (λq=>h1 q.symm))),Kr b n m c C,kA e];simp
 ·intro k w x E;obtain⟨G,o,m,h1,J,K,L,t,d,u,v⟩:=h.next A k w x E;have r:G=n:=cB (by omega) D t j;subst r;have s:o=b:=by
   rw[dI] at d a;rw[d] at a;simp at a;omega
  subst s;exact⟨m,u,.inr (.inr (by rw[f];exact v))⟩
def Ld.done{B:List Nat}{p cn:Nat}{l:List Int}{R:List Nat}(h:Ld B p cn l R)(e:¬l.length<cn):
 l.length=cn/\cz l=R/\(∀L:List Int,L.length=cn->nQ L->ai B p (cz L)->L=l):=by
 have c:l.length=cn:=by have:=h.le;omega
 refine⟨c,?_,?_⟩
 ·have:=h.ext [] (.inl Y);simpa [Ko] using this
 ·intro L a b d;obtain⟨m,rfl,_⟩:=h.IN L a b d;rw[Ub] at a;have:m=[]:=Wh.1 (by omega);rw[this];simp
def sM(s:ByteArray)(p:Nat)(h:p<s.size):(bytesOf s)[p]? =I s[p].toNat:=by
 rw[Uo (by rw[aj];exact h),vw s p h]
def QV(c:Nat)(h:c<256):bits .and .u8 (c:Int) 127=((c%128:Nat):Int):=by
 have:=bits_mask .u8 8 (by decide) wraps_u8 7 (by decide) (c:Int) (by omega) (by omega);rw[show(127:Int)=2^7-1 from by decide,this];omega
def vn(n:Int)(a:0<=n)(b:n<2^64):Wm.wrap n=n:=by rw[wrap_u64];omega
def dA(s:ByteArray)(p q:Nat):bytesOf (s.extract p q)=((bytesOf s).drop p).take (q-p):=by
 unfold bytesOf;rw[ByteArray.data_extract];simp only[Array.toList_extract,List.extract_eq_take_drop,List.map_take,List.map_drop]
def Bu(r p c:Nat)(s:ByteArray)(w:F)(b:s.size<=Ur)(hc:c<=2147483648)(l:¬p+c<=s.size)(m:p<=s.size)(h:w.heap[r]? =I (cj s p)):
 bG 128 #[(bS r),.int .i64 (c:Int)] w λe w'=>e= .panicked (eE p)/\∃n,w'=w.drewN n:=by
 obtain⟨d,f,g,i⟩:=kK h;unfold Ur at b;have a:=af h;have k:decide ((c:Int)<0)=T8:=by simp
 have j:decide ((s.size:Int)-(p:Int)<(c:Int))=Z:=by simp;omega
 go_enter ay.func128,Tryz.ntmps128
 go_wp2_with fail
 go_quiet (fail)
 go_wp2_with (go_at_call 97;refine(b9 r p s _ (by exact a.o)).mono ?_;rintro e w' ⟨rfl,rfl⟩)
 exact⟨rfl,rfl,nq,rfl⟩
def E2(r p c:Nat)(s:ByteArray)(w:F)(a:s.size<=Ur)(k:p+c<=s.size)(h:w.heap[r]? =I (cj s p)):
 bG 128 #[(bS r),.int .i64 (c:Int)] w λe w'=>e= .returned (.string (s.extract p (p+c)))/\∃n,w'=(w.setCell ⟨r,1,K⟩ (.int .i64 ((p+c:Nat):Int))).drewN n:=by
 obtain⟨b,d,f,g⟩:=kK h;unfold Ur at a;have j:decide ((c:Int)<0)=T8:=by simp
 have i:decide ((s.size:Int)-(p:Int)<(c:Int))=T8:=by simp;omega
 have l:(0:Int)<=(p:Int)+(c:Int):=by omega
 have o:(p:Int)+(c:Int)<=(s.size:Int):=by omega
 have q:(p:Int)<=(p:Int)+(c:Int):=by omega
 have t:((p:Int)+(c:Int)).toNat=p+c:=by omega
 go_enter ay.func128,Tryz.ntmps128
 go_wp2_with fail
 go_quiet (fail)
 generalize nq=m at*
 go_wp2_with fail
 go_quiet (fail)
 go_wp2;go_ret;exact⟨rfl,m+nq,DM _ _ _ _ _⟩
def BJ(r p:Nat)(s:ByteArray)(w:F)(k:s.size<=Ur)(l:p<=s.size)(h:w.heap[r]? =I (cj s p)):
 bG 152 #[(bS r)] w λe w'=>Kp r w w'/\((∃b:Int,e= .returned (.int .i64 b)/\(b=0\/b=1)/\ai (bytesOf s) p [b.toNat]/\w'.heap[r]? =I (cj s (p+1))/\p+1<=s.size)\/
  (∃q,e= .panicked (eE q)/\∀b:Int,(b=0\/b=1)->¬ai (bytesOf s) p [b.toNat])):=by
 have c:=af h;by_cases g:p<s.size
 ·have m:=sM s p g;have j:X (∀w,w.heap[r]? =I (cj s p)->bG 129 #[(bS r)] w λe w'=>e= .returned (.int .u8 (s[p].toNat:Int))/\∃a,w'=(w.setCell ⟨r,1,K⟩ (.int .i64 ((p+1:Nat):Int))).drewN a):=
   λw u=>xg r p s w k g u
  have x:s[p].toNat<256:=s[p].toNat_lt;have i:=af m;generalize s[p].toNat=d at*;by_cases v:d<=1
  ·have o:decide ((1:Int)<(d:Int))=T8:=by simp;omega
   go_enter ay.func152,Tryz.ntmps152
   go_wp2_with (go_at_call 129;refine(j.o _ c.o).mono ?_;rintro e w' ⟨rfl,a,rfl⟩)
   go_ret;refine⟨(Kp.refl _ _).set _ _ a,.inl ⟨(d:Int),by first|rfl|(congr 2;omega),by omega,?_,lW c.o a,by omega⟩⟩;rw[dI,i.o];simp
  ·have o:decide ((1:Int)<(d:Int))=Z:=by simp;omega
   have f:X (∀b:Int,(b=0\/b=1)->¬ai (bytesOf s) p [b.toNat]):=by
    intro b n;rw[dI,i.o];simp;omega
   go_enter ay.func152,Tryz.ntmps152
   go_wp2_with first|(go_at_call 129;refine(j.o _ c.o).mono ?_;rintro e w' ⟨rfl,a,rfl⟩)|(go_at_call 97;refine(b9 r (p+1) s _ (by exact lW c.o _)).mono ?_;rintro e w' ⟨rfl,rfl⟩)
   exact⟨rfl,(Kp.refl _ _).set _ _ a,.inr ⟨_,rfl,f.o⟩⟩
 ·have f:X (∀b:Int,(b=0\/b=1)->¬ai (bytesOf s) p [b.toNat]):=by
   intro b n t;have:=gK t (by rw[aj];exact l);rw[aj] at this;simp at this;omega
  go_enter ay.func152,Tryz.ntmps152
  go_wp2_with (go_at_call 129;refine(sN r p s _ k g l c.o).mono ?_;rintro e w' ⟨rfl,a,rfl⟩)
  exact⟨rfl,(Kp.refl _ _).drewN a,.inr ⟨_,rfl,f.o⟩⟩
def Rw(j:Nat):(128:Nat)^j=2^(7*j):=by rw[Nat.pow_mul]
def PB(b c j:Nat)(h:j<=9)(f:b<128^j)(hc:c<128):∃d:Nat,bits .or .u64 (b:Int) (Wm.wrap ((c:Int)*2^(7*j)))=(d:Int)/\d<18446744073709551616/\((j<=8\/c<=1)->d=b+128^j*c):=by
 have o:(128:Nat)^9=9223372036854775808:=by decide
 have l:128^j<=128^9:=VP (by omega) h;have g:(c:Int)*2^(7*j)=((2^(7*j)*c:Nat):Int):=by push_cast;rw[Int.mul_comm]
 have m:Wm.wrap ((c:Int)*2^(7*j))=((2^(7*j)*c%18446744073709551616:Nat):Int):=by rw[g,wrap_u64];omega
 have k:=(bits_nat .u64 64 (by decide) vn b (2^(7*j)*c%18446744073709551616) (by omega) (by omega)).2;rw[m];refine⟨_,k,?_,?_⟩
 ·exact Nat.or_lt_two_pow (n:=64) (by omega) (by omega)
 ·intro a;have i:2^(7*j)*c<18446744073709551616:=by
   rw[<-Rw];rcases a with a|a
   ·have e:128^j<=128^8:=VP (by omega) a;have n:(128:Nat)^8=72057594037927936:=by decide
    have:=Wt e (show c<=127 by omega);omega
   ·have:=Wt l a;omega
  rw[Xw i,Nat.or_comm,<-Nat.two_pow_add_eq_or_of_lt (by rw[<-Rw];exact f) c,Nat.add_comm,Rw]
def Bw(r p:Nat)(s:ByteArray)(w:F)(N:s.size<=Ur)(ae:p<=s.size)(h:w.heap[r]? =I (cj s p)):
 bG 130 #[(bS r)] w λe w'=>Kp r w w'/\((∃v:Nat,e= .returned (.int .u64 (v:Int))/\v<18446744073709551616/\ai (bytesOf s) p (aL v)/\w'.heap[r]? =I (cj s (p+(aL v).length)))\/
  (∃q,e= .panicked (eE q)/\∀v,v<18446744073709551616->¬ai (bytesOf s) p (aL v))):=by
 have z:=af h;clear h;go_enter ay.func130,Tryz.ntmps130
 go_wp2_with fail
 go_loopw [3,4] (λc sh wr=>∃(a o d:Nat),a<=10/\sh= .int .i64 ((7*a:Nat):Int)/\c= .int .u64 (d:Int)/\(a<=9->d=o)/\BG (bytesOf s) p a o/\p+a<=s.size/\wr.heap[r]? =I (cj s (p+a))/\Kp r w wr) (λ_ sh _=>71-(UT sh).toNat)
 case atStart=>exact⟨0,0,0,by omega,rfl,rfl,λ_=>rfl,BG.zero _ _,by omega,z.o,Kp.refl _ _⟩
 case round=>
  clear z;obtain⟨a,o,d,ad,rfl,rfl,G,E,V,D,C⟩:=hrel;have i:=af E;have g:=af D;have j:=af C;clear E D C;by_cases M:a<=9
  ·obtain rfl:=G M;clear G;by_cases m:p+a<s.size
   ·have n:X (∀w,w.heap[r]? =I (cj s (p+a))->bG 129 #[(bS r)] w λe w'=>e= .returned (.int .u8 (s[p+a].toNat:Int))/\∃c,w'=(w.setCell ⟨r,1,K⟩ (.int .i64 ((p+a+1:Nat):Int))).drewN c):=
     λw Y=>xg r (p+a) s w N m Y
    have J:s[p+a].toNat<256:=s[p+a].toNat_lt;have x:=af (sM s (p+a) m);generalize s[p+a].toNat=b at*;have ab:bits .and .u8 (b:Int) 127=(b:Int)%128:=by rw[QV b J];omega
    obtain⟨l,t,aa,H⟩:=PB d (b%128) a M i.o.lt (by omega);rw[show((b%128:Nat):Int)=(b:Int)%128 from by omega] at t;have B:=af H;clear H;by_cases T:128<=b
    ·go_wp2_with (go_at_call 129;refine(n.o _ g.o).mono ?_;rintro e w' ⟨rfl,c,rfl⟩)
     refine⟨⟨a+1,d+128^a*(b-128),l,by omega,by go_num,by first|rfl|rw[t],?_,i.o.more (by omega) x.o T J,by omega,lW g.o c,j.o.set _ _ c⟩,by simp[UT];omega⟩;intro Z;rw[B.o (.inl (by omega)),show b%128=b-128 by omega]
    ·have U:(b:Int)%128=(b:Int):=by omega
     rw[U] at t;have L:=λv f=>i.o.fin (v:=v) (by omega) x.o (by omega) f;have y:=af L;clear L;by_cases u:(b≠0\/a=0)/\(b<=1\/a<=8)
     ·have A:X (d+128^a*b<18446744073709551616):=i.o.top (by omega) (by omega);have O:X _:=i.o.OT (c:=b) (by omega) (by omega) u.1;have P:X (l=d+128^a*b):=by rw[show X (l=d+128^a*b)↔l=d+128^a*b from⟨λh=>h.o,λh=>h⟩,B.o (by omega),Xw (by omega)]
      go_wp2_with (go_at_call 129;refine(n.o _ g.o).mono ?_;rintro e w' ⟨rfl,c,rfl⟩)
      all_goals
       go_ret;exact⟨j.o.set _ _ c,.inl ⟨d+128^a*b,by rw[<-P.o];rfl,A.o,(y.o _ A.o).2 ⟨rfl,u.1⟩,by rw[O.o,<-U6];exact lW g.o c⟩⟩
     ·have k:X (∀v,v<18446744073709551616->¬ai (bytesOf s) p (aL v)):=by
       intro v f W;obtain⟨Q,R⟩:=(y.o v f).1 W;by_cases S:b<=1\/a<=8
       ·exact u ⟨R,S⟩
       ·obtain rfl:a=9:=by omega
        rw[Q] at f;exact BG.over (B:=bytesOf s) (p:=p) (by omega) f
      go_wp2_with first|(go_at_call 129;refine(n.o _ g.o).mono ?_;rintro e w' ⟨rfl,c,rfl⟩)|(go_at_call 97;refine(b9 r (p+a+1) s _ (by exact lW g.o _)).mono ?_;rintro e w' ⟨rfl,rfl⟩)
      all_goals exact⟨rfl,j.o.set _ _ c,.inr ⟨_,rfl,k.o⟩⟩
   ·have k:X (∀v,v<18446744073709551616->¬ai (bytesOf s) p (aL v)):=λv f=>i.o.none (by omega) (by rw[aj];exact m) v f
    go_wp2_with (go_at_call 129;refine(sN r (p+a) s _ N m V g.o).mono ?_;rintro e w' ⟨rfl,c,rfl⟩)
    exact⟨rfl,j.o.drewN c,.inr ⟨_,rfl,k.o⟩⟩
  ·obtain rfl:a=10:=by omega
   have k:X (∀v,v<18446744073709551616->¬ai (bytesOf s) p (aL v)):=λv f=>i.o.T2 v f
   go_wp2_with (go_at_call 97;refine(b9 r (p+10) s _ g.o).mono ?_;rintro e w' ⟨rfl,rfl⟩)
   exact⟨rfl,j.o,.inr ⟨_,rfl,k.o⟩⟩
def jL(r p:Nat)(s:ByteArray)(w:F)(y:s.size<=Ur)(j:p<=s.size)(h:w.heap[r]? =I (cj s p)):
 bG 95 #[(bS r)] w λe w'=>Kp r w w'/\((∃v:Nat,e= .returned (.int .i64 (v:Int))/\v<2147483648/\ai (bytesOf s) p (aL v)/\p+(aL v).length<=s.size/\w'.heap[r]? =I (cj s (p+(aL v).length)))\/
  (∃q,e= .panicked (eE q)/\∀v,v<2147483648->¬ai (bytesOf s) p (aL v))):=by
 have n:=af h;go_enter ay.func95,Tryz.ntmps95
 go_wp2_with fail
 refine(Bw r p s _ y j n.o).mono ?_;rintro e C ⟨i,⟨v,rfl,k,c,t⟩|⟨q,rfl,z⟩⟩
 ·have b:=af i;have g:=af c;have f:=af t;have l:X (p+(aL v).length<=s.size):=by have:=gK c (by rw[aj];exact j);rwa [aj] at this
  have o:=af k;by_cases x:v<2147483648
  ·have m:=af x;have u:decide ((2147483648:Int)<=(v:Int))=T8:=by rw[decide_eq_false_iff_not];omega
   have B:Vd (v:Int)=(v:Int):=by unfold Vd;omega
   go_wp2;go_ret;exact⟨b.o,.inl ⟨v,by first|rfl|go_num,m.o,g.o,l.o,f.o⟩⟩
  ·have d:X (∀a,a<2147483648->¬ai (bytesOf s) p (aL a)):=by
    intro a A c;have:=cB (by omega) o.o c g.o;omega
   have u:decide ((2147483648:Int)<=(v:Int))=Z:=by rw[decide_eq_true_iff];omega
   go_wp2_with (go_at_call 97;refine(b9 r (p+(aL v).length) s _ f.o).mono ?_;rintro e w' ⟨rfl,rfl⟩)
   exact⟨rfl,b.o,.inr ⟨_,rfl,d.o⟩⟩
 ·have b:=af i;have d:X (∀a,a<2147483648->¬ai (bytesOf s) p (aL a)):=λv k=>z v (by omega);go_wp2;exact⟨rfl,b.o,.inr ⟨q,rfl,d.o⟩⟩
def aj(s:ByteArray):(bytesOf s).length=s.size:=by
 unfold bytesOf;simp
def kg(s:ByteArray):Lib.strCells s=aG (bytesOf s):=by
 unfold Lib.strCells aG bytesOf;simp
def jB(s:ByteArray):∀x∈bytesOf s,x<256:=by
 intro x a;unfold bytesOf at a;obtain⟨b,_,rfl⟩:=U8.1 a;exact b.toNat_lt
def ry{P:Ug}(w:F)(base:Nat)(t u ty e:Ui)(i:TypeInfo)(l:P.underlying t=I (.slice e))(m:P.underlying u=I .string)(g:P.info? e=I i)(y:i.zero=I (.int .u8 0))
 (k:i.size=1) (x:i.bytes=1) (v:U) (n:Nat) (f:List U) (h:w.ownsRow base e 1 v n f) (s:ByteArray)
 (r:n+s.size<=Ur) (A:n+s.size<=140737488355328) (H:base<=w.heap.size):
 ∃o w',(XY #[t,u] ty #[v,.string s]).run P w= .ok o w'/\w'.ownsRow base e 1 o (n+s.size) (f++Lib.strCells s)/\aO w w' v o:=by
 obtain⟨o,w',j,N,L,M⟩:=Lib.run_append_own_string (P:=P) w base t u ty e i l m g y k x v n f h s r A H;refine⟨o,w',j,N,L,?_⟩;unfold Ur at r;rcases h.2 with⟨rfl,rfl⟩|⟨d,b,p,rfl,S,C,W,V,B,X⟩
 ·by_cases Q:s.size=0
  ·rw[M.2 ⟨rfl,Q⟩];exact λ_ E=>.inl E
  ·have G:=Lib.run_append_own_string (P:=P) w w.heap.size t u ty e i l m g y k x _ 0 f ⟨h.1,.inl ⟨rfl,rfl⟩⟩ s r A (T9 _);obtain⟨Z,z,a,O,-,-⟩:=G;rw[j] at a;cases a;exact λq c=>.inr (O.lt q c).1
 ·by_cases D:n+s.size<=b
  ·by_cases T:0<b
   ·obtain⟨z,a,-,-⟩:∃z,(XY #[t,u] ty #[.slice (I ⟨d,0,K⟩) n b,.string s]).run P w= .ok (.slice (I ⟨d,0,K⟩) (n+s.size) b) z/\True/\True:=by
     have J:p.size=b:=by simpa using B
     exact⟨_,Lib.run_append_room_string (P:=P) w t u ty e i l m g k d n b p C s D (by omega),trivial,trivial⟩
    rw[j] at a;cases a;exact λq c=>.inl c
   ·have J:p.size=b:=by simpa using B
    have a:=Lib.run_append_room_string (P:=P) w t u ty e i l m g k d n b p C s D (by omega);rw[j] at a;cases a;exact λq c=>.inl c
  ·have R:f.length=n:=by simpa using h.1
   have a:=Lib.run_append_grow_string (P:=P) w t u ty e i (.int .u8 0) l m g y ⟨d,0,K⟩ n b f (by rw[k];simpa using R) (h.cells (g:=d) Y) s (by omega) (by omega) (by rw[x];exact growslice_fits (by omega) (by omega));rw[j] at a;cases a;intro q c;simp[VA] at c;exact .inr (by omega)
def eR{P:Ug}(w:F){ops:Array Vv}{rest:List Vv}{o:Vv}{a:V7}{Q:Exit->V7->F->Prop}(p:o.guard=K)(sl x:Operand)(t u:Ui)
 (r:o.op= .call {callee:=.builtin .append,args:= #[sl,x],argTypes:= #[t,u]})
 (base:Nat) (e:Ui) (i:TypeInfo) (C:P.underlying t=I (.slice e)) (D:P.underlying u=I .string) (q:P.info? e=I i) (G:i.zero=I (.int .u8 0))
 (B:i.size=1) (l:i.bytes=1) (v:U) (n:Nat) (c:List U) (A:a.eval sl=v) (y:w.ownsRow base e 1 v n c) (s:ByteArray) (E:a.eval x= .string s)
 (g:n+s.size<=Ur) (m:n+s.size<=140737488355328) (k:base<=w.heap.size)
 (h:∀b w',w'.ownsRow base e 1 b (n+s.size) (c++Lib.strCells s)->aO w w' v b->wpList P ops Q rest (a.put o.dst b) w'):wpList P ops Q (o::rest) a w:=by
 refine wpList_plain p λH j=>?_;obtain⟨b,w',z,d,f⟩:=ry (P:=P) w base t u o.type e i C D q G B l v n c y s g m k;unfold Oper.wp UI;simp only[r,resolve,invoke,builtin,WK,Sem.run_pure,Result.andThen_ok,List.map_toArray,Xy,List.map_nil,A,E,z];exact j _ _ (h b w' d f)
def aZ (k:Int)(v:aE):List Nat:=if k=1 then aL (zz v.n) else if k=2 then[byteOf v.n] else aL v.s.size++bytesOf v.s
def gS(k:Int)(v:aE)(h:v.s.size<=32):(aZ k v).length<=42:=by
 have a:=cq 10 (zz v.n);have b:=cq 10 v.s.size;unfold aZ
 split
 ·unfold aL;omega
 ·split
  ·simp
  ·rw[Ub,aj];unfold aL;omega
structure pu(v:aE):Prop where
 lo: -9223372036854775808<=v.n
 hi:v.n<=9223372036854775807
 sz:v.s.size<=32
def aO.box{w a:F}{v v1:U}{o:Xx}(h:aO (w.alloc o) a v v1):aO w a v v1:=((aO.refl w v).alloc o).trans h
def uc{w a:F}{o:Xx}(h:WN (w.alloc o).heap.size (w.alloc o) a):aP w a:=
 ((Uq _ _).alloc (T9 _) o).trans (h.mono (by simp))
def LC{w d:F}{u u1 a b c:U}{t:Ui}(e:u.ownBlock≠I w.heap.size)(h:aO (w.alloc (.cells #[a,b,c] t)) d u u1):bU d w.heap.size 2 c:=
 h.fP.cell (a:=⟨w.heap.size,2,K⟩) (v:=c) (by simp) (λh=>e h.symm)
def iJ(u:U)(pre:List Nat)(v:aE)(k:Int)(base:Nat)(w:F)(A:k=1\/k=2\/k=3)(D:pu v)(R:pre.length<=4000000)(P:base<=w.heap.size)
 (f:w.ownsRow base 5 1 u pre.length (aG pre)):
 bG 122 #[u,.agg (iG v),.int .i64 k] w λe w'=>∃j,e= .returned j/\w'.ownsRow base 5 1 j (pre++aZ k v).length (aG (pre++aZ k v))/\aO w w' u j:=by
 obtain⟨r,n,o,p,q⟩:=Vg ay.rH;obtain⟨l,m,O⟩:=D;rcases A with rfl|rfl|rfl
 ·rw[show aZ 1 v=aL (zz v.n) from by simp[aZ]];have t:=DJ v.n l m;have g:X (∀a,bG 121 #[u,.int .u64 (zz v.n)] (w.alloc a) λe w'=>∃b,e= .returned b/\w'.ownsRow base 5 1 b (pre++aL (zz v.n)).length (aG (pre++aL (zz v.n)))/\aO (w.alloc a) w' u b):=λa=>
   nV u pre (zz v.n) base (w.alloc a) (BB _ l m) (by omega) (by simp;omega) (f.alloc a)
  go_enter ay.func122,Tryz.ntmps122
  go_wp2_with first
   |(go_at_call 140;refine(t _).mono ?_;rintro e s ⟨rfl,rfl⟩)
   |(go_at_call 121;refine(g.o _).mono ?_;rintro e s ⟨J,rfl,i,d⟩)
  go_ret;exact⟨_,rfl,i,d.box⟩
 ·rw[show aZ 2 v=[byteOf v.n] from by simp[aZ]];have E:Yv.wrap v.n=v.n%256:=by simp[IntKind.wrap,Yh,XV]
  rw[mB] at E;generalize byteOf v.n=N at*;go_enter ay.func122,Tryz.ntmps122
  go_wp2_with (at_builtin;refine aS _ Y _ _ 133 Y base 5 r (.int .u8 0) 1 1 ay.underlying133 n o p q Y (by decide) _ pre.length _ Y ((f.alloc _).alloc _) ⟨w.heap.size+1,0,K⟩ 1 1 [.int .u8 (N:Int)] Y (by decide) Y (by simpa using gT (w.alloc _) _ _) (jo _) (by unfold Ur;omega) (by omega) (by simp;omega) ?_;intro L M c h)
  go_ret;have z:=aO.box (aO.append h);rw[eS] at c;exact⟨_,rfl,by simpa using c,z⟩
 ·rw[show aZ 3 v=aL v.s.size++bytesOf v.s from by simp[aZ],<-UD];have T:=cq 10 v.s.size;have C:u.ownBlock≠I w.heap.size:=λx=>by have:=(f.lt _ x).2;omega
  have g:X (∀a,bG 84 #[u,.int .i64 (v.s.size:Int)] (w.alloc a) λe w'=>∃b,e= .returned b/\w'.ownsRow base 5 1 b (pre++aL v.s.size).length (aG (pre++aL v.s.size))/\aO (w.alloc a) w' u b):=λa=>
   cQ u pre v.s.size base (w.alloc a) (by omega) (by omega) (by simp;omega) (f.alloc a)
  have S:(pre++aL v.s.size).length<=4000010:=by rw[Ub];unfold aL;omega
  generalize pre++aL v.s.size=H at*;have y:=aj v.s;have B:=kg v.s;generalize bytesOf v.s=V at*;go_enter ay.func122,Tryz.ntmps122
  go_wp2_with first
   |(go_at_call 84;refine(g.o _).mono ?_;rintro e s ⟨J,rfl,i,d⟩;have Q:=LC C d;have G:=d.fP.size)
   |(at_builtin;refine eR _ Y _ _ 133 9 Y base 5 r ay.underlying133 ay.underlying9 n o p q _ H.length _ Y i v.s Y ?_ ?_ ?_ ?_;(unfold Ur;omega);omega;(simp at G;omega);intro L M c h)
  go_ret;rw[B] at c;refine⟨_,rfl,?_,(d.box).trans h⟩;rw[<-y] at c;simpa [aG] using c
def wid (n:Nat):Nat:=if n<=1 then 0 else if n<=2 then 1 else if n<=4 then 2 else if n<=8 then 3 else if n<=16 then 4 else if n<=32 then 5 else if n<=64 then 6 else 7
def vm(n:Nat):wid n<=7:=by
 unfold wid
 repeat' split
 all_goals omega
def IQ:∀n,n<101->∀t,t<8->(2^t<n↔t<wid n):=by decide +kernel
def tM(n:Nat)(h:n<=100)(j:Nat)(c:j<n):j<2^wid n:=by
 have a:=vm n;have b:=(IQ n (by omega) (wid n) (by omega));omega
def Oa:∀x,x<128->Lib.bitLen x=wid (x+1):=by decide +kernel
def SK(n:Nat)(p:n<=100)(w:F):bG 110 #[.int .i64 n] w λe w'=>e= .returned (.int .i64 (wid n))/\w'=w:=by
 have q:=vm n;have i:X (∀a,a<=7->(pw a<(n:Int)↔a<wid n)):=λa l=>by
  have:=IQ n (by omega) a (by omega);unfold pw;omega
 generalize wid n=b at*;go_enter ay.func110,Tryz.ntmps110
 go_wp2_with fail
 go_loopw [3] (λc wr=>∃a:Nat,a<=b/\c= .int .i64 a/\wr=w) (λc _=>8-(UT c).toNat)
 case atStart=>exact⟨0,UF _,rfl,rfl⟩
 case round=>
  obtain⟨a,l,rfl,rfl⟩:=hrel;have f:X (∀w,bG 135 #[.int .i64 a] w λe w'=>e= .returned (.int .i64 (pw a))/\w'=w):=λw=>J4 a (by omega) w;have d:=i.o a (by omega);generalize pw a=m at*;by_cases g:a<b
  ·have k:=d.2 g
   go_wp2_with (go_at_call 135;refine(f.o _).mono ?_;rintro e o ⟨rfl,rfl⟩)
   go_roundw
   case rel=>exact⟨a+1,by omega,by go_num,trivial⟩
   case measure=>simp[UT];omega
  ·have k:¬m<(n:Int):=λj=>g (d.1 j);have h:X (a=b):=by show a=b;omega
   go_wp2_with (go_at_call 135;refine(f.o _).mono ?_;rintro e o ⟨rfl,rfl⟩)
   go_ret;exact⟨by rw[<-h.o];rfl,rfl⟩
def NU:∀y:Nat,y<128->∀h:y<Lib.len8tab.size,Lib.len8tab[y].toNat=Lib.bitLen y:=by decide +kernel
def JL(x:Int)(w:F)(a:0<=x)(h1:x<=127):bG 175 #[.int .u64 x] w λe w'=>e= .returned (.int .i64 (Lib.bitLen x.toNat))/\w'=w:=by
 go_enter ay.func175,Tryz.ntmps175;go_wp2
 all_goals (go_ret;refine⟨congrArg Ending.returned (congrArg (VZ XO) ?_),rfl⟩)
 all_goals
  have b:=NU x.toNat (by omega) (by omega);have c:=Lib.bitLen_le8' x a (by omega);rw[b];unfold Vd;omega
def Pc(x:Int)(w:F)(a:0<=x)(h1:x<=127):bG 167 #[.int .u64 x] w λe w'=>e= .returned (.int .i64 (Lib.bitLen x.toNat))/\w'=w:=by
 go_enter ay.func167,Tryz.ntmps167
 go_wp2_with (go_at_call 175;refine(JL x _ a h1).mono ?_;rintro e w' ⟨rfl,rfl⟩)
 go_ret;exact⟨rfl,rfl⟩
def wu(n:Nat)(d:n<=100)(w:F):bG 158 #[.int .i64 n] w λe w'=>e= .returned (.int .i64 (wid n))/\w'=w:=by
 by_cases c:n<2
 ·rw[show wid n=0 from by unfold wid;rw[if_pos (by omega)]];go_enter ay.func158,Tryz.ntmps158;go_wp2;go_ret;exact⟨rfl,rfl⟩
 ·have b:X (∀w,bG 167 #[.int .u64 ((n:Int)-1)] w λe w'=>e= .returned (.int .i64 (wid n))/\w'=w):=λw=>by
   have a:=Pc ((n:Int)-1) w (by omega) (by omega);rw[Oa _ (by omega),show((n:Int)-1).toNat+1=n by omega] at a;exact a
  go_enter ay.func158,Tryz.ntmps158
  go_wp2_with (go_at_call 167;refine(b.o _).mono ?_;rintro e w' ⟨rfl,rfl⟩)
  go_ret;exact⟨rfl,rfl⟩
def Apart(u v:U):Prop:=u.ownBlock=K\/u.ownBlock≠v.ownBlock
def Apart.symm{u v:U}(h:Apart u v):Apart v u:=by
 rcases h with h|h
 ·cases a:v.ownBlock with
  |none=>exact .inl a
  |some c=>exact .inr (by rw[h,a];simp)
 ·exact .inr (λb=>h b.symm)
def bE{w w':F}{base e a n:Nat}{u v f:U}{b:List U}(h:w.ownsRow base e a u n b)(d:aO w w' v f)(c:Apart u v):w'.ownsRow base e a u n b:=
 h.kept d.fP c
def Apart.jQ{w w':F}{base e j n:Nat}{u v f:U}{k:List U}(g:Apart u v)(h:w.ownsRow base e j u n k)(i:aO w w' v f):Apart u f:=by
 rcases g with a|a
 ·exact .inl a
 ·cases b:u.ownBlock with
  |none=>exact .inl b
  |some c=>
   right
   intro e;rw[b] at e a;have l:=(h.lt c b).2;rcases i.at_ c e.symm with d|d
   ·exact a d.symm
   ·omega
def Apart.new{w:F}{base B e g n:Nat}{a i f:Nat}{u v:U}{j k:List U}{w':F}(h:w.ownsRow base e g u n j)(d:w'.ownsRow w.heap.size a i v f k):Apart u v:=by
 cases b:u.ownBlock with
 |none=>exact .inl b
 |some c=>
  right
  intro a;rw[b] at a;have l:=(h.lt c b).2;have m:=(d.lt c a.symm).1;omega
def rZ (w:F)(v:U)(l:List aE):Prop:=∃a b d c,v= .slice a l.length c/\sK w a b d l
def rZ.below{w w':F}{v:U}{l:List aE}(h:rZ w v l)(d:aP w w'):rZ w' v l:=by
 obtain⟨a,b,e,c,rfl,h⟩:=h;exact⟨a,b,e,c,rfl,h.below d⟩
def E7(x:aE)(r:List aE):aH (x::r)=[.bool x.null,.int .i64 x.n,.string x.s]++aH r:=by simp[aH]
def jv(a b:List aE):aH (a++b)=aH a++aH b:=by simp[aH]
def mX(x:aE):aH [x]=[.bool x.null,.int .i64 x.n,.string x.s]:=by simp[aH]
def mg(l:List aE):∀(j:Nat) (h:j<l.length),(aH l)[j*3]? =I (.bool l[j].null)/\(aH l)[j*3+1]? =I (.int .i64 l[j].n)/\(aH l)[j*3+2]? =I (.string l[j].s):=by
 induction l with
 |nil=>intro j h;simp at h
 |cons d c b=>
  intro j h;rw[E7];cases j with
  |zero=>simp
  |succ j=>
   have:=b j (by simpa using h);have a:(j+1)*3=j*3+3:=by omega
   rw[a,Vp (by simp),Vp (by simp),Vp (by simp)];simpa [show j*3+3+1-3=j*3+1 by omega,show j*3+3+2-3=j*3+2 by omega] using this
def rZ.bN{w:F}{base:Nat}{v:U}{l:List aE}(h:w.ownsRow base 59 3 v l.length (aH l)):rZ w v l:=by
 rcases h.2 with⟨rfl,f⟩|⟨c,e,g,rfl,i,m,n,j,k,o⟩
 ·have:l=[]:=Vi f;subst this;exact⟨K,0,0,0,rfl,⟨λh=>by simp at h,λh=>by simp at h,λa h=>by simp at h,λa h=>by simp at h,λa h=>by simp at h⟩⟩
 ·have d:=h.cells (g:=c) Y;refine⟨I ⟨c,0,K⟩,c,0,e,rfl,⟨λ_=>rfl,λ_=>(h.lt c Y).2,?_,?_,?_⟩⟩
  ·intro a b;have:=d _ _ (mg l a b).1;simpa [VM] using this
  ·intro a b;have:=d _ _ (mg l a b).2.1;simpa [VM] using this
  ·intro a b;have:=d _ _ (mg l a b).2.2;simpa [VM] using this
def idx:List aE->aE->Nat
 | [],_=>0
 |y::b,a=>if Fj y a then 0 else idx b a+1
def Rf(l:List aE)(x:aE):idx l x<=l.length:=by
 induction l with
 |nil=>simp[idx]
 |cons c b a=>simp only[idx];split<;>simp<;>omega
def F9(l:List aE)(x:aE):∀j,(h:j<l.length)->j<idx l x->Fj l[j] x=T8:=by
 induction l with
 |nil=>intro j h;simp at h
 |cons e d c=>
  intro j h a;simp only[idx] at a
  split at a
  ·omega
  ·rename_i b;cases j with
   |zero=>simpa using b
   |succ j=>exact c j (by simpa using h) (by omega)
def F8(l:List aE)(x:aE)(h:idx l x<l.length):l[idx l x]=x:=by
 induction l with
 |nil=>simp at h
 |cons c d b=>
  simp only[idx] at h ⊢;by_cases a:Fj c x=Z
  ·simp only[a,if_true];exact nC.1 a
  ·simp only[a] at h ⊢;exact b (by simpa using h)
def aW (k:Int)(l:List aE):List Nat:=l.flatMap (aZ k)
def Ck(k:Int)(l:List aE)(i:Nat)(h:i<l.length):aW k (l.take (i+1))=aW k (l.take i)++aZ k l[i]:=by
 rw[Up h];unfold aW;rw[Vj,Ve]
def gd(k:Int)(l:List aE)(h:∀x∈l,pu x):(aW k l).length<=42*l.length:=by
 induction l with
 |nil=>simp[aW]
 |cons x f c=>
  have a:=c (λd b=>h d (by simp[b]));have e:=gS k x (h x (by simp)).sz;unfold aW at a ⊢;simp at a ⊢;omega
def lI(u r:U)(pre:List Nat)(l:List aE)(k:Int)(base:Nat)(w:F)(L:k=1\/k=2\/k=3)(N:∀x∈l,pu x)(aa:l.length<=100)(Z:pre.length<=50000)(W:base<=w.heap.size)
 (d:w.ownsRow base 5 1 u pre.length (aG pre)) (q:∀w' b,aO w w' u b->rZ w' r l):
 bG 146 #[u,r,.int .i64 k] w λe w'=>∃b,e= .returned b/\w'.ownsRow base 5 1 b (pre++aW k l).length (aG (pre++aW k l))/\aO w w' u b:=by
 obtain⟨D,o,s,T,rfl,f⟩:=q w u (aO.refl _ _);have v:X (∀w' b,aO w w' u b->∃o s,sK w' D o s l):=λw' b I=>by
  obtain⟨R,E,Q,V,H,G⟩:=q w' b I;cases H;exact⟨E,Q,G⟩
 have n:=af N;go_enter ay.func146,Tryz.ntmps146
 go_wp2_with fail
 go_loopw [0,11] (λp i wr=>∃(a:Nat),a<=l.length/\i= .int .i64 a/\wr.ownsRow base 5 1 p (pre++aW k (l.take a)).length (aG (pre++aW k (l.take a)))/\aO w wr u p) (λ_ i _=>l.length-(UT i).toNat)
 case atStart=>exact⟨0,UF _,rfl,by simpa [aW] using d,aO.refl _ _⟩
 case round=>
  obtain⟨a,Y,rfl,d,h⟩:=hrel;have m:=af h;have ae:w.heap.size<=wr.heap.size:=h.fP.size;by_cases c:a<l.length
  ·obtain⟨S,al,f⟩:=v.o wr u0 h;obtain rfl:=f.addr (by omega);have am:=f.c0 a c;have an:=f.c1 a c;have ao:=f.c2 a c;have A:=Ck k l a c;have ab:(aW k (l.take a)).length<=4200:=by
    have:=gd k (l.take a) (λx P=>n.o x (V6 P));rw[Vt] at this;omega
   have C:=af (n.o _ (Uk c));have B:=af A;generalize l[a]=x at*;have ad:(pre++aW k (l.take a)).length<=60000:=by rw[Ub];omega
   generalize M:pre++aW k (l.take a)=j at*;have z:=af M;have t:X (∀g,bG 122 #[u0,.agg (iG x),.int .i64 k] (wr.alloc g) λe w'=>∃b,e= .returned b/\w'.ownsRow base 5 1 b (j++aZ k x).length (aG (j++aZ k x))/\aO (wr.alloc g) w' u0 b):=λg=>
    iJ u0 j x k base (wr.alloc g) L C.o (by omega) (by simp;omega) (d.alloc g)
   go_wp2_with (go_at_call 122;refine(t.o _).mono ?_;rintro e ar ⟨ap,rfl,O,J⟩)
   go_roundw
   case rel=>
    refine⟨a+1,by omega,by go_num,?_,m.o.trans J.box⟩;rw[B.o,<-UD,z.o];exact O
   case measure=>simp[UT];omega
  ·have K:l.take a=l:=UP (by omega);rw[K] at d;have y:=af d;go_wp2;go_ret;exact⟨_,rfl,y.o,m.o⟩
def bR:Int->List aE->List Nat
 |_,[]=>[]
 |a,v::b=>aL (zz (Vd (v.n-a)))++bR v.n b
def eV:Int->List aE->Int
 |a,[]=>a
 |_,v::b=>eV v.n b
def vz(a:Int)(l:List aE)(x:aE):bR a (l++[x])=bR a l++aL (zz (Vd (x.n-eV a l))):=by
 induction l generalizing a with
 |nil=>simp[bR,eV]
 |cons d c b=>simp[bR,eV,b]
def yD(a:Int)(l:List aE)(x:aE):eV a (l++[x])=x.n:=by
 induction l generalizing a with
 |nil=>simp[eV]
 |cons d c b=>simp[eV,b]
def nJ(a:Int)(l:List aE):(bR a l).length<=10*l.length:=by
 induction l generalizing a with
 |nil=>simp[bR]
 |cons b f c=>
  have d:=c b.n;have e:=cq 10 (zz (Vd (b.n-a)));simp only[bR,Ub,List.length_cons];unfold aL;omega
def MH(l:List aE)(h:∀x∈l,pu x)(a:Int)(c: -9223372036854775808<=a)(h1:a<=9223372036854775807): -9223372036854775808<=eV a l/\eV a l<=9223372036854775807:=by
 induction l generalizing a with
 |nil=>exact⟨c,h1⟩
 |cons b f e=>exact e (λx d=>h x (by simp[d])) b.n (h b (by simp)).lo (h b (by simp)).hi
def gL(x:Int): -9223372036854775808<=Vd x/\Vd x<=9223372036854775807:=by unfold Vd;omega
def Jc{w d:F}{u u1 a b c:U}{t:Ui}(e:u.ownBlock≠I w.heap.size)(h:aO (w.alloc (.cells #[a,b,c] t)) d u u1):bU d w.heap.size 1 b:=
 h.fP.cell (a:=⟨w.heap.size,1,K⟩) (v:=b) (by simp) (λh=>e h.symm)
def rT:Prop:=∀(e f:U) (pre:List Nat) (a:List aE) (base:Nat) (c:F) (n:∀h∈a,pu h) (l:a.length<=100) (k:pre.length<=50000) (i:base<=c.heap.size) (m:c.ownsRow base 5 1 e pre.length (aG pre)) (j:∀d b,aO c d e b->rZ d f a),
 bG 143 #[e,f] c λg d=>∃b,g= .returned b/\d.ownsRow base 5 1 b (pre++bR 0 a).length (aG (pre++bR 0 a))/\aO c d e b
def wI:rT:=by
 intro o av pre b base k N an al ab g v;obtain⟨D,r,w,Z,rfl,i⟩:=v k o (aO.refl _ _);have y:X (∀d c,aO k d o c->∃r w,sK d D r w b):=λd c J=>by
  obtain⟨V,E,T,aa,H,G⟩:=v d c J;cases H;exact⟨E,T,G⟩
 have q:=af N;go_enter ay.func143,Tryz.ntmps143
 go_wp2_with fail
 go_loopw [0,5,10] (λs S m wr=>∃(a:Nat),a<=b.length/\m= .int .i64 a/\S= .int .i64 (eV 0 (b.take a))/\wr.ownsRow base 5 1 s (pre++bR 0 (b.take a)).length (aG (pre++bR 0 (b.take a)))/\aO k wr o s) (λ_ _ m _=>b.length-(UT m).toNat)
 case atStart=>exact⟨0,UF _,rfl,rfl,by simpa [bR] using g,aO.refl _ _⟩
 case round=>
  obtain⟨a,ad,rfl,rfl,g,l⟩:=hrel;have p:=af l;have ar:k.heap.size<=wr.heap.size:=l.fP.size;by_cases f:a<b.length
  ·obtain⟨W,aw,i⟩:=y.o wr u0 l;obtain rfl:=i.addr (by omega);have az:=i.c0 a f;have a0:=i.c1 a f;have a1:=i.c2 a f;have ao:(bR 0 (b.take a)).length<=1000:=by
    have:=nJ 0 (b.take a);rw[Vt] at this;omega
   have am:=(MH (b.take a) (λe R=>q.o e (V6 R)) 0 (by omega) (by omega));have U:=af (q.o _ (Uk f));have C:X (bR 0 (b.take (a+1))=bR 0 (b.take a)++aL (zz (Vd (b[a].n-eV 0 (b.take a))))):=by
    show _=_;rw[Up f,vz]
   have z:X (eV 0 (b.take (a+1))=b[a].n):=by
    show _=_;rw[Up f,yD]
   generalize b[a]=e at*;generalize eV 0 (b.take a)=h at*;have ap:(pre++bR 0 (b.take a)).length<=60000:=by rw[Ub];omega
   generalize L:pre++bR 0 (b.take a)=n at*;have B:=af L;have M:u0.ownBlock≠I wr.heap.size:=λF=>by have:=(g.lt _ F).2;omega
   obtain⟨O,Q⟩:=gL (e.n-h);have x:X (∀j,bG 122 #[u0,.agg #[.bool T8,.int .i64 (Vd (e.n-h)),.string ⟨#[]⟩],.int .i64 1] (wr.alloc j) λt d=>∃c,t= .returned c/\d.ownsRow base 5 1 c (n++aL (zz (Vd (e.n-h)))).length (aG (n++aL (zz (Vd (e.n-h)))))/\aO (wr.alloc j) d u0 c):=λj=>
    iJ u0 n ⟨T8,Vd (e.n-h),⟨#[]⟩⟩ 1 base (wr.alloc j) (.inl Y) ⟨O,Q,(by decide:(⟨#[]⟩:ByteArray).size<=32)⟩ (by omega) (by simp;omega) (g.alloc j)
   go_wp2_with (go_at_call 122;refine(x.o _).mono ?_;rintro t a3 ⟨a2,rfl,P,u⟩;have ae:=Jc M u)
   go_roundw
   case rel=>
    refine⟨a+1,by omega,by go_num,by rw[z.o],?_,p.o.trans u.box⟩;rw[C.o,<-UD,B.o];exact P
   case measure=>simp[UT];omega
  ·have K:b.take a=b:=UP (by omega);rw[K] at g;have A:=af g;go_wp2;go_ret;exact⟨_,rfl,A.o,p.o⟩
def p8(x:Int):∀u∈[VZ .i64 x],u.oneCell'=Z:=by
 intro u a;simp at a;subst a;rfl
def FA(p:U)(l:List aE)(w:F)(P:l.length<=100)(H:rZ w p l):
 bG 145 #[p] w λe w'=>∃q,e= .returned q/\w'.ownsRow w.heap.size 3 1 q l.length (bw (l.map aE.n))/\aP w w':=by
 obtain⟨L,M,Q,N,rfl,b⟩:=H;obtain⟨o,i,k,m,n⟩:=Vg ay.vE;have s:=af b;go_enter ay.func145,Tryz.ntmps145
 go_wp2_with (at_make;refine Wc _ Y _ _ 22 Y w.heap.size 3 o (.int .i64 0) 1 ay.underlying22 i k m .i64 .i64 _ l.length Y Y Y (by rw[n];omega) (by unfold Ur;omega) (T9 _) ?_;intro I E B)
 have x:aP w I:=(Uq _ _).grown B (T9 _) (by simp)
 go_loopw [3,11] (λu g wr=>∃(a:Nat),a<=l.length/\g= .int .i64 a/\wr.ownsRow w.heap.size 3 1 u a (bw ((l.take a).map aE.n))/\aP w wr) (λ_ g _=>l.length-(UT g).toNat)
 case atStart=>exact⟨0,UF _,rfl,E,x⟩
 case round=>
  obtain⟨a,O,rfl,c,f⟩:=hrel;have h:=af f;have G:w.heap.size<=wr.heap.size:=f.size;by_cases d:a<l.length
  ·have b:=s.o.below f;obtain rfl:=b.addr (by omega);have R:=b.c0 a d;have S:=b.c1 a d;have T:=b.c2 a d;have t:X ((l.take (a+1)).map aE.n=(l.take a).map aE.n++[l[a].n]):=by
    show _=_;rw[Up d,U1];rfl
   generalize l[a]=J at*
   go_wp2_with (at_builtin;refine aS _ Y _ _ 22 Y w.heap.size 3 o (.int .i64 0) 1 8 ay.underlying22 i k m n Y (by decide) _ a _ Y ((c.alloc _).alloc _) ⟨wr.heap.size+1,0,K⟩ 1 1 [.int .i64 J.n] Y (by decide) Y (by simpa using gT (wr.alloc _) _ _) (p8 _) (by unfold Ur;omega) (by omega) (by simp;omega) ?_;intro V W j A)
   go_roundw
   case rel=>
    have z:=aO.box (aO.append A);rw[eT] at j;refine⟨a+1,by omega,by go_num,by rw[t.o];exact j,h.o.trans (z.below (λv y=>(c.lt v y).1) G)⟩
   case measure=>simp[UT];omega
  ·have C:l.take a=l:=UP (by omega);have D:a=l.length:=by omega
   rw[C] at c;have r:X (wr.ownsRow w.heap.size 3 1 u3 l.length (bw (l.map aE.n))):=by rw[D] at c;exact c
   go_wp2;go_ret;exact⟨_,rfl,r.o,h.o⟩
def rB (w:F)(v:U)(a:List Int):Prop:=∃d b e f,v= .slice d a.length f/\(0<a.length->d=I ⟨b,e,K⟩)/\(0<a.length->b<w.heap.size)/\∀c,c<a.length->bU w b (e+c) (.int .i64 (a.getD c 0))
def rB.bN{w:F}{base:Nat}{v:U}{a:List Int}(h:w.ownsRow base 3 1 v a.length (bw a)):rB w v a:=by
 rcases h.2 with⟨rfl,f⟩|⟨b,e,i,rfl,j,m,n,k,l,o⟩
 ·have:a=[]:=Vi f;subst this;exact⟨K,0,0,0,rfl,λh=>by simp at h,λh=>by simp at h,λd h=>by simp at h⟩
 ·have g:=h.cells (g:=b) Y;refine⟨I ⟨b,0,K⟩,b,0,e,rfl,λ_=>rfl,λ_=>(h.lt b Y).2,?_⟩;intro d c;have:=g _ _ (F7 a d c);rw[fj c];simpa [VM] using this
def zZ(u aw:U)(pre l:List Nat)(d base:Nat)(w:F)(O:d<=16)(a7:l.length<=100)(a8:∀x∈l,x<2^d)(b1:pre.length<=60000)(bx:base<=w.heap.size)
 (bb:w.ownsRow base 5 1 u pre.length (aG pre)) (L:∀w' C,aO w w' u C->rB w' aw (l.map fun(n:Nat)=>(n:Int))):
 bG 157 #[u,aw,.int .i64 d] w λe w'=>∃(v:U) (a:List Nat),a.length=(l.length*d+7)/8/\(∀x∈a,x<256)/\V a=N d l/\
  e= .returned v/\w'.ownsRow base 5 1 v (pre++a).length (aG (pre++a))/\aO w w' u v:=by
 obtain⟨a0,H,Q,bt,am,-,-,-⟩:=L w u (aO.refl _ _);rw[UH] at am;subst am;have az:X (∀w' C,aO w w' u C->∃H Q,(0<l.length->a0=I ⟨H,Q,K⟩)/\∀z,(D:z<l.length)->w'.cell? ⟨H,Q+z,K⟩=I (.int .i64 ((l[z]:Nat):Int))):=λw' C a5=>by
  obtain⟨br,a1,bl,bu,ab,o,bv,a2⟩:=L w' C a5;rw[UH] at ab;cases ab;refine⟨a1,bl,by simpa using o,λz al=>?_⟩;rw[a2 z (by simpa using al),fj (by simpa using al)];simp
 clear L;obtain⟨av,ae,ao,ap,ar⟩:=Vg ay.rH;have b0:=Wt a7 O;go_enter ay.func157,Tryz.ntmps157
 go_wp2_with fail
 go_loopw [0,7,8,13] (λq D A P wr=>∃(c b f:Nat) (a:List Nat),c<=l.length/\P= .int .i64 c/\D= .int .i64 b/\A= .int .i64 f/\f<8/\b<2^f/\8*a.length+f=c*d/\(∀x∈a,x<256)/\V a+256^a.length*b=N d (l.take c)/\
  wr.ownsRow base 5 1 q (pre++a).length (aG (pre++a))/\aO w wr u q) (λ_ _ _ P _=>l.length-(UT P).toNat)
 case atStart=>exact⟨0,0,0,[],UF _,rfl,rfl,rfl,by omega,by simp,by simp,by simp,by simp[V,N],by simpa using bb,aO.refl _ _⟩
 case round=>
  obtain⟨c,b,f,a,bA,rfl,rfl,rfl,b4,i,s,j,r,k,g⟩:=hrel;have h:=af s;have m:=af r;clear r s;by_cases M:c<l.length
  ·obtain⟨bs,b5,an,aa⟩:=az.o _ _ g;obtain rfl:=an (by omega);have a4:=aa c M;clear an aa;have bj:=a8 _ (Uk M);have bi:(l[c]:Nat)<65536:=by have o:2^d<=2^16:=VP (by omega) O;omega
   have bB:(c+1)*d<=100*16:=Wt (by omega) O;have S:=af (QO a b _ f d c l M Y h.o m.o);have Z:=af (O0 _ _ _ _ h.o);have W:=af (Fv b _ f d i bj);have ba:=M1 b l[c] f (by omega) bi i;clear h m;generalize l[c]=x at*;generalize b+2^f*x=o at*
   go_wp2_with fail
   clear ba
   go_loopw [0,7,8] (λq D A wr=>∃(b E:Nat) (a:List Nat),D= .int .i64 b/\A= .int .i64 E/\E<24/\b<2^E/\8*a.length+E=(c+1)*d/\(∀x∈a,x<256)/\V a+256^a.length*b=N d (l.take (c+1))/\
    wr.ownsRow base 5 1 q (pre++a).length (aG (pre++a))/\aO w wr u q) (λ_ _ A _=>(UT A).toNat)
   case atStart=>exact⟨o,f+d,a,rfl,by go_num,by omega,W.o,Z.o,j,S.o,k,g⟩
   case round=>
    clear k g j W Z S i a4;obtain⟨b,B,a,rfl,rfl,b3,i,s,j,r,k,g⟩:=hrel;have h:=af s;have m:=af r;have a9:a.length<=200:=by omega
    have ad:b<16777216:=by have o:2^B<=2^24:=VP (by omega) (by omega);omega
    clear r s;have p:=af g;have be:w.heap.size<=wr.heap.size:=g.fP.size;have bc:(pre++a).length<=60200:=by rw[Ub];omega
    clear g;by_cases a3:8<=B
    ·generalize y:pre++a=R at*;have G:=af y;clear y
     go_wp2_with (at_builtin;refine aS _ Y _ _ 133 Y base 5 av (.int .u8 0) 1 1 ay.underlying133 ae ao ap ar Y (by decide) _ R.length _ Y (k.alloc _) ⟨wr.heap.size,0,K⟩ 1 1 [.int .u8 ((b:Int)%256)] Y (by decide) Y (gT _ _ _) (jo _) (by unfold Ur;omega) (by omega) (by simp;omega) ?_;intro bm bo t J)
     rw[show(b:Int)%256=((b%256:Nat):Int) from by omega,eS] at t
     go_roundw
     case rel=>exact⟨b/256,B-8,a++[b%256],by go_num,by go_num,by omega,FW b B a3 i,by have:=h.o;simp;omega,IC a _ j (by omega),QS a b _ m.o,by rw[<-UD,G.o];simpa using t,p.o.trans (aO.append J)⟩
     case measure=>simp[UT];omega
    ·go_wp2_with fail
     go_roundw
     case rel=>exact⟨c+1,b,B,a,by omega,by go_num,rfl,rfl,by omega,i,h.o,j,m.o,k,p.o⟩
     case measure=>simp[UT];omega
  ·have a6:c=l.length:=by omega
   subst a6;have T:X (V a+256^a.length*b=N d l):=by have:=m.o;rwa [Vh] at this
   have a9:a.length<=200:=by have:=h.o;omega
   have ad:b<256:=by have o:2^f<=2^8:=VP (by omega) (by omega);omega
   have p:=af g;have be:w.heap.size<=wr.heap.size:=g.fP.size;have bc:(pre++a).length<=60200:=by rw[Ub];omega
   clear g;by_cases b2:0<f
   ·generalize y:pre++a=R at*;have G:=af y;clear y
    go_wp2_with (at_builtin;refine aS _ Y _ _ 133 Y base 5 av (.int .u8 0) 1 1 ay.underlying133 ae ao ap ar Y (by decide) _ R.length _ Y (k.alloc _) ⟨wr.heap.size,0,K⟩ 1 1 [.int .u8 (b:Int)] Y (by decide) Y (gT _ _ _) (jo _) (by unfold Ur;omega) (by omega) (by simp;omega) ?_;intro bm bo t J)
    rw[eS] at t;go_ret;exact⟨_,a++[b],by have:=h.o;simp;omega,IC a _ j ad,by rw[Dj,<-T.o];simp[V],rfl,by rw[<-UD,G.o];simpa using t,p.o.trans (aO.append J)⟩
   ·have bd:f=0:=by omega
    subst bd;go_wp2;go_ret;exact⟨_,a,by have:=h.o;omega,j,by have:=T.o;simp at i;subst i;simpa using this,rfl,k,p.o⟩
def Ss:laidOutB (aB T5)=Z:=by kernel_rfl
def SH:(59:Ui)<(aB T5).types.size:=of_decide_eq_true (by kernel_rfl)
def TX:(aB T5).keyTypeAt 2 59=Z:=by kernel_rfl
def Gd:Maps.Keyed (aB T5) 59:=Y4 (deep_law_laid Ss (m:=2) (by omega) SH TX (by rw[ay.underlying59]))
def LL:(aB T5).cellsOf 59=3:=by kernel_rfl
def OB:(aB T5).cellsOf 4=1:=by kernel_rfl
def OC:(aB T5).cellsOf 3=1:=by kernel_rfl
def OD:(aB T5).cellsOf 9=1:=by kernel_rfl
def KD(n:Nat)(h:59<n):∃m,n=m+1:=⟨n-1,by omega⟩
def SJ:∃m,(aB T5).types.size=m+1:=KD _ SH
def Mz:(aB T5).keyType 59=Z:=by kernel_rfl
def kl (x:aE):Lit:=.string (keyBytes [.bool x.null,.int .i64 x.n,.string x.s.data.toList])
def wf_i64(a:Int)(b: -9223372036854775808<=a)(h1:a<=9223372036854775807):(Lit.int .i64 a).wf=Z:=by
 simp[Lit.wf,IntKind.min,IntKind.max,XV,Yh];omega
def B8(x:aE)(h:pu x):keyOf (aB T5) 59 (.agg (iG x))=I (kl x):=by
 obtain⟨m,b⟩:=SJ;have d:=wf_i64 x.n h.lo h.hi;have c:x.s.size<=Ur:=by have:=h.sz;unfold Ur;omega
 have a:(Value.agg (iG x)).formed (aB T5) 59=Z:=by simp[Value.formed,ay.underlying59,LL]
 unfold keyOf;simp only[ay.underlying59,Mz,a,Bool.and_self,if_true,b];unfold Program.keyLits;simp[ay.underlying59,LL,OB,OC,OD,Value.cells,Program.keyLits,ay.underlying4,ay.underlying3,ay.underlying9,d,c,kl]
def MB{x y:aE}(b:pu x)(c:pu y)(h:kl x=kl y):x=y:=by
 have a:=Gd.inj (B8 x b) (by rw[h];exact B8 y c);cases x;cases y;simp at a;simp[a]
def MC(x:aE):WideAt.IsKeyLit (kl x):=trivial
def ins (d:List aE)(v:aE):List aE:=if idx d v<d.length then d else d++[v]
def rG(d:List aE)(x:aE)(r:List aE)(h:idx d x<d.length):idx (d++r) x=idx d x:=by
 induction d with
 |nil=>simp at h
 |cons c e b=>
  simp only[idx,We] at h ⊢;by_cases a:Fj c x=Z
  ·simp[a]
  ·simp only[a] at h ⊢;have:=b (by simpa using h);simp[this]
def iz(d:List aE)(x:aE)(h:¬idx d x<d.length)(v:aE):idx (d++[v]) x=if Fj v x then d.length else d.length+1:=by
 induction d with
 |nil=>simp[idx]
 |cons c e b=>
  simp only[idx,We] at h ⊢;by_cases a:Fj c x=Z
  ·simp[a] at h
  ·simp only[a] at h ⊢;have:=b (by simpa using h);rw[if_neg (by simp),this]
   split<;>simp
def xq(d:List aE)(v:aE):idx (ins d v) v=idx d v/\idx (ins d v) v<(ins d v).length/\(¬idx d v<d.length->idx d v=d.length):=by
 have c:=Rf d v;unfold ins;by_cases a:idx d v<d.length
 ·simp only[a,if_true];exact⟨trivial,trivial,λa=>absurd trivial a⟩
 ·have b:Fj v v=Z:=nC.2 Y;have:=iz d v a v;rw[b] at this;simp only[a,if_false];simp at this;rw[this];refine⟨by omega,by simp,λ_=>by omega⟩
def sP (s:List aE×List Nat)(v:aE):List aE×List Nat:=(ins s.1 v,s.2++[idx (ins s.1 v) v])
def dfold(l:List aE):List aE×List Nat:=l.foldl sP ([],[])
def dfold_succ(l:List aE)(k:Nat)(h:k<l.length):dfold (l.take (k+1))=sP (dfold (l.take k)) l[k]:=by
 unfold dfold;rw[Up h,List.foldl_append];rfl
def Gb(d:List aE)(v:aE):(ins d v).length<=d.length+1/\d.length<=(ins d v).length:=by
 unfold ins;split<;>simp
def O2(d:List aE)(v x:aE)(h:x∈ins d v):x∈d\/x=v:=by
 unfold ins at h
 split at h
 ·exact .inl h
 ·rcases U2.1 h with h|h
  ·exact .inl h
  ·exact .inr (by simpa using h)
def pR(l:List aE):∀k,k<=l.length->(dfold (l.take k)).1.length<=k/\(dfold (l.take k)).2.length=k/\(∀p∈(dfold (l.take k)).2,p<(dfold (l.take k)).1.length)/\(∀x∈(dfold (l.take k)).1,x∈l):=by
 intro k
 induction k with
 |zero=>intro _;simp[dfold]
 |succ k h=>
  intro b;obtain⟨i,c,d,e⟩:=h (by omega);rw[dfold_succ l k (by omega)];have j:=Gb (dfold (l.take k)).1 l[k];have g:=xq (dfold (l.take k)).1 l[k];unfold sP;refine⟨by simp only;omega,by simp[c],?_,?_⟩
  ·intro p a;simp only at a ⊢;rcases U2.1 a with a|a
   ·have:=d p a;omega
   ·simp at a;rw[a];exact g.2.1
  ·intro x f;rcases O2 _ _ _ f with b|b
   ·exact e x b
   ·rw[b];exact Uk _
structure Knows(D:DataW Unit)(d:List aE):Prop where
 map:Maps.IsMap D
 has:∀x,pu x->Maps.has D (kl x)=decide (idx d x<d.length)
 at_:∀x,pu x->idx d x<d.length->D.atKey (kl x) (.lit (.int .i64 0))= .lit (.int .i64 (idx d x:Int))
def Knows.empty:Knows (.map []) []:=⟨Maps.isMap_empty,λb _=>by simp[Maps.has_eq],λb _ a=>by simp at a⟩
def Knows.put{D:DataW Unit}{d:List aE}(h:Knows D d)(v:aE)(k:pu v)(j:¬idx d v<d.length):Knows (D.put (kl v) (.lit (.int .i64 (d.length:Int)))) (d++[v]):=by
 have l:Fj v v=Z:=nC.2 Y;refine⟨h.map.put _ _,?_,?_⟩
 ·intro a e;by_cases b:a=v
  ·subst b;rw[Maps.has_put_same h.map (MC a)];have:=iz d a j a;rw[l] at this;simp at this;simp[this]
  ·rw[Maps.has_put_other (λf=>b (MB e k f)),h.has a e];by_cases c:idx d a<d.length
   ·rw[rG d a [v] c];simp;omega
   ·rw[iz d a c v];have:Fj v a=T8:=by
     rw[Bool.eq_false_iff];intro g;exact b (nC.1 g).symm
    rw[this];simp;omega
 ·intro a e c;by_cases b:a=v
  ·subst b;rw[Maps.atKey_put_same h.map (MC a)];have:=iz d a j a;rw[l] at this;simp at this;rw[this]
  ·rw[Maps.atKey_put_other (λf=>b (MB e k f))];by_cases i:idx d a<d.length
   ·rw[rG d a [v] i];exact h.at_ a e i
   ·exfalso
    rw[iz d a i v] at c;have:Fj v a=T8:=by
     rw[Bool.eq_false_iff];intro g;exact b (nC.1 g).symm
    rw[this] at c;simp at c
def ay.mK:((aB T5).info? 59).map (λi=>(i.zero,i.size,i.bytes))=I (I (.agg #[.bool T8,.int .i64 0,.string ⟨#[]⟩]),3,32):=by kernel_rfl
def IU(w:F):(zeroValue 3).run (aB T5) w= .ok (.int .i64 0) w:=by kernel_rfl
def uH{w:F}{base e b n:Nat}{v:U}{c:List U}(h:w.ownsRow base e b v n c):∃a cap,v= .slice a n cap:=by
 rcases h.2 with⟨rfl,rfl⟩|⟨f,cap,d,rfl,_⟩
 ·exact⟨K,0,rfl⟩
 ·exact⟨_,_,rfl⟩
def ju(w:F)(a b c:U)(t:Ui):∀(j:Nat) (u:U),[a,b,c][j]? =I u->(w.alloc (.cells #[a,b,c] t)).cell? ((⟨w.heap.size,0,K⟩:UK).add j)=I u:=by
 intro j u d
 match j,d with
 |0,d=>simp at d;subst d;simp[Ys]
 |1,d=>simp at d;subst d;simp[VM]
 |2,d=>simp at d;subst d;simp[VM]
def fD(x:aE):∀u∈[WQ x.null,.int .i64 x.n,.string x.s],u.oneCell'=Z:=by
 intro u a;simp at a;rcases a with rfl|rfl|rfl<;>rfl
def AF{w d:F}{a b c:U}{t:Ui}{g:Option Nat}(e:(w.alloc (.cells #[a,b,c] t)).grownBy d g)(f:I w.heap.size≠g):
 bU d w.heap.size 0 a/\bU d w.heap.size 1 b/\bU d w.heap.size 2 c:=
 ⟨e.cell (a:=⟨w.heap.size,0,K⟩) (by simp) f,e.cell (a:=⟨w.heap.size,1,K⟩) (by simp) f,e.cell (a:=⟨w.heap.size,2,K⟩) (by simp) f⟩
def aO.ct{w w':F}{u:U}(h:aP w w'):aO w w' u u:=⟨⟨h.1,h.2,h.3,h.4,λb a _=>h.block b a⟩,λ_ h=>.inl h⟩
def ez (k:Int)(l:List aE):List Nat:=aL (dfold l).1.length++(aW k (dfold l).1++cK (wid (dfold l).1.length) (dfold l).2)
def ints (ps:List Nat):List Int:=ps.map fun(a:Nat)=>(a:Int)
def xF:Prop:=∀(d f:U) (pre:List Nat) (b:List aE) (a:Int) (base:Nat) (c:F) (k:a=1\/a=2\/a=3) (o:∀i∈b,pu i) (m:b.length<=100) (l:pre.length<=40000) (j:base<=c.heap.size) (n:c.ownsRow base 5 1 d pre.length (aG pre)) (p:rZ c f b),
 bG 144 #[d,f,.int .i64 a] c λh g=>∃e,h= .returned e/\g.ownsRow base 5 1 e (pre++ez a b).length (aG (pre++ez a b))/\aO c g d e
def xM:xF:=by
 intro n eo pre c o base e c7 dt ea d8 d5 dl du;obtain⟨a2,ao,aw,az,a0⟩:=Vg ay.vE;obtain⟨d0,c4,dE,dO,dT⟩:=Vg ay.mK;obtain⟨d2,d3,eq,d4,rfl,E⟩:=du;have ba:=af dt;have cc:=af E;have S:=af dl;have d9:= @run_makeMap (aB T5);have y:=World.ownsMap_made e (aB T5) 59 (plainElem (H:=Unit) (aB T5) 3);have b5:=af (pR c);go_enter ay.func144,Tryz.ntmps144
 go_wp2_with (at_make;refine Wc _ Y _ _ 22 Y (e.heap.size+1) 3 a2 (.int .i64 0) 1 ay.underlying22 ao aw az .i64 .i64 _ c.length Y Y Y (by rw[a0];omega) (by unfold Ur;omega) (by simp) ?_;intro bA dp bo)
 have cx:aP e bA:=((Uq _ _).alloc (T9 _) _).grown bo (by simp) (by simp);have dc:bA.ownsMap (aB T5) 59 (plainElem (H:=Unit) (aB T5) 3) e.heap.size 0 (.map []):=y.kept bo (by simp)
 go_loopw [7,9,20] (λV bx a1 wr=>∃(a s:Nat) (D:DataW Unit) (u:Option UK) (bX:Nat),a<=c.length/\s<=a/\a1= .int .i64 a/\V= .slice u (dfold (c.take a)).1.length bX/\
  wr.ownsRow (e.heap.size+1) 59 3 V (dfold (c.take a)).1.length (aH (dfold (c.take a)).1)/\wr.ownsRow (e.heap.size+1) 3 1 bx a (bw (ints (dfold (c.take a)).2))/\Apart V bx/\
  wr.ownsMap (aB T5) 59 (plainElem (H:=Unit) (aB T5) 3) e.heap.size s D/\Knows D (dfold (c.take a)).1/\aP e wr) (λ_ _ a1 _=>c.length-(UT a1).toNat)
 case atStart=>exact⟨0,0,.map [],K,0,UF _,T9 _,rfl,rfl,Vq _ _ _ _,by simpa [ints,bw,dfold] using dp,Or.inl Y,dc,Knows.empty,cx⟩
 case round=>
  obtain⟨a,s,D,u,bX,c6,eb,rfl,rfl,r,m,C,y,ap,ab⟩:=hrel;have L:=af ab;have bt:e.heap.size<=wr.heap.size:=ab.size;obtain⟨bi,ad,ae,bj⟩:=b5.o a c6;have el:e.heap.size+1<=wr.heap.size:=by have:=y.lt;omega
  by_cases G:a<c.length
  ·have E:=cc.o.below ab;obtain rfl:=E.addr (by omega);have er:=E.c0 a G;have es:=E.c1 a G;have et:=E.c2 a G;have M:=af (ba.o _ (Uk G));have a6:=af (dfold_succ c a G);have O:=B8 c[a] M.o;have a9:=af ap;have Q:=ap.has c[a] M.o;have b4:=af (ap.at_ c[a] M.o);have R:=xq (dfold (c.take a)).1 c[a];have a8:X (ins (dfold (c.take a)).1 c[a]=if idx (dfold (c.take a)).1 c[a]<(dfold (c.take a)).1.length then(dfold (c.take a)).1 else(dfold (c.take a)).1++[c[a]]):=rfl;generalize c[a]=g at*;generalize d6:dfold (c.take a)=T at*;obtain⟨b,l⟩:=T;simp only at bi ad ae bj r m C O Q R;have a7:=af R.1;have b6:=af R.2.2;by_cases x:idx b g<b.length
   ·rw[decide_eq_true x] at Q
    go_wp2_with (first
     |(at_lookup;refine wpList_lookup_own_ok_int _ Y _ _ 229 Y 59 3 .i64 Gd ay.underlying229 ay.underlying3 (IU _) e.heap.size s D Y (y.alloc _) _ _ Y O ?_;intro N bd dv)
     |(at_builtin;refine aS _ Y _ _ 22 Y (e.heap.size+1) 3 a2 (.int .i64 0) 1 8 ay.underlying22 ao aw az a0 Y (by decide) _ a _ Y ((m.alloc _).alloc _) ⟨wr.heap.size+1,0,K⟩ 1 1 [.int .i64 N] Y (by decide) Y (by simpa using gT (wr.alloc _) _ _) (p8 _) (by unfold Ur;omega) (by omega) (by simp;omega) ?_;intro a4 J z an))
    have c0:N=(idx b g:Int):=by
     have:=b4.o x;rw[bd] at this;simpa using this
    have q:=aO.box (aO.append an);have p:dfold (c.take (a+1))=(b,l++[idx b g]):=by
     rw[a6.o];unfold sP;simp only;rw[a7.o,a8.o,if_pos x]
    rw[eT] at z;refine⟨⟨a+1,s,D,u,bX,by omega,by omega,by simp,by rw[p],by rw[p];exact bE r q C,?_,C.jQ r q,y.kept q.fP (λd=>by have:=(m.lt _ d.symm).1;omega),by rw[p];exact a9.o,L.o.trans (q.below (λk i=>by have:=(m.lt k i).1;omega) bt)⟩,by simp[UT];omega⟩;rw[p];simp only;rw[show ints (l++[idx b g])=ints l++[N] from by rw[c0];simp[ints]];exact z
   ·rw[decide_eq_false x] at Q;have c8:I wr.heap.size≠I e.heap.size:=by simp;omega
    have bc:∀bu:Xx,(wr.alloc bu).heap.size=wr.heap.size+1:=λbu=>by simp
    have c1:VA (.slice u b.length bX)=K\/VA (.slice u b.length bX)≠I e.heap.size:=.inr (λd=>by have:=(r.lt _ d).1;omega);have dq:u9.ownBlock=K\/u9.ownBlock≠I e.heap.size:=.inr (λd=>by have:=(m.lt _ d).1;omega)
    go_wp2_with (first
     |(at_lookup;refine wpList_lookup_own_ok_int _ Y _ _ 229 Y 59 3 .i64 Gd ay.underlying229 ay.underlying3 (IU _) e.heap.size s D Y (y.alloc _) _ _ Y O ?_;intro N bd dv)
     |(at_mapUpdate;refine wpList_mapUpdate_own _ Y _ _ _ 229 Y 59 3 Gd ay.underlying229 _ e.heap.size s D Y (y.alloc _) ?_ _ _ _ Y Y O _ [] (plainElem_int ay.underlying3 (wf_i64 _ (by omega) (by omega))) ?_;(unfold Ur;omega);intro f dd F;have cR:=AF F c8;obtain⟨eQ,e0,e1⟩:=cR;have ds:=F.size;rw[bc] at ds;have al:=(r.alloc _).kept F c1;have bs:=(m.alloc _).kept F dq)
     |(at_builtin;refine aS _ Y _ _ 43 Y (e.heap.size+1) 59 d0 _ 3 32 ay.underlying43 c4 dE dO dT Y (by decide) _ b.length _ Y (al.alloc _) ⟨f.heap.size,0,K⟩ 1 1 [.bool g.null,.int .i64 g.n,.string g.s] Y (by decide) Y (ju _ _ _ _ _) (fD g) (by unfold Ur;omega) (by omega) (by simp;omega) ?_;intro a4 J z an;have w:=aO.append an;have av:=bE bs w C.symm;have eh:=w.fP.size)
     |(at_builtin;refine aS _ Y _ _ 22 Y (e.heap.size+1) 3 a2 (.int .i64 0) 1 8 ay.underlying22 ao aw az a0 Y (by decide) _ a _ Y (av.alloc _) ⟨J.heap.size,0,K⟩ 1 1 [.int .i64 (b.length:Int)] Y (by decide) Y (gT _ _ _) (p8 _) (by unfold Ur;omega) (by omega) (by simp;omega) ?_;intro e2 bB br c3))
    have q:=aO.append c3;have bb:Apart a4 u9:=(C.symm.jQ bs w).symm;have p:dfold (c.take (a+1))=(b++[g],l++[b.length]):=by
     rw[a6.o];unfold sP;simp only;rw[a7.o,a8.o,if_neg x,b6.o x]
    have aa:aP e f:=(L.o.alloc bt _).grown F (by rw[bc];omega) (λk i=>by cases i;exact T9 _);have be:WN e.heap.size f J:=w.below (λk i=>by have:=(al.lt k i).1;omega) aa.size;have cv:WN e.heap.size J bB:=q.below (λk i=>by have:=(av.lt k i).1;omega) (aa.trans be).size;rw[eT] at br;rw[<-mX,<-jv] at z;have df:=dd.kept w.fP (λd=>by have:=(al.lt _ d.symm).1;omega);have dk:=df.kept q.fP (λd=>by have:=(av.lt _ d.symm).1;omega);obtain⟨ck,cl,dr⟩:=uH z;refine⟨⟨a+1,s+1,_,ck,cl,by omega,by omega,by simp,by rw[p,dr];simp,by rw[p];simpa using bE z q bb,?_,bb.jQ z q,dk,by rw[p];exact a9.o.put g M.o x,(aa.trans be).trans cv⟩,by simp[UT];omega⟩;rw[p];simp only;rw[show ints (l++[b.length])=ints l++[(b.length:Int)] from by simp[ints]];exact br
  ·have d7:a=c.length:=by omega
   have c5:c.take a=c:=UP (by omega);have a5:X (ez o c=aL (dfold (c.take a)).1.length++(aW o (dfold (c.take a)).1++cK (wid (dfold (c.take a)).1.length) (dfold (c.take a)).2)):=by show _=_;rw[c5];rfl
   have P:X (∀g∈(dfold (c.take a)).1,pu g):=λg dC=>ba.o g (bj g dC);generalize dfold (c.take a)=T at*;obtain⟨b,l⟩:=T;simp only at bi ad ae r m C a5 P;have ch:Apart (.slice u b.length bX) n:=by
    cases A:n.ownBlock with
    |none=>exact Apart.symm (u:=n) (Or.inl A)
    |some k=>
     refine .inr (λd=>?_);rw[A] at d;have W:=(r.lt k d).1;have Z:=(S.o.lt k A).2;omega
   have cf:Apart u9 n:=by
    cases A:n.ownBlock with
    |none=>exact Apart.symm (u:=n) (Or.inl A)
    |some k=>
     refine .inr (λd=>?_);rw[A] at d;have W:=(m.lt k d).1;have Z:=(S.o.lt k A).2;omega
   have cd:=af (aK S.o L.o);have ec:=gd o b P.o;have em:=cq 10 b.length;have en:=vm b.length;have b0:X (bG 84 #[n,.int .i64 (b.length:Int)] wr λd j=>∃a3,d= .returned a3/\j.ownsRow base 5 1 a3 (pre++aL b.length).length (aG (pre++aL b.length))/\aO wr j n a3):=
    cQ n pre b.length base wr (by omega) (by omega) (by omega) cd.o
   have ee:(pre++aL b.length).length<=40010:=by rw[Ub];unfold aL;omega
   generalize cs:pre++aL b.length=t at*;have ca:=af cs;have ef:(t++aW o b).length<=45000:=by rw[Ub];omega
   have b1:X (∀f h,f.ownsRow base 5 1 h t.length (aG t)->aO wr f n h->bG 146 #[h,.slice u b.length bX,.int .i64 o] f λd j=>∃H,d= .returned H/\j.ownsRow base 5 1 H (t++aW o b).length (aG (t++aW o b))/\aO f j h H):=λf h ar i=>
    lI h _ t b o base f c7 P.o (by omega) (by omega) (by have:=i.fP.size;omega) ar (λj H am=>rZ.bN (bE r (i.trans am) ch))
   generalize cu:t++aW o b=B at*;have cb:=af cu;have b2:X (∀f,bG 158 #[.int .i64 (b.length:Int)] f λd j=>d= .returned (.int .i64 (wid b.length))/\j=f):=λf=>wu b.length (by omega) f;have b3:X (∀f h,f.ownsRow base 5 1 h B.length (aG B)->aO wr f n h->bG 157 #[h,u9,.int .i64 (wid b.length:Nat)] f λd j=>∃(v:U),d= .returned v/\j.ownsRow base 5 1 v (B++cK (wid b.length) l).length (aG (B++cK (wid b.length) l))/\aO f j h v):=λf h ar i=>by
    refine(zZ h u9 B l (wid b.length) base f (by omega) (by omega) (λbv m=>tM _ (by omega) bv (ae bv m)) (by omega) (by have:=i.fP.size;omega) ar (λj H am=>?_)).mono ?_
    ·refine rB.bN (base:=e.heap.size+1) ?_;have:=bE m (i.trans am) cf;rw[UH,ad];exact this
    ·rintro d j ⟨v,d1,W,Z,cn,rfl,co,cp⟩;have:=tq (wid b.length) l d1 W Z cn;subst this;exact⟨_,rfl,co,cp⟩
   go_wp2_with first
    |(go_at_call 84;refine b0.o.mono ?_;rintro d f ⟨h,rfl,c9,bl⟩)
    |(go_at_call 146;refine(b1.o _ _ c9 bl).mono ?_;rintro d J ⟨a4,rfl,da,w⟩;have bm:=bl.trans w)
    |(go_at_call 158;refine(b2.o _).mono ?_;rintro d bB ⟨rfl,rfl⟩)
    |(go_at_call 157;refine(b3.o _ _ da bm).mono ?_;rintro d e4 ⟨e3,rfl,db,c2⟩)
   go_ret;have ci:pre++ez o c=B++cK (wid b.length) l:=by
    rw[a5.o,<-cb.o,<-ca.o];simp only[UD]
   refine⟨_,rfl,?_,(aO.ct L.o).trans (bm.trans c2)⟩;rw[ci];exact db
def nM (x:aE):Int:=if x.null then 0 else 1
def there(l:List aE):List aE:=l.filter λa=> !a.null
def dW (k e:Int)(l:List aE):List Nat:=if e=1 then bR 0 l else if e=2 then ez k l else if e=3 then cz (l.map aE.n) else aW k l
def bJ (k e:Int)(l:List aE):List Nat:=cz (l.map nM)++dW k e (there l)
def va{l:List aE}{x:aE}(h:x∈there l):x∈l:=(List.mem_filter.1 h).1
def lX(l:List aE):(there l).length<=l.length:=List.length_filter_le _ _
def G9(l:List aE)(j:Nat)(h:j<l.length):there (l.take (j+1))=if l[j].null then there (l.take j) else there (l.take j)++[l[j]]:=by
 unfold there;rw[Up h,List.filter_append];cases a:l[j].null<;>simp[a]
def JO(l:List aE)(j:Nat)(h:j<l.length):(l.take (j+1)).map nM=(l.take j).map nM++[nM l[j]]:=by
 rw[Up h,U1];rfl
def oL(l:List Int)(h:l.length<=100):(cz l).length<=1100:=by
 have:=oM l.length l;unfold cz;omega
def vt(u d:U)(pre:List Nat)(a:List Int)(base o:Nat)(w:F)(m:a.length<=100)(j:pre.length<=100000)(h:base<=w.heap.size)
 (l:w.ownsRow base 5 1 u pre.length (aG pre)) (k:w.ownsRow o 3 1 d a.length (bw a)) (v:Apart d u):
 bG 142 #[u,d] w λe w'=>∃f,e= .returned f/\w'.ownsRow base 5 1 f (pre++cz a).length (aG (pre++cz a))/\aO w w' u f:=by
 rcases k.2 with⟨rfl,r⟩|⟨q,p,B,rfl,C,G,H,D,E,J⟩
 ·rw[show(Vc K 0 0)= .slice K a.length 0 from by rw[r]];exact pK u pre a K 0 0 0 base w m j h (λb=>by omega) (λb=>by omega) (λb=>by omega) (λL b=>by omega) l
 ·obtain⟨z,n,y,A,i,g,s,t⟩:=rB.bN k;simp only[VB,true_and] at i;obtain⟨rfl,rfl⟩:=i;refine pK u pre a (I ⟨q,0,K⟩) n y p base w m j h g s (λb=>?_) t l;have e:=g b;simp only[U9,Wi] at e;rw[<-e.1];intro x;rcases v with c|c
  ·simp[VA] at c
  ·exact c (by rw[x];simp[VA])
def tW{e:Int}(ca:e=0\/xF/\rT)(u bm:U)(pre:List Nat)(l:List aE)(k:Int)(base:Nat)(w:F)(ae:k=1\/k=2\/k=3)(cp:∀x∈l,pu x)(c5:l.length<=100)(c4:pre.length<=30000)(c2:base<=w.heap.size)
 (ck:w.ownsRow base 5 1 u pre.length (aG pre)) (cs:rZ w bm l):
 bG 124 #[u,bm,.int .i64 k,.int .i64 e] w λr w'=>∃h,r= .returned h/\w'.ownsRow base 5 1 h (pre++bJ k e l).length (aG (pre++bJ k e l))/\aO w w' u h:=by
 have av:=af ca;obtain⟨ar,ad,am,an,ao⟩:=Vg ay.vE;obtain⟨bj,a7,bd,be,bi⟩:=Vg ay.mK;obtain⟨cx,cR,da,c0,rfl,D⟩:=cs;have bx:=af cp;have bu:=af D;have W:=af ck;go_enter ay.func124,Tryz.ntmps124
 go_wp2_with (first
  |(at_make;refine Wc _ Y _ _ 22 Y w.heap.size 3 ar (.int .i64 0) 1 ay.underlying22 ad am an .i64 .i64 _ l.length Y Y Y (by rw[ao];omega) (by unfold Ur;omega) (T9 _) ?_;intro cv a9 a5;have bc:=a5.size)
  |(at_make;refine Wc _ Y _ _ 43 Y w.heap.size 59 bj _ 3 ay.underlying43 a7 bd be .i64 .i64 _ l.length Y Y Y (by rw[bi];omega) (by unfold Ur;omega) bc ?_;intro a cn a6))
 have b2:Apart (.slice (I ⟨w.heap.size,0,K⟩) 0 l.length) (.slice (I ⟨cv.heap.size,0,K⟩) 0 l.length):=.inr (by
  have:=(a9.lt w.heap.size (by simp[VA])).2;simp[VA];omega)
 have cl:=a9.kept a6 (.inr (by simp[VA]));have b4:aP w a:=((Uq _ _).grown a5 (T9 _) (by simp)).grown a6 bc (by simp)
 go_loopw [9,10,21] (λbl br ap wr=>∃(f:Nat),f<=l.length/\ap= .int .i64 f/\wr.ownsRow w.heap.size 3 1 bl f (bw ((l.take f).map nM))/\wr.ownsRow w.heap.size 59 3 br (there (l.take f)).length (aH (there (l.take f)))/\Apart bl br/\aP w wr) (λ_ _ ap _=>l.length-(UT ap).toNat)
 case atStart=>exact⟨0,UF _,rfl,by simpa [bw] using cl,by simpa [there,aH] using cn,b2,b4⟩
 case round=>
  obtain⟨f,c3,rfl,i,B,R,aa⟩:=hrel;have z:=af aa;have al:w.heap.size<=wr.heap.size:=aa.size;have c8:(there (l.take f)).length<=f:=by have:=lX (l.take f);rw[Vt] at this;omega
  have ci:I wr.heap.size≠u9.ownBlock:=λe=>by have:=(i.lt _ e.symm).2;omega
  by_cases N:f<l.length
  ·have D:=bu.o.below aa;obtain rfl:=D.addr (by omega);have bo:=D.c0 f N;have db:=D.c1 f N;have dc:=D.c2 f N;have P:=G9 l f N;have aw:=af (JO l f N);generalize l[f]=x at*;cases C:x.null
   ·rw[C] at bo P;have V:X (there (l.take (f+1))=there (l.take f)++[x]):=by show _=_;simpa using P
    have T:X (nM x=1):=by show _=_;unfold nM;rw[C];rfl
    have b6:aH [x]=[.bool T8,.int .i64 x.n,.string x.s]:=by rw[mX,C]
    have b0:∀u∈[WQ T8,.int .i64 x.n,.string x.s],u.oneCell'=Z:=by have:=fD x;rwa [C] at this
    go_wp2_with (first
     |(at_builtin;refine aS _ Y _ _ 22 Y w.heap.size 3 ar (.int .i64 0) 1 8 ay.underlying22 ad am an ao Y (by decide) _ f _ Y ((i.alloc _).alloc _) ⟨wr.heap.size+1,0,K⟩ 1 1 [.int .i64 1] Y (by decide) Y (by simpa using gT (wr.alloc _) _ _) (p8 _) (by unfold Ur;omega) (by omega) (by simp;omega) ?_;intro p j O ab;have a4:=aO.append ab;have b5:=AF a4.fP ci;obtain⟨dd,df,dk⟩:=b5;have m:=a4.box;have bb:=bE B m R.symm;have co:=m.fP.size)
     |(at_builtin;refine aS _ Y _ _ 43 Y w.heap.size 59 bj _ 3 32 ay.underlying43 a7 bd be bi Y (by decide) _ _ _ Y (bb.alloc _) ⟨j.heap.size,0,K⟩ 1 1 [.bool T8,.int .i64 x.n,.string x.s] Y (by decide) Y (ju _ _ _ _ _) b0 (by unfold Ur;omega) (by omega) (by simp;omega) ?_;intro cu bs ba cb))
    have M:=aO.append cb;have az:Apart p u10:=(R.symm.jQ B m).symm;have S:=bE O M az;rw[eT] at S;rw[<-b6,<-jv] at ba;have v:WN w.heap.size wr j:=m.below (λJ d=>(i.lt J d).1) al;have b3:WN w.heap.size j bs:=M.below (λJ d=>(bb.lt J d).1) (Uz al co);refine⟨⟨f+1,by omega,by simp,by rw[aw.o,T.o];exact S,by rw[V.o];simpa using ba,az.jQ O M,(z.o.trans v).trans b3⟩,by simp[UT];omega⟩
   ·rw[C] at bo P;have V:X (there (l.take (f+1))=there (l.take f)):=by show _=_;simpa using P
    have T:X (nM x=0):=by show _=_;unfold nM;rw[C];rfl
    go_wp2_with (at_builtin;refine aS _ Y _ _ 22 Y w.heap.size 3 ar (.int .i64 0) 1 8 ay.underlying22 ad am an ao Y (by decide) _ f _ Y ((i.alloc _).alloc _) ⟨wr.heap.size+1,0,K⟩ 1 1 [.int .i64 0] Y (by decide) Y (by simpa using gT (wr.alloc _) _ _) (p8 _) (by unfold Ur;omega) (by omega) (by simp;omega) ?_;intro p j O ab)
    have m:=aO.box (aO.append ab);rw[eT] at O;have v:WN w.heap.size wr j:=m.below (λJ d=>(i.lt J d).1) al;refine⟨⟨f+1,by omega,by simp,by rw[aw.o,T.o];exact O,by rw[V.o];exact bE B m R.symm,(R.symm.jQ B m).symm,z.o.trans v⟩,by simp[UT];omega⟩
  ·have cd:f=l.length:=by omega
   have cc:l.take f=l:=UP (by omega);rw[cc] at i B;have cf:((l.map nM).length)=l.length:=UH _;have a8:wr.ownsRow w.heap.size 3 1 u9 (l.map nM).length (bw (l.map nM)):=by rw[cf,<-cd];exact i
   have G:X (bJ k e l=cz (l.map nM)++dW k e (there l)):=rfl;have Q:X (∀x∈there l,pu x):=λx C=>bx.o x (va C);have c9:=lX l;have c7:=oL (l.map nM) (by omega);have bB:Apart u9 u:=(Apart.new (B:=0) W.o a8).symm;have a0:Apart u10 u:=(Apart.new (B:=0) W.o B).symm;have bv:=af (aK W.o z.o);have E:X (bG 142 #[u,u9] wr λe w'=>∃q,e= .returned q/\w'.ownsRow base 5 1 q (pre++cz (l.map nM)).length (aG (pre++cz (l.map nM)))/\aO wr w' u q):=
    vt u u9 pre (l.map nM) base w.heap.size wr (by omega) (by omega) (by omega) bv.o a8 bB
   have c6:(pre++cz (l.map nM)).length<=32000:=by rw[Ub];omega
   generalize cz (l.map nM)=bA at*;generalize b1:pre++bA=g at*;have H:=af b1;generalize there l=c at*;have A:X (∀a b,aO wr a u b->a.ownsRow w.heap.size 59 3 u10 c.length (aH c)/\Apart u10 b):=λa b d=>⟨bE B d a0,a0.jQ B d⟩;rcases BN e with rfl|rfl|rfl|rfl|⟨c1,a1,a2,a3⟩
   ·have t:X (dW k 0 c=aW k c):=rfl;have s:X (∀a b,a.ownsRow base 5 1 b g.length (aG g)->aO wr a u b->bG 146 #[b,u10,.int .i64 k] a λe w'=>∃h,e= .returned h/\w'.ownsRow base 5 1 h (g++aW k c).length (aG (g++aW k c))/\aO a w' b h):=λa b i d=>
     lI b _ g c k base a ae Q.o (by omega) (by omega) (by have:=d.fP.size;omega) i (λw' h L=>rZ.bN (bE (A.o a b d).1 L (A.o a b d).2))
    go_wp2_with first
     |(go_at_call 142;refine E.o.mono ?_;rintro e a ⟨b,rfl,y,n⟩)
     |(go_at_call 146;refine(s.o _ _ y n).mono ?_;rintro e j ⟨p,rfl,o,m⟩)
    go_ret;refine⟨_,rfl,?_,(aO.ct z.o).trans (n.trans m)⟩;rw[G.o,t.o,<-UD,H.o];exact o
   ·have t:X (dW k 1 c=bR 0 c):=rfl;have s:X (∀a b,a.ownsRow base 5 1 b g.length (aG g)->aO wr a u b->bG 143 #[b,u10] a λe w'=>∃h,e= .returned h/\w'.ownsRow base 5 1 h (g++bR 0 c).length (aG (g++bR 0 c))/\aO a w' b h):=λa b i d=>
     (av.o.resolve_left (by decide)).2 b _ g c base a Q.o (by omega) (by omega) (by have:=d.fP.size;omega) i (λw' h L=>rZ.bN (bE (A.o a b d).1 L (A.o a b d).2))
    go_wp2_with first
     |(go_at_call 142;refine E.o.mono ?_;rintro e a ⟨b,rfl,y,n⟩)
     |(go_at_call 143;refine(s.o _ _ y n).mono ?_;rintro e j ⟨p,rfl,o,m⟩)
    go_ret;refine⟨_,rfl,?_,(aO.ct z.o).trans (n.trans m)⟩;rw[G.o,t.o,<-UD,H.o];exact o
   ·have t:X (dW k 2 c=ez k c):=rfl;have s:X (∀a b,a.ownsRow base 5 1 b g.length (aG g)->aO wr a u b->bG 144 #[b,u10,.int .i64 k] a λe w'=>∃h,e= .returned h/\w'.ownsRow base 5 1 h (g++ez k c).length (aG (g++ez k c))/\aO a w' b h):=λa b i d=>
     (av.o.resolve_left (by decide)).1 b _ g c k base a ae Q.o (by omega) (by omega) (by have:=d.fP.size;omega) i (rZ.bN (A.o a b d).1)
    go_wp2_with first
     |(go_at_call 142;refine E.o.mono ?_;rintro e a ⟨b,rfl,y,n⟩)
     |(go_at_call 144;refine(s.o _ _ y n).mono ?_;rintro e j ⟨p,rfl,o,m⟩)
    go_ret;refine⟨_,rfl,?_,(aO.ct z.o).trans (n.trans m)⟩;rw[G.o,t.o,<-UD,H.o];exact o
   ·have t:X (dW k 3 c=cz (c.map aE.n)):=rfl;have ch:(c.map aE.n).length=c.length:=UH _;have s:X (∀a b,aO wr a u b->bG 145 #[u10] a λe w'=>∃q,e= .returned q/\w'.ownsRow a.heap.size 3 1 q c.length (bw (c.map aE.n))/\aP a w'):=λa b d=>
     FA u10 c a (by omega) (rZ.bN (A.o a b d).1)
    have bt:X (∀a j b p,a.ownsRow base 5 1 b g.length (aG g)->aO wr a u b->j.ownsRow a.heap.size 3 1 p c.length (bw (c.map aE.n))->aP a j->bG 142 #[b,p] j λe w'=>∃q,e= .returned q/\w'.ownsRow base 5 1 q (g++cz (c.map aE.n)).length (aG (g++cz (c.map aE.n)))/\aO j w' b q):=λa j b p i d o v=>
     vt b p g (c.map aE.n) base a.heap.size j (by omega) (by omega) (by have:=d.fP.size;have:=v.size;omega) (aK i v) (by rw[ch];exact o) (Apart.new (B:=0) i o).symm
    go_wp2_with fail
    refine E.o.mono ?_;rintro e a ⟨b,rfl,y,n⟩
    go_wp2_with first
     |(go_at_call 145;refine(s.o _ _ n).mono ?_;rintro e j ⟨p,rfl,o,v⟩)
     |(go_at_call 142;refine(bt.o _ _ _ _ y n o v).mono ?_;rintro e bs ⟨cu,rfl,S,M⟩)
    go_ret;refine⟨_,rfl,?_,(aO.ct z.o).trans (n.trans ((aO.ct v).trans M))⟩;rw[G.o,t.o,<-UD,H.o];exact S
   ·have t:X (dW k e c=aW k c):=by
     show _=_;simp at a1 a2 a3;unfold dW;rw[if_neg a1,if_neg a2,if_neg a3]
    have s:X (∀a b,a.ownsRow base 5 1 b g.length (aG g)->aO wr a u b->bG 146 #[b,u10,.int .i64 k] a λe w'=>∃h,e= .returned h/\w'.ownsRow base 5 1 h (g++aW k c).length (aG (g++aW k c))/\aO a w' b h):=λa b i d=>
     lI b _ g c k base a ae Q.o (by omega) (by omega) (by have:=d.fP.size;omega) i (λw' h L=>rZ.bN (bE (A.o a b d).1 L (A.o a b d).2))
    go_wp2_with first
     |(go_at_call 142;refine E.o.mono ?_;rintro e a ⟨b,rfl,y,n⟩)
     |(go_at_call 146;refine(s.o _ _ y n).mono ?_;rintro e j ⟨p,rfl,o,m⟩)
    go_ret;refine⟨_,rfl,?_,(aO.ct z.o).trans (n.trans m)⟩;rw[G.o,t.o,<-UD,H.o];exact o
def Aa(k e:Int)(l:List aE)(h:∀x∈l,pu x)(j:l.length<=100):(dW k e l).length<=100000:=by
 unfold dW
 split
 ·have:=nJ 0 l;omega
 ·split
  ·unfold ez;have a:=pR l l.length (T9 _);rw[Vh] at a;obtain⟨f,g,i,b⟩:=a;have n:=gd k (dfold l).1 (λx d=>h x (b x d));have o:=cq 10 (dfold l).1.length;have c:=vm (dfold l).1.length;have m:(dfold l).2.length*wid (dfold l).1.length<=100*7:=Wt (by omega) c;rw[Ub,Ub,fc];unfold aL;omega
  ·split
   ·have:=oL (l.map aE.n) (by rw[UH];omega);omega
   ·have:=gd k l h;omega
structure rD(v:aE):Prop where
 lo: -9223372036854775808<=v.n
 hi:v.n<=9223372036854775807
def zn{s:ByteArray}(h:s.toList=[]):s.size=0:=by
 have a:=XL s;rw[a] at h;show s.data.size=0;rw[<-Wb,h];rfl
def zQ{x:aE}{k:Int}(h:rD x)(a:fR x k=Z):pu x:=by
 refine⟨h.lo,h.hi,?_⟩;unfold fR at a
 split at a
 ·simp at a;have:=zn a.2;omega
 ·split at a
  ·simp at a;have:=zn a;omega
  ·split at a
   ·simp at a;have:=zn a.2;omega
   ·simp at a;omega
def jK (l:List aE)(k e:Int):ByteArray×Int:=
 if 100<l.length then(⟨#[]⟩,6) else if bI k e=T8 then(⟨#[]⟩,2) else if (l.all λa=>fR a k)=T8 then(⟨#[]⟩,1) else(strOf (bJ k e l),0)
def L7{l:List aE}{k e:Int}(h:100<l.length):jK l k e=(⟨#[]⟩,6):=by unfold jK;rw[if_pos h]
def OP{l:List aE}{k e:Int}(h:¬ 100<l.length)(a:bI k e=T8):jK l k e=(⟨#[]⟩,2):=by unfold jK;rw[if_neg h,if_pos a]
def OO{l:List aE}{k e:Int}(h:¬ 100<l.length)(a:bI k e=Z)(j:Nat)(c:j<l.length)(d:fR l[j] k=T8):jK l k e=(⟨#[]⟩,1):=by
 unfold jK;rw[if_neg h,if_neg (by simp[a]),if_pos];rw[Bool.eq_false_iff];intro b;have:=UA.1 b _ (Uk c);rw[d] at this;cases this
def L8{l:List aE}{k e:Int}(h:¬ 100<l.length)(c:bI k e=Z)(d:∀j,(a:j<l.length)->fR l[j] k=Z):jK l k e=(strOf (bJ k e l),0):=by
 unfold jK;rw[if_neg h,if_neg (by simp[c]),if_neg];have:(l.all λb=>fR b k)=Z:=by
  rw[UA];intro b f;obtain⟨j,a,rfl⟩:=Vw f;exact d j a
 simp[this]
def AQ{k e:Int}(h:bI k e=Z):(k=1\/k=2\/k=3)/\(e=0\/e=1\/e=2\/e=3):=by
 constructor
 ·rcases BN k with rfl|rfl|rfl|rfl|⟨j,f,g,i⟩
  ·simp[bI,fY] at h
  ·exact .inl Y
  ·exact .inr (.inl Y)
  ·exact .inr (.inr Y)
  ·rw[MU f g i] at h;cases h
 ·rcases BN e with rfl|rfl|rfl|rfl|⟨a,b,c,d⟩
  ·exact .inl Y
  ·exact .inr (.inl Y)
  ·exact .inr (.inr (.inl Y))
  ·exact .inr (.inr (.inr Y))
  ·rw[Pv a b c d] at h;cases h
def Dq{e:Int}(H:e=0\/xF/\rT)(J:U)(l:List aE)(k:Int)(w:F)(ae:l.length<=Ur)(ab:∀x∈l,rD x)(an:rZ w J l):
 bG 87 #[J,.int .i64 k,.int .i64 e] w λr w'=>r= .returned (.tuple #[.string (jK l k e).1,.int .i64 (jK l k e).2])/\aP w w':=by
 have M:=af H;obtain⟨t,T,ap,u,rfl,g⟩:=an;unfold Ur at ae;have d:=o6 (l.length:Int) k e;by_cases m:100<l.length
 ·rw[L7 m];rw[show jD (l.length:Int) k e=6 from by unfold jD;rw[if_pos (by omega)]] at d;go_enter ay.func87,Tryz.ntmps87
  go_wp2_with (go_at_call 123;refine(d _).mono ?_;rintro e w' ⟨rfl,rfl⟩)
  all_goals go_ret2
  all_goals exact⟨rfl,Uq _ _⟩
 cases f:bI k e
 ·rw[OP m f];rw[show jD (l.length:Int) k e=2 from by unfold jD;rw[if_neg (by omega),f];rfl] at d;go_enter ay.func87,Tryz.ntmps87
  go_wp2_with (go_at_call 123;refine(d _).mono ?_;rintro e w' ⟨rfl,rfl⟩)
  all_goals go_ret2
  all_goals exact⟨rfl,Uq _ _⟩
 rw[show jD (l.length:Int) k e=0 from by unfold jD;rw[if_neg (by omega),f];rfl] at d;obtain⟨ad,H⟩:=AQ f;have C:=af f;have D:=af ad;have N:=af ab;have E:=af g;go_enter ay.func87,Tryz.ntmps87
 go_wp2_with (go_at_call 123;refine(d _).mono ?_;rintro e w' ⟨rfl,ao⟩;rw[ao])
 go_loopw [21] (λz wr=>∃a:Nat,a<=l.length/\z= .int .i64 a/\(∀b,(c:b<l.length)->b<a->fR l[b] k=Z)/\aP w wr) (λz _=>l.length-(UT z).toNat)
 case atStart=>exact⟨0,UF _,rfl,λb _ j=>by omega,Uq _ _⟩
 case round=>
  obtain⟨a,aw,rfl,n,o⟩:=hrel;have B:=af n;have s:=af o;have y:=o.size;by_cases p:a<l.length
  ·have g:=E.o.below o;obtain rfl:=g.addr (by omega);have az:=g.c0 a p;have a0:=g.c1 a p;have a1:=g.c2 a p;have P:X (fR l[a] k=T8->jK l k e=(⟨#[]⟩,1)):=λj=>OO m C.o a p j;have R:X (fR l[a] k=Z->∀b,(c:b<l.length)->b<a+1->fR l[b] k=Z):=λj b c f=>by
    by_cases V:b=a
    ·subst V;exact j
    ·exact B.o b c (by omega)
   have h:X (∀i,bG 82 #[.agg #[.bool l[a].null,.int .i64 l[a].n,.string l[a].s],.int .i64 k] i λe w'=>e= .returned (.bool (fR l[a] k))/\aP i w'):=λi=>qI l[a] k i D.o;generalize l[a]=x at*;cases q:fR x k
   ·have Q:=af (P.o q);rw[q] at h
    go_wp2_with (go_at_call 82;refine(h.o _).mono ?_;rintro e K ⟨rfl,v⟩)
    go_ret2
    rw[Q.o];exact⟨rfl,s.o.trans ((uc v).mono y)⟩
   ·have S:=af (R.o q);rw[q] at h
    go_wp2_with (go_at_call 82;refine(h.o _).mono ?_;rintro e K ⟨rfl,v⟩)
    go_roundw
    case rel=>exact⟨a+1,by omega,by go_num,S.o,s.o.trans ((uc v).mono y)⟩
    case measure=>simp[UT];omega
  ·have n:∀b,(c:b<l.length)->fR l[b] k=Z:=λb c=>B.o b c (by omega);have O:=af (L8 m C.o n);have am:∀x∈l,pu x:=λx I=>by
    obtain⟨b,c,rfl⟩:=Vw I;exact zQ (N.o _ I) (n b c)
   have L:X (bG 124 #[aR,.slice t l.length u,.int .i64 k,.int .i64 e] wr λr w'=>∃A,r= .returned A/\w'.ownsRow wr.heap.size 5 1 A (bJ k e l).length (aG (bJ k e l))/\aO wr w' aR A):=by
    have G:=tW M.o aR (.slice t l.length u) [] l k wr.heap.size wr D.o am (by omega) (by simp) (T9 _) (Vq _ _ _ _) ⟨t,T,ap,u,rfl,E.o.below o⟩;rw[List.nil_append] at G;exact G
   go_wp2_with (go_at_call 124;refine L.o.mono ?_;rintro e K ⟨u1,rfl,al,aa⟩;have av:=qj al Y)
   go_ret2
   rw[O.o];exact⟨rfl,s.o.trans ((aa.below (λar W=>by simp[VA] at W) (T9 _)).mono y)⟩
structure AB{α:Type}(E:List α->List Nat)(ok:α->Prop)(B:List Nat)(p cn:Nat)(l:List α):Prop where
 le:l.length<=cn
 Ro:∀x∈l,ok x
 st:ai B p (E l)
 IN:∀L:List α,L.length=cn->(∀x∈L,ok x)->ai B p (E L)->∃m,L=l++m
def zo{α:Type}{E:List α->List Nat}{e:List α->α->List Nat}(b:∀l x,E (l++[x])=E l++e l x)(l m:List α):∃t,E (l++m)=E l++t:=by
 induction m generalizing l with
 |nil=>exact⟨[],by simp⟩
 |cons x a d=>
  obtain⟨t,c⟩:=d (l++[x]);refine⟨e l x++t,?_⟩;rw[show l++x::a=l++[x]++a by simp,c,b,UD]
def AB.zero{α:Type}{E:List α->List Nat}{ok:α->Prop}{B:List Nat}{p cn:Nat}(b:E []=[]):AB E ok B p cn []:=
 ⟨UF _,λd c=>by simp at c,by rw[b];exact mU _ _,λa _ _ _=>⟨a,rfl⟩⟩
def AB.next{α:Type}{E:List α->List Nat}{ok:α->Prop}{e:List α->α->List Nat}{B:List Nat}{p cn:Nat}{l:List α}(h:AB E ok B p cn l)(c:∀l x,E (l++[x])=E l++e l x)(g:l.length<cn)
 (L:List α) (hL:L.length=cn) (d:∀x∈L,ok x) (b:ai B p (E L)):∃x m,L=(l++[x])++m/\ok x/\ai B (p+(E l).length) (e l x):=by
 obtain⟨m,rfl⟩:=h.IN L hL d b;cases m with
 |nil=>simp at hL;omega
 |cons x a=>
  obtain⟨i,f⟩:=zo c (l++[x]) a;refine⟨x,a,by simp,d x (by simp),?_⟩;rw[show l++x::a=l++[x]++a by simp,f,c,UD,au,au] at b;exact b.2.1
def AB.more{α:Type}{E:List α->List Nat}{ok:α->Prop}{e:List α->α->List Nat}{B:List Nat}{p cn:Nat}{l:List α}(h:AB E ok B p cn l)(b:∀l x,E (l++[x])=E l++e l x)(i:l.length<cn)
 {x:α} (q:ok x) (k:ai B (p+(E l).length) (e l x)) (o:∀y,ok y->ai B (p+(E l).length) (e l y)->y=x):AB E ok B p cn (l++[x]):=by
 refine⟨by simp;omega,?_,by rw[b,au];exact⟨h.st,k⟩,?_⟩
 ·intro y r;rcases U2.1 r with a|a
  ·exact h.Ro y a
  ·simp at a;rw[a];exact q
 ·intro c g j n;obtain⟨y,m,a,d,f⟩:=h.next b i c g j n;rw[o y d f] at a;exact⟨m,a⟩
def AB.fail{α:Type}{E:List α->List Nat}{ok:α->Prop}{e:List α->α->List Nat}{B:List Nat}{p cn:Nat}{l:List α}(h:AB E ok B p cn l)(c:∀l x,E (l++[x])=E l++e l x)(d:l.length<cn)
 (i:∀y,ok y->¬ai B (p+(E l).length) (e l y)) (L:List α) (hL:L.length=cn) (f:∀x∈L,ok x):¬ai B p (E L):=by
 intro g;obtain⟨y,m,j,a,b⟩:=h.next c d L hL f g;exact i y a b
def AB.done{α:Type}{E:List α->List Nat}{ok:α->Prop}{B:List Nat}{p cn:Nat}{l:List α}(h:AB E ok B p cn l)(e:¬l.length<cn):
 l.length=cn/\(∀L:List α,L.length=cn->(∀x∈L,ok x)->ai B p (E L)->L=l):=by
 have c:l.length=cn:=by have:=h.le;omega
 refine⟨c,?_⟩;intro L a b d;obtain⟨m,rfl⟩:=h.IN L a b d;rw[Ub] at a;have:m=[]:=Wh.1 (by omega);rw[this];simp
def uz (m:Nat):Int:=if m%2=1 then -((m/2:Nat):Int)-1 else((m/2:Nat):Int)
def SO(m:Nat):zz (uz m)=m:=by
 unfold zz uz
 split<;>split<;>omega
def IP(n:Int):uz (zz n)=n:=by
 unfold zz uz
 split<;>split<;>omega
def N5(m:Nat)(h:m<18446744073709551616): -9223372036854775808<=uz m/\uz m<=9223372036854775807:=by
 unfold uz
 split<;>omega
structure VK(k:Int)(v:aE):Prop where
 there:v.null=T8
 lo: -9223372036854775808<=v.n
 hi:v.n<=9223372036854775807
 s1:k=1->v.s=⟨#[]⟩
 s2:k=2->(v.n=0\/v.n=1)/\v.s=⟨#[]⟩
 s3:k=3->v.n=0/\v.s.size<=32
def kQ{s:ByteArray}(h:s.toList=[]):s=⟨#[]⟩:=by
 rw[XL s] at h;apply ByteArray.ext;apply Array.ext';simpa using h
def KX{k:Int}{v:aE}(c:k=1\/k=2\/k=3)(b:v.null=T8)(h:rD v)(a:fR v k=Z):VK k v:=by
 unfold fR at a;rw[b] at a;refine⟨b,h.lo,h.hi,?_,?_,?_⟩
 ·rintro rfl;simp at a;exact kQ a
 ·rintro rfl;simp at a;exact⟨a.1,kQ a.2⟩
 ·rintro rfl;simp at a;exact⟨a.1,by omega⟩
def VK.ok{k:Int}{v:aE}(a:k=1\/k=2\/k=3)(h:VK k v):pu v:=by
 refine⟨h.lo,h.hi,?_⟩;rcases a with rfl|rfl|rfl
 ·rw[h.s1 Y];decide
 ·rw[(h.s2 Y).2];decide
 ·exact(h.s3 Y).2
def l8{k:Int}(i:k=1\/k=2\/k=3){B:List Nat}{p:Nat}{x y:aE}(b:VK k x)(c:VK k y)(h1:ai B p (aZ k x))(a:ai B p (aZ k y)):x=y:=by
 have e:x.n=y.n->x.s=y.s->x=y:=by
  intro f g;have h:=b.there.trans c.there.symm;cases x;cases y;simp at f g h;simp[f,g,h]
 rcases i with rfl|rfl|rfl
 ·have d:∀v,aZ 1 v=aL (zz v.n):=λv=>rfl;rw[d] at h1 a;have:=cB (BB _ b.lo b.hi) (BB _ c.lo c.hi) h1 a;refine e ?_ (by rw[b.s1 Y,c.s1 Y]);rw[<-IP x.n,this,IP]
 ·have d:∀v,aZ 2 v=[byteOf v.n]:=λv=>rfl;rw[d,dI] at h1 a;rw[h1] at a;simp at a;refine e ?_ (by rw[(b.s2 Y).2,(c.s2 Y).2]);rw[kA (b.s2 Y).1,kA (c.s2 Y).1] at a;have:=(b.s2 Y).1;have:=(c.s2 Y).1;omega
 ·have d:∀v,aZ 3 v=aL v.s.size++bytesOf v.s:=λv=>rfl;rw[d,au] at h1 a;have j:=(b.s3 Y).2;have l:=(c.s3 Y).2;have:=cB (by omega) (by omega) h1.1 a.1;rw[this] at h1;refine e (by rw[(b.s3 Y).1,(c.s3 Y).1]) ?_;exact ng (iE h1.2 a.2 (by rw[aj,aj,this]))
def lV(k:Int)(l:List aE)(x:aE):aW k (l++[x])=aW k l++aZ k x:=by
 unfold aW;rw[Vj,Ve]
def wE(a n d:Int)(b: -9223372036854775808<=n)(c:n<=9223372036854775807)(h:Vd (n-a)=d):Vd (a+d)=n:=by
 unfold Vd at*;omega
def C5(a d:Int)(b: -9223372036854775808<=d)(c:d<=9223372036854775807):Vd (Vd (a+d)-a)=d:=by
 unfold Vd;omega
def Js{a:Int}{B:List Nat}{p:Nat}{x y:aE}(b:VK 1 x)(c:VK 1 y)(h1:ai B p (aL (zz (Vd (x.n-a)))))(l:ai B p (aL (zz (Vd (y.n-a))))):x=y:=by
 have g:=gL (x.n-a);have h:=gL (y.n-a);have j:=cB (BB _ g.1 g.2) (BB _ h.1 h.2) h1 l;have k:Vd (x.n-a)=Vd (y.n-a):=by rw[<-IP (Vd (x.n-a)),j,IP]
 have d:=wE a x.n _ b.lo b.hi Y;have i:=wE a y.n _ c.lo c.hi Y;rw[k,i] at d;have e:=b.there.trans c.there.symm;have f:=(b.s1 Y).trans (c.s1 Y).symm;cases x;cases y;simp at d e f;simp[d,e,f]
def JH(x:Nat)(a:x<9223372036854775808):bits .xor .i64 (x:Int) 0=(x:Int):=by
 show XO.wrap (((Xd 64 (x:Int))^^^(Xd 64 0)).toNat:Int)=_;rw[BitVec.ofInt_natCast,show Xd 64 0=0#64 from rfl,BitVec.xor_zero,BitVec.toNat_ofNat,Xa];omega
def JG(x:Nat)(a:x<9223372036854775808):bits .xor .i64 (x:Int) (-1)= -(x:Int)-1:=by
 show XO.wrap (((Xd 64 (x:Int))^^^(Xd 64 (-1))).toNat:Int)=_;rw[BitVec.ofInt_natCast,show Xd 64 (-1)=BitVec.allOnes 64 from by decide +kernel,BitVec.xor_allOnes,BitVec.toNat_not,BitVec.toNat_ofNat,Xa];omega
def Ot(n:Nat)(a:n<18446744073709551616):bits .and .u64 (n:Int) 1=((n%2:Nat):Int):=by
 have:=bits_mask .u64 64 (by decide) vn 1 (by decide) (n:Int) (by omega) (by omega);rw[show(1:Int)=2^1-1 from by decide,this];omega
def N4(n:Nat)(b:n<18446744073709551616):bits .xor .i64 ((n:Int)/2) (-((n:Int)%2))=uz n:=by
 rw[show(n:Int)/2=((n/2:Nat):Int) from by omega];unfold uz;by_cases a:n%2=1
 ·rw[show -((n:Int)%2)= -1 from by omega,JG _ (by omega),if_pos a]
 ·rw[show -((n:Int)%2)=0 from by omega,JH _ (by omega),if_neg a]
def CZ(n:Nat)(w:F)(a:n<18446744073709551616):bG 161 #[.int .u64 (n:Int)] w λe w'=>e= .returned (.int .i64 (uz n))/\w'=w:=by
 have c:=Ot n a;have d:Vd ((n:Int)/2)=((n/2:Nat):Int):=by unfold Vd;omega
 have b:=af a;go_enter ay.func161,Tryz.ntmps161;go_wp2;go_ret;exact⟨by rw[<-N4 n b.o];rfl,rfl⟩
def GK(s:ByteArray)(w:F)(E:s.size<=32):bG 98 #[.string s] w λe w'=>e= .returned (.string s)/\aP w w':=by
 by_cases j:s.size=0
 ·obtain rfl:s=⟨#[]⟩:=ByteArray.ext (Array.eq_empty_of_size_eq_zero j);go_enter ay.func98,Tryz.ntmps98;go_wp2;go_ret;exact⟨rfl,Uq _ _⟩
 ·obtain⟨m,g,x,h,y⟩:=Vg ay.rH;have u:((aB T5).info? 5).map (·.size)=I 1:=by rw[g];simp[h]
  have q:(aB T5).cellsOf 5=1:=by simp[Program.cellsOf,g,h]
  obtain⟨a,d⟩:∃a,a=madeCells (VZ .u8 0).cells (((s.size:Nat):Int).toNat*m.size):=⟨_,rfl⟩;have A:a.size=s.size:=by rw[d,size_madeCells,h];simp
  have D:∀c:F,(Instr.makeSlice 133 (.int .i64 (s.size:Int)) (.int .i64 (s.size:Int))).run (aB T5) c= .ok (.slice (I ⟨c.heap.size,0,K⟩) s.size s.size) (c.alloc (.cells a 5)):=λc=>by
   have i:=run_make (P:=(aB T5)) c 133 5 m (.int .u8 0) ay.underlying133 g x .i64 .i64 (s.size:Int) (s.size:Int) (by omega) (by omega) (by rw[y];omega) (by omega);rw[<-d] at i;simpa using i
  clear d;have r:=Lib.run_copy_row_string (P:=(aB T5)) (w.alloc (.cells a 5)) 133 9 3 5 w.heap.size 0 s.size s.size s a 5 ay.underlying133 u (V5 w _) (T9 _) (by omega);obtain⟨b,f⟩:∃b,b=(a.toList.take 0++Lib.byteCells s.data.toList++a.toList.drop (0+s.size)).toArray:=⟨_,rfl⟩;rw[<-f] at r;have k:b.toList=Lib.byteCells s.data.toList:=by
   rw[f,List.toList_toArray,List.take_zero,List.nil_append,List.drop_of_length_le (by rw[Wb];omega),List.append_nil]
  have B:b.size=s.size:=by rw[<-Wb,k,Lib.byteCells_length,<-X5]
  have l:((w.alloc (.cells a 5)).setRow w.heap.size b).heap[w.heap.size]? =I (.cells b 5 (0,0)):=setRow_heap _ _ a _ 5 (0,0) (V5 w _);have t:s.data.toList≠[]:=λe=>j (by rw[X5,e];rfl);have n:=Lib.run_unsafeString_row (P:=(aB T5)) ((w.alloc (.cells a 5)).setRow w.heap.size b) 206 3 9 5 ay.underlying206 q w.heap.size b.size (by unfold World.shape?;rw[l]) s.data.toList t (by rw[<-X5];omega) (by rw[<-X5];omega)
   (λz H v=>Lib.cells_of_row l b.size z _ (by rw[UP (by rw[Wb];exact T9 _),k];simp[Lib.byteCells,v]))
  rw[<-X5] at n;clear f;go_enter ay.func98,Tryz.ntmps98;go_wp2;go_ret;have o:aP w (w.alloc (.cells a 5)):=(Uq _ w).alloc (T9 _) _;have p:WN w.heap.size (w.alloc (.cells a 5)) ((w.alloc (.cells a 5)).setRow w.heap.size b):=⟨rfl,rfl,rfl,by simp,λG C=>setRow_other _ _ _ _ (by omega)⟩;exact⟨rfl,Lib.below_freeze (o.trans p) (p:=⟨w.heap.size,0,K⟩) (T9 _) _⟩
def ur(s:ByteArray)(w:F)(b:s.size<=32):bG 66 #[.string s] w λe w'=>e= .returned (.string s)/\aP w w':=by
 go_enter ay.func66,Tryz.ntmps66
 go_wp2_with fail
 refine(GK s _ b).mono ?_;rintro e w' ⟨rfl,a⟩;go_wp2;go_ret;exact⟨rfl,a⟩
def Cu(r p:Nat)(s:ByteArray)(w:F)(j:s.size<=Ur)(P:p<=s.size)(h:w.heap[r]? =I (cj s p)):
 bG 162 #[(bS r)] w λe w'=>Kp r w w'/\((∃t:ByteArray,e= .returned (.string t)/\t.size<=32/\ai (bytesOf s) p (aL t.size++bytesOf t)/\w'.heap[r]? =I (cj s (p+(aL t.size++bytesOf t).length)))\/
  (∃q,e= .panicked (eE q)/\∀t:ByteArray,t.size<=32->¬ai (bytesOf s) p (aL t.size++bytesOf t))):=by
 have T:=Uf h;have E:=af h;go_enter ay.func162,Tryz.ntmps162
 go_wp2_with fail
 refine(jL r p s _ j P E.o).mono ?_;rintro e V ⟨i,⟨a,rfl,N,Q,x,M⟩|⟨q,rfl,O⟩⟩
 ·have c:=af i;have g:=af Q;have f:=af M;have l:=af N;have U:=i.size;by_cases S:32<a
  ·have d:X (∀t:ByteArray,t.size<=32->¬ai (bytesOf s) p (aL t.size++bytesOf t)):=by
    intro t y b;rw[au] at b;have:=cB (by omega) (by have:=l.o;omega) b.1 g.o;omega
   go_wp2_with (go_at_call 97;refine(b9 r _ s _ f.o).mono ?_;rintro e w' ⟨rfl,rfl⟩)
   exact⟨rfl,c.o,.inr ⟨_,rfl,d.o⟩⟩
  ·by_cases v:p+(aL a).length+a<=s.size
   ·have z:(s.extract (p+(aL a).length) (p+(aL a).length+a)).size=a:=by rw[ByteArray.size_extract];omega
    have J:X (bytesOf (s.extract (p+(aL a).length) (p+(aL a).length+a))=((bytesOf s).drop (p+(aL a).length)).take a):=by
     show _=_;rw[dA,show p+(aL a).length+a-(p+(aL a).length)=a by omega]
    have H:X (∀w,w.heap[r]? =I (cj s (p+(aL a).length))->bG 128 #[(bS r),.int .i64 (a:Int)] w λe w'=>e= .returned (.string (s.extract (p+(aL a).length) (p+(aL a).length+a)))/\∃m,w'=(w.setCell ⟨r,1,K⟩ (.int .i64 ((p+(aL a).length+a:Nat):Int))).drewN m):=
     λw k=>E2 r _ a s w j v k
    generalize s.extract (p+(aL a).length) (p+(aL a).length+a)=B at*
    go_wp2_with (go_at_call 128;refine(H.o _ f.o).mono ?_;rintro e A ⟨rfl,k⟩;have o:=af k)
    have n:X (A.heap[r]? =I (cj s (p+(aL a).length+a))):=by
     obtain⟨m,rfl⟩:=o.o;exact lW f.o m
    have C:X (Kp r w A):=by
     obtain⟨m,rfl⟩:=o.o;exact c.o.set 1 _ m
    refine(ur B _ (by omega)).mono ?_;rintro e R ⟨rfl,u⟩;have D:=af (C.o.trans (Kp.ct u));have G:X (R.heap[r]? =I (cj s (p+(aL a).length+a))):=by
     show _=_;rw[u.block r (Uf n.o)];exact n.o
    go_wp2;go_ret;refine⟨D.o,.inl ⟨B,rfl,by omega,?_,?_⟩⟩
    ·rw[au,z];refine⟨g.o,?_⟩;rw[J.o];exact List.take_prefix _ _
    ·rw[Ub,aj,z,<-U6];exact G.o
   ·have d:X (∀t:ByteArray,t.size<=32->¬ai (bytesOf s) p (aL t.size++bytesOf t)):=by
     intro t y b;rw[au] at b;have:=cB (by omega) (by have:=l.o;omega) b.1 g.o;rw[this] at b;have L:=gK b.2 (by rw[aj];exact x);rw[aj,aj] at L;omega
    go_wp2_with (go_at_call 128;refine(Bu r _ a s _ j (by omega) v x f.o).mono ?_;rintro e w' ⟨rfl,m,rfl⟩)
    exact⟨rfl,c.o.drewN m,.inr ⟨_,rfl,d.o⟩⟩
 ·have d:X (∀t:ByteArray,t.size<=32->¬ai (bytesOf s) p (aL t.size++bytesOf t)):=by
   intro t y b;rw[au] at b;exact O t.size (by omega) b.1
  have c:=af i;go_wp2;exact⟨rfl,c.o,.inr ⟨q,rfl,d.o⟩⟩
def l6{w:F}{g:Nat}{a b c:U}{t:Ui}(h:w.heap[g]? =I (.cells #[a,b,c] t (0,0))):
 w.cell? ⟨g,0,K⟩=I a/\w.cell? ⟨g,1,K⟩=I b/\w.cell? ⟨g,2,K⟩=I c/\w.frozen? ⟨g,0,K⟩=T8/\w.frozen? ⟨g,1,K⟩=T8/\w.frozen? ⟨g,2,K⟩=T8:=by
 refine⟨?_,?_,?_,?_,?_,?_⟩<;>first|simp[Ut,h]|simp[UR,h]
def ud{d:F}{g:Nat}{a b c:U}(a' b' e:U){t:Ui}(h:d.heap[g]? =I (.cells #[a,b,c] t (0,0)))(r:Nat)(x:r≠g){w:F}(f:Kp r w d)(y:w.heap.size<=g):
 let W:=((d.setCell ⟨g,0,K⟩ a').setCell ⟨g,1,K⟩ b').setCell ⟨g,2,K⟩ e
 bU W g 0 a'/\bU W g 1 b'/\bU W g 2 e/\W.heap[r]? =d.heap[r]? /\Kp r w W:=by
 have p:(d.setCell ⟨g,0,K⟩ a').heap[g]? =I (.cells #[a',b,c] t (0,0)):=by rw[Us d g 0 _ _ _ h];rfl
 have q:((d.setCell ⟨g,0,K⟩ a').setCell ⟨g,1,K⟩ b').heap[g]? =I (.cells #[a',b',c] t (0,0)):=by rw[Us _ g 1 _ _ _ p];rfl
 have s:(((d.setCell ⟨g,0,K⟩ a').setCell ⟨g,1,K⟩ b').setCell ⟨g,2,K⟩ e).heap[g]? =I (.cells #[a',b',e] t (0,0)):=by rw[Us _ g 2 _ _ _ q];rfl
 have k:∀i,i≠g->(((d.setCell ⟨g,0,K⟩ a').setCell ⟨g,1,K⟩ b').setCell ⟨g,2,K⟩ e).heap[i]? =d.heap[i]? :=by
  intro i j;rw[Uv _ _ _ _ (by simpa using j),Uv _ _ _ _ (by simpa using j),Uv _ _ _ _ (by simpa using j)]
 obtain⟨m,n,o,_⟩:=l6 s;refine⟨m,n,o,k r x,f.os,f.tape,f.output,?_,?_⟩
 ·simpa using f.size
 ·intro l u v;rw[k l (by omega)];exact Ww f l u v
def j5(k:Int)(aa:k=1\/k=2\/k=3)(r p:Nat)(s:ByteArray)(w:F)(K:s.size<=Ur)(G:p<=s.size)(h:w.heap[r]? =I (cj s p)):
 bG 153 #[(bS r),.int .i64 k] w λe w'=>Kp r w w'/\((∃v:aE,e= .returned (.agg #[.bool v.null,.int .i64 v.n,.string v.s])/\VK k v/\ai (bytesOf s) p (aZ k v)/\p+(aZ k v).length<=s.size/\w'.heap[r]? =I (cj s (p+(aZ k v).length)))\/
  (∃q,e= .panicked (eE q)/\∀v:aE,VK k v->¬ai (bytesOf s) p (aZ k v))):=by
 have ae:=Uf h;have am:=af h;have H:X ((w.alloc (.cells #[.bool T8,.int .i64 0,.string ⟨#[]⟩] 59)).heap[r]? =I (cj s p)):=by
  show _=_;rw[UO _ _ r ae];exact h
 have i:X (Kp r w (w.alloc (.cells #[.bool T8,.int .i64 0,.string ⟨#[]⟩] 59))):=(Kp.refl r w).alloc _;have ad:∀L,ai (bytesOf s) p L->p+L.length<=s.size:=λL B=>by have:=gK B (by rw[aj];exact G);rwa [aj] at this
 have N:=af ad;rcases aa with rfl|rfl|rfl
 ·go_enter ay.func153,Tryz.ntmps153
  go_wp2_with fail
  refine(Bw r p s _ K G H.o).mono ?_;rintro e D ⟨b,⟨n,rfl,U,C,z⟩|⟨q,rfl,A⟩⟩
  ·have a:=af (i.o.trans b);have d:D.heap[w.heap.size]? =I (.cells #[.bool T8,.int .i64 0,.string ⟨#[]⟩] 59 (0,0)):=Kp.block b (V5 w _) (by omega);obtain⟨O,P,Q,R,S,T⟩:=l6 d;have j:=af d;have m:=af z;have f:=af C;have W:=af U;have Z:X (∀w,bG 161 #[.int .u64 (n:Int)] w λe w'=>e= .returned (.int .i64 (uz n))/\w'=w):=λw=>CZ n w U
   go_wp2_with (go_at_call 161;refine(Z.o _).mono ?_;rintro e w' ⟨rfl,rfl⟩)
   obtain⟨o,t,u,x,y⟩:=ud (.bool T8) (.int .i64 (uz n)) (.string ⟨#[]⟩) j.o r (by omega) a.o (T9 _);simp[VS,UY,Tryz.results153,go_sem,o,t,u];have c:aZ 1 ⟨T8,uz n,⟨#[]⟩⟩=aL n:=by show aL (zz (uz n))=_;rw[SO]
   have V:=N5 n W.o;refine⟨y,⟨T8,uz n,⟨#[]⟩⟩,⟨rfl,rfl,rfl⟩,⟨rfl,V.1,V.2,λ_=>rfl,λh=>by omega,λh=>by omega⟩,?_,?_,?_⟩
   ·rw[c];exact f.o
   ·rw[c];exact N.o _ f.o
   ·rw[c,x];exact m.o
  ·have l:X (∀v:aE,VK 1 v->¬ai (bytesOf s) p (aZ 1 v)):=λv g=>A (zz v.n) (BB _ g.lo g.hi);have a:=af (i.o.trans b);go_wp2;exact⟨rfl,a.o,.inr ⟨q,rfl,l.o⟩⟩
 ·go_enter ay.func153,Tryz.ntmps153
  go_wp2_with fail
  refine(BJ r p s _ K G H.o).mono ?_;rintro e D ⟨b,⟨n,rfl,J,C,z,ab⟩|⟨q,rfl,A⟩⟩
  ·have a:=af (i.o.trans b);have d:D.heap[w.heap.size]? =I (.cells #[.bool T8,.int .i64 0,.string ⟨#[]⟩] 59 (0,0)):=Kp.block b (V5 w _) (by omega);obtain⟨O,P,Q,R,S,T⟩:=l6 d;have j:=af d;have m:=af z;have f:=af C;have M:=af J;go_wp2;obtain⟨o,t,u,x,y⟩:=ud (.bool T8) (.int .i64 n) (.string ⟨#[]⟩) j.o r (by omega) a.o (T9 _);simp[VS,UY,Tryz.results153,go_sem,o,t,u];have c:aZ 2 ⟨T8,n,⟨#[]⟩⟩=[n.toNat]:=by show[byteOf n]=_;rw[kA M.o]
   have J:=M.o;refine⟨y,⟨T8,n,⟨#[]⟩⟩,⟨rfl,rfl,rfl⟩,⟨rfl,by show _<=n;omega,by show n<=_;omega,λh=>by omega,λ_=>⟨J,rfl⟩,λh=>by omega⟩,?_,?_,?_⟩
   ·rw[c];exact f.o
   ·rw[c];exact ab
   ·rw[c,x];exact m.o
  ·have l:X (∀v:aE,VK 2 v->¬ai (bytesOf s) p (aZ 2 v)):=λv g B=>A v.n (g.s2 Y).1 (by rw[<-kA (g.s2 Y).1];exact B);have a:=af (i.o.trans b);go_wp2;exact⟨rfl,a.o,.inr ⟨q,rfl,l.o⟩⟩
 ·go_enter ay.func153,Tryz.ntmps153
  go_wp2_with fail
  refine(Cu r p s _ K G H.o).mono ?_;rintro e D ⟨b,⟨E,rfl,al,C,z⟩|⟨q,rfl,A⟩⟩
  ·have a:=af (i.o.trans b);have d:D.heap[w.heap.size]? =I (.cells #[.bool T8,.int .i64 0,.string ⟨#[]⟩] 59 (0,0)):=Kp.block b (V5 w _) (by omega);obtain⟨O,P,Q,R,S,T⟩:=l6 d;have j:=af d;have m:=af z;have f:=af C;go_wp2;obtain⟨o,t,u,x,y⟩:=ud (.bool T8) (.int .i64 0) (.string E) j.o r (by omega) a.o (T9 _);simp[VS,UY,Tryz.results153,go_sem,o,t,u];have c:aZ 3 ⟨T8,0,E⟩=aL E.size++bytesOf E:=rfl;refine⟨y,⟨T8,0,E⟩,⟨rfl,rfl,rfl⟩,⟨rfl,by show _<=(0:Int);omega,by show(0:Int)<=_;omega,λh=>by omega,λh=>by omega,λ_=>⟨rfl,al⟩⟩,?_,?_,?_⟩
   ·rw[c];exact f.o
   ·rw[c];exact N.o _ f.o
   ·rw[c,x];exact m.o
  ·have l:X (∀v:aE,VK 3 v->¬ai (bytesOf s) p (aZ 3 v)):=λv g B=>A v.s (g.s3 Y).2 B;have a:=af (i.o.trans b);go_wp2;exact⟨rfl,a.o,.inr ⟨q,rfl,l.o⟩⟩
def Iu{w:F}{base g n cap:Nat}{b:List Int}(h:w.ownsRow base 3 1 (.slice (I ⟨g,0,K⟩) n cap) n (bw b))(k:b.length=n)(j:Nat)(i:j<n):bU w g j (.int .i64 (b.getD j 0)):=by
 subst k;obtain⟨l,m,q,o,c,d,p,e⟩:=rB.bN h;simp only[VB] at c;obtain⟨a,_,_⟩:=c;have f:=d (by omega);rw[f] at a;simp only[U9,Wi] at a;have:=e j i;rw[<-a.1,<-a.2.1,UU] at this;exact this
def sV{a:List Int}(h:0<a.length):a.getLast?= I (a.getD (a.length-1) 0):=by
 rw[List.getLast?_eq_getElem?,Yx,Uo (by omega)];rfl
def Ev(a:List Int)(m:Nat)(b:Int):bw (a++VF m b)++[.int .i64 b]=bw (a++VF (m+1) b):=by
 rw[eT,UD,List.replicate_succ']
def tB(s:ByteArray)(r p cn:Nat)(w:F)(b2:s.size<=Ur)(cp:cn<=100)(c0:p<=s.size)(h:w.heap[r]? =I (cj s p)):
 bG 164 #[(bS r),.int .i64 cn] w λe w'=>Kp r w w'/\
  ((∃(a:List Int) (v:U),e= .returned v/\a.length=cn/\nQ a/\ai (bytesOf s) p (cz a)/\(∀L:List Int,L.length=cn->nQ L->ai (bytesOf s) p (cz L)->L=a)/\p+(cz a).length<=s.size/\
    w'.heap[r]? =I (cj s (p+(cz a).length))/\w'.ownsRow w.heap.size 3 1 v a.length (bw a))\/
   (∃q,e= .panicked (eE q)/\∀L:List Int,L.length=cn->nQ L->¬ai (bytesOf s) p (cz L))):=by
 obtain⟨bc,a9,c3,bb,c4⟩:=Vg ay.vE;have ba:=Uf h;have bj:=af h;clear h;go_enter ay.func164,Tryz.ntmps164
 go_wp2_with (at_make;refine Wc _ Y _ _ 22 Y w.heap.size 3 bc (.int .i64 0) 1 ay.underlying22 a9 c3 bb .i64 .i64 _ cn Y Y Y (by rw[c4];omega) (by unfold Ur;omega) (T9 _) ?_;intro cd b6 a8)
 have be:X (Kp r w cd):=(Kp.refl r w).grown a8 (by simp);have bl:X (cd.heap[r]? =I (cj s p)):=by show _=_;rw[a8.block r ba (by simp)];exact bj.o
 clear bj a8
 go_loopw [5] (λD wr=>∃(a:List Int) (d:List Nat),D= .slice (I ⟨w.heap.size,0,K⟩) a.length cn/\Ld (bytesOf s) p cn a d/\p+d.length<=s.size/\wr.heap[r]? =I (cj s (p+d.length))/\
  wr.ownsRow w.heap.size 3 1 (.slice (I ⟨w.heap.size,0,K⟩) a.length cn) a.length (bw a)/\Kp r w wr) (λD _=>match D with| .slice _ b _=>cn-b|_=>0)
 case atStart=>exact⟨[],[],rfl,Ld.zero _ _ _,by simpa using c0,by simpa using bl.o,b6,be.o⟩
 case round=>
  clear b6 be bl;obtain⟨a,d,rfl,a6,ca,bv,b5,a5⟩:=hrel;have k:=af a6;have az:=af bv;have P:=af a5;have al:=af b5;have dl:w.heap.size<=wr.heap.size:=a5.size;have cu:=a6.le;clear a6 bv a5 b5;by_cases l:a.length<cn
  ·go_wp2_with fail
   refine(jL r (p+d.length) s _ b2 ca az.o).mono ?_;rintro e dp ⟨S,⟨b,rfl,b3,cb,b1,bx⟩|⟨q,rfl,Z⟩⟩
   ·have G:=af (P.o.trans S);have av:=af (S.own al.o ba);have am:=af cb;have bm:=af bx;have ae:=af b3;clear S cb bx b3 al P az
    go_wp2_with fail
    refine(BJ r (p+d.length+(aL b).length) s _ b2 b1 bm.o).mono ?_;rintro e dq ⟨T,⟨c,rfl,f,cc,bA,dc⟩|⟨q,rfl,Z⟩⟩
    ·have j:=af (G.o.trans T);have H:=af (T.own av.o ba);have bo:=af cc;have J:=af bA;have bd:=af f;clear T cc bA G av bm f;by_cases co:b=0\/cn-a.length<b
     ·have o:X (∀L:List Int,L.length=cn->nQ L->¬ai (bytesOf s) p (cz L)):=by
       intro L y f B;obtain⟨ao,Q,m,a0,a1,an,i,u,N,a2,a3⟩:=k.o.next l L y f B;have:=cB (by omega) (by have:=ae.o;omega) u am.o;omega
      go_wp2_with (go_at_call 97;refine(b9 r _ s _ J.o).mono ?_;rintro e w' ⟨rfl,rfl⟩)
      all_goals exact⟨rfl,j.o,.inr ⟨_,rfl,o.o⟩⟩
     ·have cR:b≠0:=by omega
      have b4:b+a.length<=cn:=by omega
      have dk:((b:Int)==0)=T8:=by simp;omega
      clear co;by_cases g:0<a.length/\a.getD (a.length-1) 0=c
      ·have o:X (∀L:List Int,L.length=cn->nQ L->¬ai (bytesOf s) p (cz L)):=by
        intro L y f B;obtain⟨ao,Q,m,a0,a1,an,i,u,N,a2,a3⟩:=k.o.next l L y f B;have M:=cB (by omega) (by have:=ae.o;omega) u am.o;subst M;have bu:Q=c:=by
         have a4:=bo.o;rw[dI] at N a4;rw[N] at a4;simp at a4;have:=bd.o;omega
        rw[sV g.1,g.2,bu] at i;rcases i with i|i
        ·rw[i] at g;simp at g
        ·exact i Y
       obtain⟨O,cs⟩:∃O,a.length=O+1:=⟨a.length-1,by omega⟩;have b0:=Iu H.o Y O (by omega);have W:a.getD O 0=c:=by rw[<-g.2,cs];rfl
       rw[W] at b0;clear g W;have bt:decide ((cn:Int)-(a.length:Int)<(b:Int))=T8:=by simp;omega
       have M:Vd ((cn:Int)-(a.length:Int))=(cn:Int)-(a.length:Int):=by unfold Vd;omega
       have bu:Vd ((a.length:Int)-1)=(O:Int):=by unfold Vd;omega
       have c7:(O:Int)<(a.length:Int):=by omega
       go_wp2_with (go_at_call 97;refine(b9 r _ s _ J.o).mono ?_;rintro e w' ⟨rfl,rfl⟩)
       exact⟨rfl,j.o,.inr ⟨_,rfl,o.o⟩⟩
      ·have cf:X (a=[]\/a.getLast? ≠I c):=by
        by_cases R:0<a.length
        ·right
         rw[sV R];intro e;simp only[U9] at e;exact g ⟨R,e⟩
        ·left
         exact Wh.1 (by omega)
       have bi:X (Ld (bytesOf s) p cn (a++VF b c) (d++(aL b++[c.toNat]))):=k.o.more cR (by omega) (by have:=ae.o;omega) bd.o cf.o am.o bo.o cp l;have bt:decide ((cn:Int)-(a.length:Int)<(b:Int))=T8:=by simp;omega
       have M:Vd ((cn:Int)-(a.length:Int))=(cn:Int)-(a.length:Int):=by unfold Vd;omega
       have dd:b<=100:=by omega
       clear b1;by_cases R:0<a.length
       ·have b0:=Iu H.o Y (a.length-1) (by omega);have W:a.getD (a.length-1) 0≠c:=λe=>g ⟨R,e⟩;generalize a.getD (a.length-1) 0=c6 at*;have c8:(c6==c)=T8:=by simp;exact W
        clear g W
        go_wp2_with fail
        go_loopw [5,46] (λD C E=>∃m:Nat,m<=b/\C= .int .i64 (m:Int)/\D= .slice (I ⟨w.heap.size,0,K⟩) (a.length+m) cn/\E.heap[r]? =I (cj s (p+d.length+(aL b).length+1))/\
         E.ownsRow w.heap.size 3 1 (.slice (I ⟨w.heap.size,0,K⟩) (a.length+m) cn) (a.length+m) (bw (a++VF m c))/\Kp r w E) (λ_ C _=>b-(UT C).toNat)
        case atStart=>exact⟨0,UF _,rfl,rfl,J.o,by simpa using H.o,j.o⟩
        case round=>
         clear J H j;obtain⟨m,cx,rfl,rfl,V,A,x⟩:=hrel;have t:=af V;have n:=af x;have c1:=x.size;clear V x;by_cases cv:m<b
         ·go_wp2_with (at_builtin;refine VI _ Y _ _ 22 Y w.heap.size 3 bc 1 ay.underlying22 a9 bb w.heap.size (a.length+m) cn _ Y (A.alloc _) ⟨wr.heap.size,0,K⟩ 1 1 [.int .i64 c] Y Y (by exact gT _ _ _) ?c2 (by omega) ?_)
          case c2=>intro c5 ab;simp at ab;subst ab;rfl
          intro ad aa z;have ar:X (Kp r w ad):=(n.o.alloc _).grown z (by intro cl a7;simp at a7;omega);have aw:X (ad.heap[r]? =I (cj s (p+d.length+(aL b).length+1))):=by
           show _=_;rw[z.block r (by simp;omega) (by simp;omega),UO wr _ r (by omega)];exact t.o
          rw[Ev] at aa;clear A z n t;go_wp2
          go_roundw
          case rel=>exact⟨m+1,by omega,by go_num,by first|rfl|(rw[U6]),aw.o,by rw[<-U6];exact aa,ar.o⟩
          case measure=>simp[UT];omega
         ·obtain rfl:m=b:=by omega
          go_wp2
          go_roundw
          case rel=>exact⟨a++VF m c,d++(aL m++[c.toNat]),by simp,bi.o,by simp;omega,by rw[show p+(d++(aL m++[c.toNat])).length=p+d.length+(aL m).length+1 by simp;omega];exact t.o,by simpa using A,n.o⟩
          case measure=>simp;omega
       ·obtain rfl:a=[]:=Wh.1 (by omega);have df:b<=cn:=by simpa using b4
        have c9:decide (cn<b)=T8:=by simp;omega
        have da:decide ((cn:Int)<(b:Int))=T8:=by simp;omega
        have db:0<cn:=by simpa using l
        clear g R bt M b4 cu l
        go_wp2_with fail
        go_loopw [5,46] (λD C E=>∃m:Nat,m<=b/\C= .int .i64 (m:Int)/\D= .slice (I ⟨w.heap.size,0,K⟩) m cn/\E.heap[r]? =I (cj s (p+d.length+(aL b).length+1))/\
         E.ownsRow w.heap.size 3 1 (.slice (I ⟨w.heap.size,0,K⟩) m cn) m (bw (VF m c))/\Kp r w E) (λ_ C _=>b-(UT C).toNat)
        case atStart=>exact⟨0,UF _,rfl,rfl,J.o,H.o,j.o⟩
        case round=>
         clear J H j;obtain⟨m,cx,rfl,rfl,V,A,x⟩:=hrel;have t:=af V;have n:=af x;have c1:=x.size;clear V x;by_cases cv:m<b
         ·go_wp2_with (at_builtin;refine VI _ Y _ _ 22 Y w.heap.size 3 bc 1 ay.underlying22 a9 bb w.heap.size m cn _ Y (A.alloc _) ⟨wr.heap.size,0,K⟩ 1 1 [.int .i64 c] Y Y (by exact gT _ _ _) ?c2 (by omega) ?_)
          case c2=>intro c5 ab;simp at ab;subst ab;rfl
          intro ad aa z;have ar:X (Kp r w ad):=(n.o.alloc _).grown z (by intro cl a7;simp at a7;omega);have aw:X (ad.heap[r]? =I (cj s (p+d.length+(aL b).length+1))):=by
           show _=_;rw[z.block r (by simp;omega) (by simp;omega),UO wr _ r (by omega)];exact t.o
          rw[show bw (VF m c)++[.int .i64 c]=bw (VF (m+1) c) from Ev [] m c] at aa;clear A z n t;go_wp2
          go_roundw
          case rel=>exact⟨m+1,by omega,by go_num,rfl,aw.o,aa,ar.o⟩
          case measure=>simp[UT];omega
         ·obtain rfl:m=b:=by omega
          go_wp2
          go_roundw
          case rel=>exact⟨VF m c,d++(aL m++[c.toNat]),by simp,by simpa using bi.o,by simp;omega,by rw[show p+(d++(aL m++[c.toNat])).length=p+d.length+(aL m).length+1 by simp;omega];exact t.o,by simpa using A,n.o⟩
          case measure=>simp;omega
    ·have o:X (∀L:List Int,L.length=cn->nQ L->¬ai (bytesOf s) p (cz L)):=by
      intro L y f B;obtain⟨ao,Q,m,a0,a1,an,i,u,N,a2,a3⟩:=k.o.next l L y f B;have M:=cB (by omega) (by have:=ae.o;omega) u am.o;subst M;exact Z Q an N
     have j:=af (G.o.trans T);clear Z T G av;go_wp2;exact⟨rfl,j.o,.inr ⟨q,rfl,o.o⟩⟩
   ·have o:X (∀L:List Int,L.length=cn->nQ L->¬ai (bytesOf s) p (cz L)):=by
     intro L y f B;obtain⟨ao,Q,m,a0,a1,an,i,u,N,a2,a3⟩:=k.o.next l L y f B;exact Z ao (by omega) u
    have G:=af (P.o.trans S);clear Z S P al;go_wp2;exact⟨rfl,G.o,.inr ⟨q,rfl,o.o⟩⟩
  ·obtain⟨ck,br,bs⟩:=k.o.done l;have ap:=af br;have ci:=af bs;have bB:ai (bytesOf s) p d:=k.o.st;have ch:=af bB;clear br bs bB;go_wp2;go_ret;exact⟨P.o,.inl ⟨a,_,rfl,ck,k.o.bits,by rw[ap.o];exact ch.o,ci.o,by rw[ap.o];exact ca,by rw[ap.o];exact az.o,al.o⟩⟩
end Ec
namespace Pk
open Go.RowKit Pm
def Oe(a:Nat)(h:a<=16):Vd ((2:Int)^a)=pw a:=by
 have c:=Cn a;have d:=Iv a h;have b:(2:Int)^a=pw a:=by unfold pw;push_cast;rfl
 rw[b];unfold Vd;omega
end Pk
end Go.Proofs.YtjidbonhhpkljaaGreat
namespace Go.Proofs.YtjidbonhhpkljaaGreat.Pm
def D8(v a b c:Nat)(h:c<=b):v%2^(a+b)/2^a%2^c=v/2^a%2^c:=by
 rw[Xm,Nat.mod_mul_right_div_self,show b=c+(b-c) by omega,Xm,Nat.mod_mul_right_mod]
def eK (v b a i:Nat):Nat:=v%2^(8*a)/2^(b*i)
def JC(v b a i q:Nat)(h:8*a=b*i+q):eK v b a i<2^q:=by
 unfold eK;rw[Nat.div_lt_iff_lt_mul (Nat.pow_pos (by omega)),<-Xm,show q+b*i=8*a by omega];exact Nat.mod_lt _ (Nat.pow_pos (by omega))
def DX(v b a i q:Nat)(h:8*a=b*i+q):eK v b (a+1) i=eK v b a i+2^q*(v/256^a%256):=by
 unfold eK;rw[show 8*(a+1)=8*a+8 by omega,Xm,Nat.mod_mul,Cl,show(2:Nat)^8=256 by rfl]
 conv=>lhs;rw[h,Xm,Nat.mul_assoc]
 rw[Nat.add_mul_div_left _ _ (Nat.pow_pos (by omega)),h,Xm]
def F6(v a b i:Nat)(q:Nat)(h:8*b=a*i+q)(c:a<=q):eK v a b i%2^a=v/2^(a*i)%2^a:=by
 unfold eK;rw[h,D8 _ _ _ _ c]
def DY(v a b i:Nat):eK v a b i/2^a=eK v a b (i+1):=by
 unfold eK;rw[Nat.div_div_eq_div_mul,<-Xm,Nat.mul_succ]
def DZ(v a:Nat):eK v a 0 0=0:=by simp[eK,Nat.mod_one]
end Go.Proofs.YtjidbonhhpkljaaGreat.Pm
namespace Go.Proofs.YtjidbonhhpkljaaGreat.Pk
open Go.RowKit Go.Proofs.YtjidbonhhpkljaaGreat.Pm
def eH (s:ByteArray)(p:Nat):Nat:=V ((bytesOf s).drop p)
def Gy(s:ByteArray)(p a:Nat)(h:p+a<s.size):s[p+a].toNat=eH s p/256^a%256:=by
 unfold eH;have c:∀b∈(bytesOf s).drop p,b<256:=λb d=>jB s b (List.mem_of_mem_drop d);rw[<-Si _ a c,List.getElem?_drop,Uo (by rw[aj];exact h),V3,vw s _ h]
def su (s:ByteArray)(p a cn:Nat):Prop:=p+(cn*a+7)/8<=s.size/\eK (eH s p) a ((cn*a+7)/8) cn=0
def Lu(b a:Nat)(d:a<=16)(g:b<16777216):bits .and .i64 (b:Int) (Vd (pw a-1))=((b%2^a:Nat):Int):=by
 have e:=Cn a;have f:=Iv a d;rw[show Vd (pw a-1)=pw a-1 from by unfold Vd;omega];have c:pw a=(2:Int)^a:=by unfold pw;push_cast;rfl
 rw[c,bits_mask .i64 62 (by decide) Bz a (by omega) (b:Int) (by omega) (by omega)]
 push_cast;rfl
def RH(a b:Nat):(a:Int)/2^b=((a/2^b:Nat):Int):=by push_cast;rfl
def zb(s:ByteArray)(r p a cn:Nat)(w:F)(H:s.size<=Ur)(n:a<=16)(bj:cn<=100)(bs:p<=s.size)(h:w.heap[r]? =I (cj s p)):
 bG 177 #[(bS r),.int .i64 a,.int .i64 cn] w λe w'=>Kp r w w'/\
  ((e= .returned (.slice (I ⟨w.heap.size,0,K⟩) cn cn)/\su s p a cn/\w'.heap[r]? =I (cj s (p+(cn*a+7)/8))/\
    w'.ownsRow w.heap.size 3 1 (.slice (I ⟨w.heap.size,0,K⟩) cn cn) cn (bw (jV (D a (eH s p) cn))))\/
   (∃q,e= .panicked (eE q)/\¬su s p a cn)):=by
 obtain⟨O,G,a8,N,a9⟩:=Vg ay.vE;have L:r<w.heap.size:=Uf h;have bt:=Cn a;have bu:=Iv a n;have bv:=Oe a n;have ad:=af h;go_enter ay.func177,Tryz.ntmps177
 go_wp2_with (at_make;refine Wc _ Y _ _ 22 Y w.heap.size 3 O (.int .i64 0) 1 ay.underlying22 G a8 N .i64 .i64 _ cn Y Y Y (by rw[a9];omega) (by unfold Ur;omega) (T9 _) ?_;intro P a5 E)
 have ap:Kp r w P:=(Kp.refl _ _).grown E (by simp);have ae:X (P.heap[r]? =I (cj s (p+0))):=by show _=_;rw[E.block r L (by simp)];exact ad.o
 go_loopw [7,8,9,13] (λbb h q B wr=>∃(c b d:Nat),c<=cn/\B= .int .i64 c/\bb= .slice (I ⟨w.heap.size,0,K⟩) c cn/\q= .int .i64 d/\d<8/\8*b=a*c+d/\p+b<=s.size/\
  h= .int .i64 ((eK (eH s p) a b c:Nat):Int)/\wr.heap[r]? =I (cj s (p+b))/\
  wr.ownsRow w.heap.size 3 1 (.slice (I ⟨w.heap.size,0,K⟩) c cn) c (bw (jV (D a (eH s p) c)))/\Kp r w wr) (λ_ _ _ B _=>cn-(UT B).toNat)
 case atStart=>exact⟨0,0,0,UF _,rfl,rfl,rfl,by omega,by simp,by omega,by rw[DZ];rfl,ae.o,a5,ap⟩
 case round=>
  obtain⟨c,b,d,bm,rfl,rfl,rfl,a6,m,t,rfl,y,o,f⟩:=hrel;have k:=af m;have g:=af y;by_cases a3:c<cn
  ·have bo:a*(c+1)<=16*100:=Wt n (by omega);have av:a*(c+1)<=a*cn:=Xk _ a3
   go_wp2_with fail
   go_loopw [8,9] (λh q wr=>∃(b d:Nat),q= .int .i64 d/\d<a+8/\8*b=a*c+d/\p+b<=s.size/\h= .int .i64 ((eK (eH s p) a b c:Nat):Int)/\wr.heap[r]? =I (cj s (p+b))/\
    wr.ownsRow w.heap.size 3 1 (.slice (I ⟨w.heap.size,0,K⟩) c cn) c (bw (jV (D a (eH s p) c)))/\Kp r w wr) (λ_ q _=>a+8-(UT q).toNat)
   case atStart=>exact⟨b,d,rfl,by omega,k.o,t,rfl,g.o,o,f⟩
   case round=>
    obtain⟨b,d,rfl,a6,m,t,rfl,y,o,f⟩:=hrel;have a1:=JC (eH s p) a b c d m;have ab:=af (DX (eH s p) a b c d m);have aa:=af (F6 (eH s p) a b c d m);have V:=af (DY (eH s p) a b c);have k:=af m;have g:=af y;have a0:eK (eH s p) a b c<16777216:=by have i:2^d<=2^24:=VP (by omega) (by omega);omega
    generalize eK (eH s p) a b c=l at*;by_cases bx:d<a
    ·by_cases A:p+b<s.size
     ·have ar:=af (Gy s p b A);have bA:s[p+b].toNat<256:=s[p+b].toNat_lt;have a4:=M1 l s[p+b].toNat d (by omega) (by omega) a1;rw[show l+2^d*s[p+b].toNat=eK (eH s p) a (b+1) c from by rw[ab.o,ar.o]] at a4;have R:X (∀w,w.heap[r]? =I (cj s (p+b))->bG 129 #[(bS r)] w λe w'=>e= .returned (.int .u8 (s[p+b].toNat:Int))/\∃j,w'=(w.setCell ⟨r,1,K⟩ (.int .i64 ((p+b+1:Nat):Int))).drewN j):=
       λw n=>xg r (p+b) s w H A n
      have be:X (∃i,i=eK (eH s p) a (b+1) c):=⟨_,rfl⟩;generalize az:eK (eH s p) a (b+1) c=i at*;have T:=af az;generalize s[p+b].toNat=bB at*
      go_wp2_with (go_at_call 129;refine(R.o _ g.o).mono ?_;rintro e w' ⟨rfl,j,rfl⟩)
      go_roundw
      case rel=>exact⟨b+1,d+8,by go_num,by omega,by have:=k.o;omega,by omega,by rw[T.o],lW g.o j,rK (ownsRow_setCell_below o (by exact L) _) j,f.set _ _ j⟩
      case measure=>simp[UT];omega
     ·have W:X (¬su s p a cn):=by
       rintro⟨am,_⟩;have i:=k.o;rw[Nat.mul_succ] at av;rw[Xz cn a] at am;omega
      go_wp2_with (go_at_call 129;refine(sN r (p+b) s _ H A t g.o).mono ?_;rintro e w' ⟨rfl,j,rfl⟩)
      exact⟨rfl,f.drewN j,.inr ⟨_,rfl,W.o⟩⟩
    ·have an:=Lu l a n a0;rw[aa.o (by omega)] at an;have a7:=RH l a;rw[V.o] at a7;have S:X (D a (eH s p) (c+1)=D a (eH s p) c++[eH s p/2^(a*c)%2^a]):=rfl;generalize eH s p/2^(a*c)%2^a=bd at*
     go_wp2_with (at_builtin;refine VI _ Y _ _ 22 Y w.heap.size 3 O 1 ay.underlying22 G N w.heap.size c cn _ Y (o.alloc _) ⟨wr.heap.size,0,K⟩ 1 1 [.int .i64 (bd:Int)] Y Y ?c1 ?c2 (by omega) ?_)
     case c1=>
      intro ba bc u
      match ba,u with
      |0,u=>simp at u;subst u;simp[Ys]
     case c2=>intro bc M;simp at M;subst M;rfl
     ·intro Q J C;have ao:Kp r w Q:=(f.alloc _).grown C (by intro bi aw;simp at aw;omega);have al:X (Q.heap[r]? =I (cj s (p+b))):=by
       show _=_;rw[C.block r (by have:=f.size;simp;omega) (by simp;omega),UO wr _ r (by have:=f.size;omega)];exact g.o
      rw[eT] at J;go_wp2
      go_roundw
      case rel=>exact⟨c+1,b,d-a,by omega,by go_num,rfl,by go_num,by omega,by have:=k.o;rw[Nat.mul_succ];omega,t,rfl,al.o,by rw[S.o];simpa [jV] using J,ao⟩
      case measure=>simp[UT];omega
  ·have a2:c=cn:=by omega
   subst a2;have v:b=(c*a+7)/8:=by have:=k.o;rw[Xz a c] at this;omega
   by_cases z:eK (eH s p) a b c=0
   ·have x:X (su s p a c):=⟨by rw[<-v];exact t,by rw[<-v];exact z⟩;rw[z];have U:=af v;go_wp2;go_ret;exact⟨f,.inl ⟨rfl,x.o,by rw[<-U.o];exact g.o,o⟩⟩
   ·have x:X (¬su s p a c):=by rintro⟨_,i⟩;rw[<-v] at i;exact z i
    have bl:0<eK (eH s p) a b c:=by omega
    generalize eK (eH s p) a b c=l at*;have br:((l:Int) !=0)=Z:=by simp;omega
    go_wp2_with (go_at_call 97;refine(b9 r (p+b) s _ g.o).mono ?_;rintro e w' ⟨rfl,rfl⟩)
    exact⟨rfl,f,.inr ⟨_,rfl,x.o⟩⟩
end Go.Proofs.YtjidbonhhpkljaaGreat.Pk
namespace Go.Proofs.YtjidbonhhpkljaaGreat
namespace Ec
open Go.RowKit Pk Pm
def Sc(w:Nat):∀(a b:List Nat),(∀x∈a,x<2^w)->(∀x∈b,x<2^w)->a.length=b.length->N w a=N w b->a=b:=by
 intro a
 induction a with
 |nil=>intro b _ _ c _;exact(Wh.1 (by simpa using c.symm)).symm
 |cons x p o=>
  intro b g h c f;cases b with
  |nil=>simp at c
  |cons j i=>
   simp only[N] at f;have m:=g x (by simp);have n:=h j (by simp);have k:x=j:=by
    have:=congrArg (· % 2^w) f;simpa [Nat.add_mul_mod_self_left,Xw m,Xw n] using this
   subst k;have l:N w p=N w i:=Nat.eq_of_mul_eq_mul_left (Nat.pow_pos (n:=w) (show 0<2 by omega)) (by omega);rw[o i (λe d=>g e (by simp[d])) (λe d=>h e (by simp[d])) (by simpa using c) l]
def Be(s:ByteArray)(p a:Nat):V (((bytesOf s).drop p).take a)=eH s p%2^(8*a):=by
 rw[QT _ _ (λc b=>jB s c (List.mem_of_mem_drop b)),Cl];rfl
def AX(v a b cn:Nat):eK v a b cn=0↔v%2^(8*b)<2^(a*cn):=by
 unfold eK;rw[Nat.div_eq_zero_iff];have:=Nat.pow_pos (n:=a*cn) (show 0<2 by omega);omega
def B2(a cn:Nat):a*cn<=8*((cn*a+7)/8):=by rw[Xz a cn];omega
def Aq(s:ByteArray)(p a cn:Nat)(g:p<=s.size)(h:su s p a cn):ai (bytesOf s) p (cK a (D a (eH s p) cn)):=by
 obtain⟨f,b⟩:=h;rw[AX] at b;have c:(((bytesOf s).drop p).take ((cn*a+7)/8)).length=(cn*a+7)/8:=by
  rw[Vt,Xc,aj];omega
 have:=tq a (D a (eH s p) cn) (((bytesOf s).drop p).take ((cn*a+7)/8)) (by rw[c,px]) (λe d=>jB s e (List.mem_of_mem_drop (V6 d))) (by
  rw[Be,SP,<-Nat.mod_mod_of_dvd (eH s p) (Nat.pow_dvd_pow 2 (B2 a cn)),Xw b])
 rw[<-this];exact List.take_prefix _ _
def lU(s:ByteArray)(p a:Nat)(ps:List Nat)(i:p<=s.size)(f:∀x∈ps,x<2^a)(h:ai (bytesOf s) p (cK a ps)):su s p a ps.length/\D a (eH s p) ps.length=ps:=by
 have e:=gK h (by rw[aj];exact i);rw[fc,aj] at e;have d:((bytesOf s).drop p).take ((ps.length*a+7)/8)=cK a ps:=by
  obtain⟨j,d⟩:=h;rw[<-d,<-fc a ps];simp
 have b:=Be s p ((ps.length*a+7)/8);rw[d] at b;have c:=S3 a ps f;have g:V (cK a ps)=N a ps:=by
  rw[Lq,cK,SP,Xw];exact Ue c (VP (by omega) (B2 a ps.length))
 rw[g] at b;refine⟨⟨e,?_⟩,?_⟩
 ·rw[AX,<-b];exact c
 ·refine Sc a _ _ (QK _ _ _) f (px _ _ _) ?_;rw[SP,<-Nat.mod_mod_of_dvd (eH s p) (Nat.pow_dvd_pow 2 (B2 a ps.length)),<-b,Xw c]
def lO:Nat->List Nat->Option Nat
 |s,[]=>I s
 |s,a::b=>if a<s then lO s b else if a=s then lO (s+1) b else K
def oz(s:Nat)(a b:List Nat):lO s (a++b)=(lO s a).bind (λt=>lO t b):=by
 induction a generalizing s with
 |nil=>rfl
 |cons d e c=>
  simp only[We,lO]
  split
  ·exact c s
  ·split
   ·exact c _
   ·rfl
def xV{s t:Nat}{l:List Nat}(h:lO s l=I t):s<=t:=by
 induction l generalizing s with
 |nil=>simp[lO] at h;omega
 |cons b c a=>
  simp only[lO] at h
  split at h
  ·exact a h
  ·split at h
   ·have:=a h;omega
   ·cases h
def uj{s t:Nat}{l:List Nat}(h:lO s l=I t):∀q∈l,q<t:=by
 induction l generalizing s with
 |nil=>simp
 |cons q e b=>
  intro c a;simp only[lO] at h
  split at h
  ·rename_i d;have:=xV h;rcases VN.1 a with rfl|a
   ·omega
   ·exact b h c a
  ·split at h
   ·have:=xV h;rcases VN.1 a with rfl|a
    ·omega
    ·exact b h c a
   ·cases h
def z6(l:List Nat)(k:Nat)(a:k<l.length){t:Nat}(h:lO 0 (l.take k)=I t):lO 0 (l.take (k+1))=if l[k]<t then I t else if l[k]=t then I (t+1) else K:=by
 rw[Up a,oz,h];rfl
def uk(l:List Nat)(k:Nat):lO 0 l=(lO 0 (l.take k)).bind (λt=>lO t (l.drop k)):=by
 rw[<-oz,List.take_append_drop]
def sW(d:List aE)(v:aE):idx d v<d.length↔v∈d:=by
 constructor
 ·intro b;rw[<-F8 d v b];exact Uk b
 ·intro b;obtain⟨a,f,rfl⟩:=Vw b;have:=F9 d d[a] a f;have c:Fj d[a] d[a]=Z:=nC.2 Y;by_cases e:a<idx d d[a]
  ·rw[this e] at c;cases c
  ·omega
def uD{d:List aE}(f:d.Nodup){i j:Nat}(b:i<d.length)(c:j<d.length)(h:d[i]=d[j]):i=j:=by
 have e:=List.pairwise_iff_getElem.1 f;rcases Nat.lt_trichotomy i j with a|a|a
 ·exact absurd h (e i j b c a)
 ·exact a
 ·exact absurd h.symm (e j i c b a)
def JD(d:List aE)(c:d.Nodup)(j:Nat)(e:j<d.length):idx d d[j]=j:=by
 have a:=(sW d _).2 (Uk e);have b:=F8 d d[j] a;exact uD c _ _ b
def FV(l:List aE)(v:aE):dfold (l++[v])=sP (dfold l) v:=by
 unfold dfold;rw[List.foldl_append];rfl
def L4(d:List aE)(n:d.Nodup)(z:aE)(ps:List Nat):∀k t,k<=ps.length->lO 0 (ps.take k)=I t->t<=d.length->dfold ((ps.take k).map (λq=>d.getD q z))=(d.take t,ps.take k):=by
 intro k
 induction k with
 |zero=>intro t _ a _;simp[lO] at a;subst a;simp[dfold]
 |succ k s=>
  intro t x a v;have p:k<ps.length:=by omega
  rw[uk (ps.take (k+1)) k,List.take_take,Nat.min_eq_left (by omega)] at a;cases e:lO 0 (ps.take k) with
  |none=>rw[e] at a;cases a
  |some b=>
   rw[e] at a;have u:(ps.take (k+1)).drop k=[ps[k]]:=by
    rw[Up p,List.drop_append_of_le_length (by rw[Vt];omega)];simp
   simp only[XT,u,lO] at a;rw[Up p,U1,Wq,FV];by_cases m:ps[k]<b
   ·rw[if_pos m] at a;cases a;rw[s t (by omega) e v];have g:ps[k]<d.length:=by omega
    have i:d.getD ps[k] z=d[ps[k]]:=by simp[Yx,g]
    have f:idx (d.take t) d[ps[k]]=ps[k]:=by
     have j:ps[k]<(d.take t).length:=by rw[Vt];omega
     have:=JD (d.take t) (n.sublist (List.take_sublist _ _)) ps[k] j;rwa [VG] at this
    unfold sP ins;rw[i,f,if_pos (by rw[Vt];omega),f]
   ·rw[if_neg m] at a;by_cases c:ps[k]=b
    ·rw[if_pos c] at a;cases a;rw[s b (by omega) e (by omega)];have g:b<d.length:=by omega
     have i:d.getD ps[k] z=d[b]:=by simp[Yx,c,g]
     have j:(d.take b).length=b:=by rw[Vt];omega
     have r:¬idx (d.take b) d[b]<(d.take b).length:=by
      rw[sW];intro f;obtain⟨y,w,l⟩:=Vw f;rw[VG] at l;have:=uD n _ _ l;omega
     have o:ins (d.take b) d[b]=d.take (b+1):=by
      unfold ins;rw[if_neg r,Up g]
     have h:=xq (d.take b) d[b];unfold sP;simp only;rw[i,o];rw[o] at h;rw[h.1,h.2.2 r,j,c]
    ·rw[if_neg c] at a;cases a
def vA(l:List aE)(z:aE):(dfold l).1.Nodup/\lO 0 (dfold l).2=I (dfold l).1.length/\(dfold l).2.map (λq=>(dfold l).1.getD q z)=l:=by
 have r:∀a,a<=l.length->(dfold (l.take a)).1.Nodup/\lO 0 (dfold (l.take a)).2=I (dfold (l.take a)).1.length/\(dfold (l.take a)).2.map (λq=>(dfold (l.take a)).1.getD q z)=l.take a:=by
  intro a
  induction a with
  |zero=>intro _;simp[dfold,lO]
  |succ a p=>
   intro u;obtain⟨h,d,i⟩:=p (by omega);have g:a<l.length:=by omega
   have n:=uj d;rw[dfold_succ l a g];generalize dfold (l.take a)=b at*;have e:=xq b.1 l[a];unfold sP;by_cases c:idx b.1 l[a]<b.1.length
   ·have f:ins b.1 l[a]=b.1:=by unfold ins;rw[if_pos c]
    rw[f];refine⟨h,?_,?_⟩
    ·rw[oz,d];simp[lO,c]
    ·rw[U1,i,Up g];congr 1;simp[Yx,c,F8 b.1 l[a] c]
   ·have f:ins b.1 l[a]=b.1++[l[a]]:=by unfold ins;rw[if_neg c]
    rw[f] at e ⊢;rw[e.1,e.2.2 c];refine⟨?_,?_,?_⟩
    ·rw[List.nodup_append];refine⟨h,by simp,?_⟩;intro s m t j k;simp at j;subst j;subst k;exact c ((sW _ _).2 m)
    ·rw[oz,d];simp[lO]
    ·rw[U1,Up g];congr 1
     ·rw[<-i];apply List.map_congr_left;intro q o;have:=n q o;simp[Yx,Vx this]
     ·simp
 have:=r l.length (T9 _);rwa [Vh] at this
def Ju{k:Int}(T:k=1\/k=2\/k=3){s:ByteArray}{p cn n:Nat}{d:List aE}{ps:List Nat}(z:aE)(S:cn<=100)(U:n<=cn)(J:d.length=n)(H:∀x∈d,VK k x)(G:d.Nodup)(u:ps.length=cn)
 (hc:lO 0 ps=I n) (y:ai (bytesOf s) p (aL n)) (O:ai (bytesOf s) (p+(aL n).length) (aW k d)) (A:ai (bytesOf s) (p+(aL n).length+(aW k d).length) (cK (wid n) ps))
 (u2:∀D:List aE,D.length=n->(∀x∈D,VK k x)->ai (bytesOf s) (p+(aL n).length) (aW k D)->D=d) (t:p+(aL n).length+(aW k d).length<=s.size):
 (ps.map λq=>d.getD q z).length=cn/\(∀x∈ps.map λq=>d.getD q z,VK k x)/\ez k (ps.map λq=>d.getD q z)=aL n++(aW k d++cK (wid n) ps)/\ai (bytesOf s) p (ez k (ps.map λq=>d.getD q z))/\
   ∀L:List aE,L.length=cn->(∀x∈L,VK k x)->ai (bytesOf s) p (ez k L)->L=ps.map λq=>d.getD q z:=by
 have K:dfold (ps.map λq=>d.getD q z)=(d,ps):=by
  have:=L4 d G z ps ps.length n (T9 _) (by rw[Vh];exact hc) (by omega);rw[Vh,UP (by omega:d.length<=n)] at this;exact this
 have o:ez k (ps.map λq=>d.getD q z)=aL n++(aW k d++cK (wid n) ps):=by
  unfold ez;rw[K,J]
 refine⟨by simp[u],?_,o,?_,?_⟩
 ·intro x a;obtain⟨q,N,rfl⟩:=U8.1 a;have V:=uj hc q N;have v:q<d.length:=by omega
  simp only[Yx,v,Uo,V3];exact H _ (Uk v)
 ·rw[o,au,au];exact⟨y,O,A⟩
 ·intro L F M b;obtain⟨Q,R,i⟩:=vA L z;obtain⟨C,j,l,m⟩:=pR L L.length (T9 _);rw[Vh] at C j l m;unfold ez at b;rw[au,au] at b;obtain⟨P,B,f⟩:=b;have g:(dfold L).1.length=n:=cB (by omega) (by omega) P y;rw[g] at B f;have h:(dfold L).1=d:=u2 _ g (λx a=>M x (m x a)) B;rw[h] at f;have r:∀(c:List Nat),(∀x∈c,x<n)->∀x∈c,x<2^wid n:=λc E x a=>tM n (by omega) x (E x a);have e:=(lU s _ (wid n) (dfold L).2 t (r _ (λx a=>by have:=l x a;omega)) f).2;have w:=(lU s _ (wid n) ps t (r _ (λx a=>uj hc x a)) A).2;rw[j,F] at e;rw[u] at w;rw[w] at e;rw[h,<-e] at i;exact i.symm
def VC (k:Int)(v:aE):Prop:=(v.null=Z/\v.n=0/\v.s=⟨#[]⟩)\/VK k v
def KW{k:Int}{v:aE}(c:k=1\/k=2\/k=3)(h:rD v)(a:fR v k=Z):VC k v:=by
 cases b:v.null with
 |true=>
  unfold fR at a;rw[b] at a;simp at a;exact .inl ⟨b,a.1,kQ a.2⟩
 |false=>exact .inr (KX c b h a)
def E3{k:Int}{l:List aE}(h:∀x∈l,VC k x):∀x∈there l,VK k x:=by
 intro x a;unfold there at a;rw[List.mem_filter] at a;rcases h x a.1 with⟨b,_⟩|h
 ·rw[b] at a;simp at a
 ·exact h
def Ps{k:Int}:∀(a b:List aE),(∀x∈a,VC k x)->(∀x∈b,VC k x)->a.map nM=b.map nM->there a=there b->a=b:=by
 intro a
 induction a with
 |nil=>intro b _ _ f _;simp at f;exact f.symm
 |cons x y z=>
  intro b t u g s;cases b with
  |nil=>simp at g
  |cons e j=>
   simp only[Xy,Xl] at g;have w:x.null=e.null:=by
    have:=g.1;unfold nM at this;cases c:x.null<;>cases d:e.null<;>simp[c,d] at this<;>rfl
   have v:=λf=>z j (λl i=>t l (by simp[i])) (λl i=>u l (by simp[i])) g.2 f;cases c:x.null with
   |true=>
    have d:e.null=Z:=by rw[<-w];exact c
    have h:there y=there j:=by simpa [there,c,d] using s
    rw[v h];congr 1;rcases t x (by simp) with⟨m,n,o⟩|a
    ·rcases u e (by simp) with⟨p,q,r⟩|b
     ·cases x;cases e;simp at m n o p q r;simp[m,n,o,p,q,r]
     ·rw[b.there] at d;cases d
    ·rw[a.there] at c;cases c
   |false=>
    have d:e.null=T8:=by rw[<-w];exact c
    have h:x=e/\there y=there j:=by simpa [there,c,d] using s
    rw[h.1,v h.2]
def mM (b:List Int):Nat:=(b.filter λa=>a !=0).length
def zJ(l:List aE):(there l).length=mM (l.map nM):=by
 unfold there mM
 induction l with
 |nil=>rfl
 |cons c d b=>
  cases a:c.null with
  |true=>simp[a,nM];simpa [nM] using b
  |false=>simp[a,nM];simpa [nM] using b
def yE(l:List aE):nQ (l.map nM):=by
 intro c a;obtain⟨b,_,rfl⟩:=U8.1 a;unfold nM
 split
 ·exact .inl Y
 ·exact .inr Y
def DC{k e:Int}{s:ByteArray}{p cn:Nat}{l:List aE}(j:l.length=cn)(g:∀x∈l,VC k x)
 (h:ai (bytesOf s) p (cz (l.map nM))) (u1:∀L:List Int,L.length=cn->nQ L->ai (bytesOf s) p (cz L)->L=l.map nM)
 (i:ai (bytesOf s) (p+(cz (l.map nM)).length) (dW k e (there l))) (u2:∀L:List aE,L.length=mM (l.map nM)->(∀x∈L,VK k x)->ai (bytesOf s) (p+(cz (l.map nM)).length) (dW k e L)->L=there l):
 ai (bytesOf s) p (bJ k e l)/\∀L:List aE,L.length=cn->(∀x∈L,VC k x)->ai (bytesOf s) p (bJ k e L)->L=l:=by
 refine⟨by unfold bJ;rw[au];exact⟨h,i⟩,?_⟩;intro L f c a;unfold bJ at a;rw[au] at a;have b:=u1 (L.map nM) (by simpa using f) (yE L) a.1;rw[b] at a;have d:=u2 (there L) (by rw[zJ,b]) (E3 c) a.2;exact Ps L l c g b d
def eY(l:List aE)(x:aE):aH l++[.bool x.null,.int .i64 x.n,.string x.s]=aH (l++[x]):=by rw[jv,mX]
def rM(k:Int)(z:k=1\/k=2\/k=3)(s:ByteArray)(r p cn:Nat)(w:F)(ar:s.size<=Ur)(a9:cn<=100)(a2:p<=s.size)(h:w.heap[r]? =I (cj s p)):
 bG 173 #[(bS r),.int .i64 k,.int .i64 cn] w λe w'=>Kp r w w'/\
  ((∃(l:List aE) (v:U),e= .returned v/\l.length=cn/\(∀x∈l,VK k x)/\ai (bytesOf s) p (aW k l)/\(∀L:List aE,L.length=cn->(∀x∈L,VK k x)->ai (bytesOf s) p (aW k L)->L=l)/\p+(aW k l).length<=s.size/\
    w'.heap[r]? =I (cj s (p+(aW k l).length))/\w'.ownsRow w.heap.size 59 3 v l.length (aH l))\/
   (∃q,e= .panicked (eE q)/\∀L:List aE,L.length=cn->(∀x∈L,VK k x)->¬ai (bytesOf s) p (aW k L))):=by
 obtain⟨H,y,a5,G,a6⟩:=Vg ay.mK;have C:=Uf h;have T:=af h;go_enter ay.func173,Tryz.ntmps173
 go_wp2_with (at_make;refine Wc _ Y _ _ 43 Y w.heap.size 59 H _ 3 ay.underlying43 y a5 G .i64 .i64 _ cn Y Y Y (by rw[a6];omega) (by unfold Ur;omega) (T9 _) ?_;intro J a0 t)
 have O:X (Kp r w J):=(Kp.refl r w).grown t (by simp);have V:X (J.heap[r]? =I (cj s p)):=by show _=_;rw[t.block r C (by simp)];exact T.o
 go_loopw [7,11] (λa7 g wr=>∃l:List aE,g= .int .i64 (l.length:Int)/\a7= .slice (I ⟨w.heap.size,0,K⟩) l.length cn/\AB (aW k) (VK k) (bytesOf s) p cn l/\p+(aW k l).length<=s.size/\wr.heap[r]? =I (cj s (p+(aW k l).length))/\
  wr.ownsRow w.heap.size 59 3 (.slice (I ⟨w.heap.size,0,K⟩) l.length cn) l.length (aH l)/\Kp r w wr) (λ_ g _=>cn-(UT g).toNat)
 case atStart=>exact⟨[],rfl,rfl,AB.zero Y,by simpa [aW] using a2,by simpa [aW] using V.o,a0,O.o⟩
 case round=>
  obtain⟨l,rfl,rfl,o,B,am,az,n⟩:=hrel;have a:=af o;have m:=af am;have c:=af n;have j:=af az;have bb:w.heap.size<=wr.heap.size:=n.size;have ba:=o.le;by_cases f:l.length<cn
  ·go_wp2_with fail
   refine(j5 k z r (p+(aW k l).length) s _ ar B m.o).mono ?_;rintro e i ⟨d,⟨x,rfl,E,D,ap,an⟩|⟨q,rfl,av⟩⟩
   ·have b:=af (c.o.trans d);have a1:=d.own j.o C;have R:X (AB (aW k) (VK k) (bytesOf s) p cn (l++[x])):=a.o.more (e:=λ_ v=>aZ k v) (lV k) f E D (λbd a4 a3=>l8 z a4 E a3 D);have W:X (i.heap[r]? =I (cj s (p+(aW k (l++[x])).length))):=by
     show _=_;rw[lV,Ub,<-U6];exact an
    have Q:X (p+(aW k (l++[x])).length<=s.size):=by
     show _<=_;rw[lV,Ub,<-U6];exact ap
    have bc:=b.o.size
    go_wp2_with (at_builtin;refine VI _ Y _ _ 43 Y w.heap.size 59 H 3 ay.underlying43 y G w.heap.size l.length cn _ Y (a1.alloc _) ⟨i.heap.size,0,K⟩ 1 1 [.bool x.null,.int .i64 x.n,.string x.s] Y Y (by exact ju _ _ _ _ _) (fD x) (by omega) ?_;intro M A u)
    have P:X (Kp r w M):=(b.o.alloc _).grown u (by intro a8 ao;simp at ao;omega);have Z:X (M.heap[r]? =I (cj s (p+(aW k (l++[x])).length))):=by
     show _=_;rw[u.block r (by simp;omega) (by simp;omega),UO i _ r (by omega)];exact W.o
    rw[eY] at A;go_wp2
    go_roundw
    case rel=>exact⟨l++[x],by rw[Ub];rfl,by rw[Ub];rfl,R.o,Q.o,Z.o,by rw[Ub];exact A,P.o⟩
    case measure=>simp[UT];omega
   ·have S:X (∀L:List aE,L.length=cn->(∀x∈L,VK k x)->¬ai (bytesOf s) p (aW k L)):=λL al aw=>a.o.fail (e:=λ_ v=>aZ k v) (lV k) f av L al aw;have b:=af (c.o.trans d);go_wp2;exact⟨rfl,b.o,.inr ⟨q,rfl,S.o⟩⟩
  ·obtain⟨ad,ae⟩:=a.o.done f;have ab:=af ae;have aa:=af a.o.st;have N:=af ad;go_wp2;go_ret;exact⟨c.o,.inl ⟨l,_,rfl,N.o,a.o.Ro,aa.o,ab.o,B,m.o,j.o⟩⟩
def rS (a d:Int):aE:=⟨T8,Vd (a+d),⟨#[]⟩⟩
def E0(a d:Int):VK 1 (rS a d):=⟨rfl,(gL _).1,(gL _).2,λ_=>rfl,λb=>by omega,λb=>by omega⟩
def KL(a:Int)(v:aE)(b:VK 1 v):aL (zz (Vd ((rS a v.n).n-a)))=aZ 1 v:=by
 show aL (zz (Vd (Vd (a+v.n)-a)))=aL (zz v.n);rw[C5 a v.n b.lo b.hi]
def As(s:ByteArray)(r p cn:Nat)(w:F)(a6:s.size<=Ur)(bo:cn<=100)(bc:p<=s.size)(h:w.heap[r]? =I (cj s p)):
 bG 170 #[(bS r),.int .i64 cn] w λe w'=>Kp r w w'/\
  ((∃(l:List aE) (v:U),e= .returned v/\l.length=cn/\(∀x∈l,VK 1 x)/\ai (bytesOf s) p (bR 0 l)/\(∀L:List aE,L.length=cn->(∀x∈L,VK 1 x)->ai (bytesOf s) p (bR 0 L)->L=l)/\p+(bR 0 l).length<=s.size/\
    w'.heap[r]? =I (cj s (p+(bR 0 l).length))/\w'.ownsRow w.heap.size 59 3 v l.length (aH l))\/
   (∃q,e= .panicked (eE q)/\∀L:List aE,L.length=cn->(∀x∈L,VK 1 x)->¬ai (bytesOf s) p (bR 0 L))):=by
 obtain⟨Q,G,bi,P,bj⟩:=Vg ay.mK;have M:r<w.heap.size:=Uf h;have ae:=af h;have br:∀(av z aw:U) (w:F),(Instr.field 59 (.agg #[av,z,aw]) 1).run (aB T5) w= .ok z w:=λ_ _ _ _=>by first|rfl|kernel_rfl
 have i:X (∀(l:List aE) (x:aE),bR 0 (l++[x])=bR 0 l++aL (zz (Vd (x.n-eV 0 l)))):=vz 0;go_enter ay.func170,Tryz.ntmps170
 go_wp2_with (at_make;refine Wc _ Y _ _ 43 Y w.heap.size 59 Q _ 3 ay.underlying43 G bi P .i64 .i64 _ cn Y Y Y (by rw[bj];omega) (by unfold Ur;omega) (T9 _) ?_;intro R ba D)
 have V:X (Kp r w R):=(Kp.refl r w).grown D (by simp);have al:X (R.heap[r]? =I (cj s p)):=by show _=_;rw[D.block r M (by simp)];exact ae.o
 go_loopw [5,6,10] (λbl f o wr=>∃l:List aE,o= .int .i64 (l.length:Int)/\f= .int .i64 (eV 0 l)/\bl= .slice (I ⟨w.heap.size,0,K⟩) l.length cn/\AB (bR 0) (VK 1) (bytesOf s) p cn l/\p+(bR 0 l).length<=s.size/\wr.heap[r]? =I (cj s (p+(bR 0 l).length))/\
  wr.ownsRow w.heap.size 59 3 (.slice (I ⟨w.heap.size,0,K⟩) l.length cn) l.length (aH l)/\Kp r w wr) (λ_ _ o _=>cn-(UT o).toNat)
 case atStart=>exact⟨[],rfl,rfl,rfl,AB.zero Y,by simpa [bR] using bc,by simpa [bR] using al.o,ba,V.o⟩
 case round=>
  obtain⟨l,rfl,rfl,rfl,C,J,a2,a9,B⟩:=hrel;have b:=af C;have y:=af a2;have g:=af B;have u:=af a9;have bt:w.heap.size<=wr.heap.size:=B.size;have bs:=C.le;by_cases m:l.length<cn
  ·go_wp2_with fail
   refine(j5 1 (.inl Y) r (p+(bR 0 l).length) s _ a6 J y.o).mono ?_;rintro e a ⟨j,⟨x,rfl,be,N,a5,a3⟩|⟨q,rfl,a7⟩⟩
   ·have d:X (Kp r w a):=g.o.trans j;have bb:a.ownsRow w.heap.size 59 3 (.slice (I ⟨w.heap.size,0,K⟩) l.length cn) l.length (aH l):=j.own u.o M;have k:=KL (eV 0 l) x be;have ab:X (AB (bR 0) (VK 1) (bytesOf s) p cn (l++[rS (eV 0 l) x.n])):=
     b.o.more (e:=λl v=>aL (zz (Vd (v.n-eV 0 l)))) i.o m (E0 _ _) (by show ai _ _ (aL (zz (Vd ((rS (eV 0 l) x.n).n-eV 0 l))));rw[k];exact N) (λc O n=>Js O (E0 _ _) n (by rw[k];exact N))
    have t:X ((bR 0 (l++[rS (eV 0 l) x.n])).length=(bR 0 l).length+(aZ 1 x).length):=by
     show _=_;rw[i.o,Ub,k]
    have am:X (a.heap[r]? =I (cj s (p+(bR 0 (l++[rS (eV 0 l) x.n])).length))):=by
     show _=_;rw[t.o,<-U6];exact a3
    have Z:X (p+(bR 0 (l++[rS (eV 0 l) x.n])).length<=s.size):=by
     show _<=_;rw[t.o,<-U6];exact a5
    have aa:X (eV 0 (l++[rS (eV 0 l) x.n])=Vd (eV 0 l+x.n)):=yD _ _ _;have ap:X (∀v,v=[WQ T8,.int .i64 (Vd (eV 0 l+x.n)),.string ⟨#[]⟩]->aH l++v=aH (l++[rS (eV 0 l) x.n])):=by
     intro v bd;rw[bd,<-eY];rfl
    have bu:=d.o.size;generalize rS (eV 0 l) x.n=c at*;generalize eV 0 l=f at*;generalize x.n=A at*
    go_wp2_with (at_builtin;refine VI _ Y _ _ 43 Y w.heap.size 59 Q 3 ay.underlying43 G P w.heap.size l.length cn _ Y (bb.alloc _) ⟨a.heap.size,0,K⟩ 1 1 [.bool T8,.int .i64 (Vd (f+A)),.string ⟨#[]⟩] Y Y (by exact ju _ _ _ _ _) (fD ⟨T8,Vd (f+A),⟨#[]⟩⟩) (by omega) ?_;intro S H E)
    have W:X (Kp r w S):=(d.o.alloc _).grown E (by intro bm a4;simp at a4;omega);have an:X (S.heap[r]? =I (cj s (p+(bR 0 (l++[c])).length))):=by
     show _=_;rw[E.block r (by simp;omega) (by simp;omega),UO a _ r (by omega)];exact am.o
    rw[ap.o _ Y] at H;go_wp2
    go_roundw
    case rel=>exact⟨l++[c],by rw[Ub];rfl,by rw[aa.o],by rw[Ub];rfl,ab.o,Z.o,an.o,by rw[Ub];exact H,W.o⟩
    case measure=>simp[UT];omega
   ·have ad:X (∀L:List aE,L.length=cn->(∀x∈L,VK 1 x)->¬ai (bytesOf s) p (bR 0 L)):=λL a1 a8=>b.o.fail (e:=λl v=>aL (zz (Vd (v.n-eV 0 l)))) i.o m (λc O n=>a7 ⟨T8,Vd (c.n-eV 0 l),⟨#[]⟩⟩ ⟨rfl,(gL _).1,(gL _).2,λ_=>rfl,λh=>by omega,λh=>by omega⟩ n) L a1 a8;have d:X (Kp r w a):=g.o.trans j;go_wp2;exact⟨rfl,d.o,.inr ⟨q,rfl,ad.o⟩⟩
  ·obtain⟨az,a0⟩:=b.o.done m;have ar:=af a0;have ao:=af b.o.st;have T:=af az;go_wp2;go_ret;exact⟨g.o,.inl ⟨l,_,rfl,T.o,b.o.Ro,ao.o,ar.o,J,y.o,u.o⟩⟩
def BI (z:Int):aE:=⟨T8,z,⟨#[]⟩⟩
def C3(c:U)(b:List Int)(w:F)(S:b.length<=100)(G:rB w c b):
 bG 172 #[c] w λe w'=>aP w w'/\∃v,e= .returned v/\w'.ownsRow w.heap.size 59 3 v b.length (aH (b.map BI)):=by
 obtain⟨n,k,H,m,J⟩:=Vg ay.mK;obtain⟨N,i,o,O,rfl,u,x,y⟩:=G;have q:=af y;go_enter ay.func172,Tryz.ntmps172
 go_wp2_with (at_make;refine Wc _ Y _ _ 43 Y w.heap.size 59 n _ 3 ay.underlying43 k H m .i64 .i64 _ b.length Y Y Y (by rw[J];omega) (by unfold Ur;omega) (T9 _) ?_;intro L D B)
 have r:X (aP w L):=(Uq _ _).grown B (T9 _) (by simp)
 go_loopw [3,11] (λc h wr=>∃a:Nat,a<=b.length/\h= .int .i64 (a:Int)/\c= .slice (I ⟨w.heap.size,0,K⟩) a b.length/\wr.ownsRow w.heap.size 59 3 (.slice (I ⟨w.heap.size,0,K⟩) a b.length) a (aH ((b.take a).map BI))/\aP w wr) (λ_ h _=>b.length-(UT h).toNat)
 case atStart=>exact⟨0,UF _,rfl,rfl,by simpa [aH] using D,r.o⟩
 case round=>
  obtain⟨a,R,rfl,rfl,g,j⟩:=hrel;have d:=af j;have E:=j.size;by_cases f:a<b.length
  ·obtain rfl:=u (by omega);have z:=x (by omega);have Q:bU wr i (o+a) (.int .i64 (b.getD a 0)):=(d.o.cell (p:=⟨i,o+a,K⟩) z).trans (q.o a f);have t:X (aH ((b.take a).map BI)++[.bool T8,.int .i64 (b.getD a 0),.string ⟨#[]⟩]=aH ((b.take (a+1)).map BI)):=by
    show _=_;rw[Up f,U1,Wq,<-eY,fj f];rfl
   generalize b.getD a 0=p at*
   go_wp2_with (at_builtin;refine VI _ Y _ _ 43 Y w.heap.size 59 n 3 ay.underlying43 k m w.heap.size a b.length _ Y (g.alloc _) ⟨wr.heap.size,0,K⟩ 1 1 [.bool T8,.int .i64 p,.string ⟨#[]⟩] Y Y (by exact ju _ _ _ _ _) (fD ⟨T8,p,⟨#[]⟩⟩) (by omega) ?_;intro M l C)
   have s:X (aP w M):=(d.o.alloc E _).grown C (by simp;omega) (by intro P A;simp at A;omega);rw[t.o] at l;go_wp2
   go_roundw
   case rel=>exact⟨a+1,by omega,by go_num,rfl,l,s.o⟩
   case measure=>simp[UT];omega
  ·obtain rfl:a=b.length:=by omega
   rw[Vh] at g;go_wp2;go_ret;exact⟨d.o,_,rfl,g⟩
def Is(a:List Int):mM a<=a.length:=List.length_filter_le _ _
def qK(a:List Int)(d:nQ a)(k:Nat)(b:k<a.length):((mM (a.take (k+1)):Nat):Int)=(mM (a.take k):Nat)+a.getD k 0:=by
 rw[Up b,fj b];unfold mM;rw[List.filter_append,Ub];rcases d _ (Uk b) with c|c<;>simp[c]
def Ab(k:U)(b:List Int)(w:F)(A:b.length<=100)(g:nQ b)(r:rB w k b):
 bG 166 #[k] w λe w'=>e= .returned (.int .i64 ((mM b:Nat):Int))/\w'=w:=by
 obtain⟨s,t,C,u,rfl,p,v,f⟩:=r;have l:=af f;have m:X (∀a,a<b.length->((mM (b.take (a+1)):Nat):Int)=(mM (b.take a):Nat)+b.getD a 0):=λa h=>qK b g a h;have d:X (∀a,mM (b.take a)<=a):=λa=>by have:=Is (b.take a);rw[Vt] at this;omega
 clear f g;go_enter ay.func166,Tryz.ntmps166
 go_wp2_with fail
 go_loopw [3,8] (λo c wr=>∃a:Nat,a<=b.length/\c= .int .i64 (a:Int)/\o= .int .i64 ((mM (b.take a):Nat):Int)/\wr=w) (λ_ c _=>b.length-(UT c).toNat)
 case atStart=>exact⟨0,UF _,rfl,by simp[mM],rfl⟩
 case round=>
  obtain⟨a,h,rfl,rfl,rfl⟩:=hrel;by_cases i:a<b.length
  ·obtain rfl:=p (by omega);have x:=l.o a i;have q:=m.o a i;have y:=d.o a;have z:=d.o (a+1);generalize b.getD a 0=E at*;generalize mM (b.take a)=B at*;generalize j:mM (b.take (a+1))=D at*;have n:=af j;clear j;go_wp2
   go_roundw
   case rel=>exact⟨a+1,by omega,by go_num,by rw[n.o,q],by trivial⟩
   case measure=>simp[UT];omega
  ·obtain rfl:a=b.length:=by omega
   rw[Vh];go_wp2;go_ret;exact⟨rfl,rfl⟩
def Dy{ps:List Nat}{k:Nat}(h:lO 0 (ps.take k)=K):lO 0 ps=K:=by rw[uk ps k,h];rfl
def OE{ps:List Nat}{k t n:Nat}(h:lO 0 (ps.take k)=I t)(b:n<t):lO 0 ps≠I n:=by
 rw[uk ps k,h];intro a;have:=xV (show lO t (ps.drop k)=I n from a);omega
def wK(s:ByteArray)(r p n:Nat)(z:U)(ps:List Nat)(w:F)(S:n<=100)(R:ps.length<=100)(D:∀q∈ps,q<65536)(H:rB w z (jV ps))(h:w.heap[r]? =I (cj s p)):
 bG 178 #[(bS r),z,.int .i64 n] w λe w'=>w'=w/\((e= .returned (.tuple #[])/\lO 0 ps=I n)\/(∃q,e= .panicked (eE q)/\lO 0 ps≠I n)):=by
 have v:=af h;obtain⟨L,B,J,M,rfl,x,C,y⟩:=H;have i:(jV ps).length=ps.length:=by simp[jV]
 rw[i] at x C ⊢;have A:X (∀f,(m:f<ps.length)->bU w B (J+f) (.int .i64 (ps[f]:Int))):=λf m=>by
  have:=y f (by rw[i];exact m);rw[fj (by rw[i];exact m)] at this;simpa [jV] using this
 clear y h i;go_enter ay.func178,Tryz.ntmps178
 go_wp2_with fail
 go_loopw [6,11] (λK t wr=>∃a b:Nat,a<=ps.length/\t= .int .i64 (a:Int)/\K= .int .i64 (b:Int)/\b<=n/\lO 0 (ps.take a)=I b/\wr=w) (λ_ t _=>ps.length-(UT t).toNat)
 case atStart=>exact⟨0,0,UF _,rfl,rfl,UF _,rfl,rfl⟩
 case round=>
  obtain⟨a,b,Q,rfl,rfl,G,d,rfl⟩:=hrel;have j:=af d;clear d;by_cases o:a<ps.length
  ·obtain rfl:=x (by omega);have P:=A.o a o;have g:=af (z6 ps a o j.o);have V:=D _ (Uk o);generalize ps[a]=q at*;by_cases O:b<q\/n<=q
   ·have k:X (lO 0 ps≠I n):=by
     by_cases N:b<q
     ·have c:=g.o;rw[if_neg (by omega),if_neg (by omega)] at c;show _≠_;rw[Dy c];simp
     ·have c:=g.o;rw[if_neg (by omega),if_pos (by omega)] at c;exact OE c (by omega)
    go_wp2_with (go_at_call 97;refine(b9 r p s _ v.o).mono ?_;rintro e w' ⟨rfl,rfl⟩)
    all_goals exact⟨rfl,rfl,.inr ⟨_,rfl,k.o⟩⟩
   ·by_cases E:q=b
    ·subst E;have l:X (lO 0 (ps.take (a+1))=I (q+1)):=by
      have c:=g.o;rw[if_neg (by omega),if_pos Y] at c;exact c
     go_wp2
     go_roundw
     case rel=>exact⟨a+1,q+1,by omega,by go_num,by go_num,by omega,l.o,by trivial⟩
     case measure=>simp[UT];omega
    ·have l:X (lO 0 (ps.take (a+1))=I b):=by
      have c:=g.o;rw[if_pos (by omega)] at c;exact c
     have T:((q:Int)==(b:Int))=T8:=by simp;omega
     go_wp2
     go_roundw
     case rel=>exact⟨a+1,b,by omega,by go_num,rfl,G,l.o,by trivial⟩
     case measure=>simp[UT];omega
  ·obtain rfl:a=ps.length:=by omega
   have d:=j.o;rw[Vh] at d;have u:=af d;clear d j;by_cases W:b<n
   ·have k:X (lO 0 ps≠I n):=by
     show _≠_;rw[u.o];simp;omega
    go_wp2_with (go_at_call 97;refine(b9 r p s _ v.o).mono ?_;rintro e w' ⟨rfl,rfl⟩)
    exact⟨rfl,rfl,.inr ⟨_,rfl,k.o⟩⟩
   ·obtain rfl:b=n:=by omega
    go_wp2
    go_end0
    exact⟨rfl,.inl ⟨rfl,u.o⟩⟩
def kC{k:Int}{s:ByteArray}{p cn:Nat}{L:List aE}(m:cn<=100)(hL:L.length=cn)(i:∀x∈L,VK k x)(a:ai (bytesOf s) p (ez k L)):
 ∃(d:List aE) (ps:List Nat),d.length<=cn/\(∀x∈d,VK k x)/\d.Nodup/\ps.length=cn/\lO 0 ps=I d.length/\ai (bytesOf s) p (aL d.length)/\ai (bytesOf s) (p+(aL d.length).length) (aW k d)/\
  ai (bytesOf s) (p+(aL d.length).length+(aW k d).length) (cK (wid d.length) ps):=by
 obtain⟨c,e,l⟩:=vA L ⟨T8,0,⟨#[]⟩⟩;obtain⟨f,g,h,b⟩:=pR L L.length (T9 _);rw[Vh] at f g h b;unfold ez at a;rw[au,au] at a;exact⟨(dfold L).1,(dfold L).2,by omega,λx j=>i x (b x j),c,by omega,e,a.1,a.2.1,a.2.2⟩
def wR(k:Int)(a0:k=1\/k=2\/k=3)(s:ByteArray)(r p cn:Nat)(w:F)(a2:s.size<=Ur)(G:cn<=100)(b2:p<=s.size)(h:w.heap[r]? =I (cj s p)):
 bG 176 #[(bS r),.int .i64 k,.int .i64 cn] w λe w'=>Kp r w w'/\
  ((∃(d:List aE) (v:U),e= .returned v/\d.length<=cn/\(∀x∈d,VK k x)/\d.Nodup/\ai (bytesOf s) p (aL d.length)/\ai (bytesOf s) (p+(aL d.length).length) (aW k d)/\
    (∀D:List aE,D.length=d.length->(∀x∈D,VK k x)->ai (bytesOf s) (p+(aL d.length).length) (aW k D)->D=d)/\p+(aL d.length).length+(aW k d).length<=s.size/\
    w'.heap[r]? =I (cj s (p+(aL d.length).length+(aW k d).length))/\w'.ownsRow w.heap.size 59 3 v d.length (aH d))\/
   (∃q,e= .panicked (eE q)/\∀L:List aE,L.length=cn->(∀x∈L,VK k x)->¬ai (bytesOf s) p (ez k L))):=by
 have cv:=Uf h;have ba:=af h;have cs:= @run_makeMap (aB T5);go_enter ay.func176,Tryz.ntmps176
 go_wp2_with fail
 refine(jL r p s _ a2 b2 ba.o).mono ?_;rintro e c3 ⟨S,⟨b,rfl,b0,b3,bx,bi⟩|⟨q,rfl,W⟩⟩
 ·have y:=af S;have C:=af b3;have ae:=af bi;have K:=af b0;have a5:=S.size;by_cases ck:cn<b
  ·have f:X (∀L:List aE,L.length=cn->(∀x∈L,VK k x)->¬ai (bytesOf s) p (ez k L)):=by
    intro L j l m;obtain⟨d,Z,O,A,E,P,Q,g,i,R⟩:=kC G j l m;have:=cB (by omega) (by have:=K.o;omega) g C.o;omega
   go_wp2_with (go_at_call 97;refine(b9 r _ s _ ae.o).mono ?_;rintro e w' ⟨rfl,rfl⟩)
   exact⟨rfl,y.o,.inr ⟨_,rfl,f.o⟩⟩
  ·go_wp2_with fail
   refine(rM k a0 s r (p+(aL b).length) b _ a2 (by omega) bx ae.o).mono ?_;rintro e c ⟨aw,⟨d,v,rfl,bt,bs,b4,b5,bA,bj,a3⟩|⟨q,rfl,W⟩⟩
   ·subst bt;have aa:=af bs;have bb:=af b4;have ao:=af b5;have al:=af bj;have z:=af (y.o.trans aw);have a8:=af (bL a3 a5);obtain⟨cc,cd,cR,cf,rfl,u⟩:=rZ.bN a3;have bc:=af u;have t:=World.ownsMap_made c (aB T5) 59 (plainElem (H:=Unit) (aB T5) 3);have cx:=z.o.size
    go_wp2_with fail
    go_loopw [28] (λJ wr=>∃(a b:Nat) (D:DataW Unit),a<=d.length/\b<=a/\J= .int .i64 (a:Int)/\(d.take a).Nodup/\wr.ownsMap (aB T5) 59 (plainElem (H:=Unit) (aB T5) 3) c.heap.size b D/\Knows D (d.take a)/\aP c wr) (λJ _=>d.length-(UT J).toNat)
    case atStart=>exact⟨0,0,.map [],UF _,T9 _,rfl,by simp,t,by simpa using Knows.empty,(Uq _ _).alloc (T9 _) _⟩
    case round=>
     obtain⟨a,b,D,co,cu,rfl,H,t,a1,T⟩:=hrel;have n:=af T;have a4:c.heap.size<=wr.heap.size:=T.size;have a5:c.heap.size+1<=wr.heap.size:=by have:=t.lt;omega
     have ad:X (d.take a).Nodup:=H;by_cases o:a<d.length
     ·have u:=bc.o.below T;obtain rfl:=u.addr (by omega);have c0:=u.c0 a o;have c1:=u.c1 a o;have c2:=u.c2 a o;have N:X (pu d[a]):=(aa.o _ (Uk o)).ok a0;have V:=B8 d[a] N.o;have a7:=af a1;have ab:=a1.has d[a] N.o;have am:X ((d.take a).length=a):=by show _=_;rw[Vt];omega
      have an:=af (Up o);by_cases B:idx (d.take a) d[a]<(d.take a).length
      ·have f:X (∀L:List aE,L.length=cn->(∀x∈L,VK k x)->¬ai (bytesOf s) p (ez k L)):=by
        intro L j l m;obtain⟨bd,Z,O,A,E,P,Q,g,i,R⟩:=kC G j l m;have ar:=cB (by omega) (by have:=K.o;omega) g C.o;rw[ar] at i;have be:=ao.o bd ar A i;subst be;have bB:=(sW _ _).1 B;obtain⟨J,cl,av⟩:=Vw bB;rw[VG] at av;have ci:=am.o;have:=uD E (by omega) o av;omega
       rw[decide_eq_true B] at ab;generalize d[a]=x at*
       go_wp2_with (first
        |(at_lookup;refine wpList_lookup_own_ok_int _ Y _ _ 229 Y 59 3 .i64 Gd ay.underlying229 ay.underlying3 (IU _) c.heap.size b D Y (t.alloc _) _ _ Y V ?_;intro ap bo b6)
        |(go_at_call 97;refine(b9 r _ s _ (by rw[UO _ _ r (by omega),n.o.block r (by omega)];exact al.o)).mono ?_;rintro e w' ⟨rfl,rfl⟩))
       exact⟨rfl,z.o.trans (Kp.ct (n.o.alloc a4 _)),.inr ⟨_,rfl,f.o⟩⟩
      ·rw[decide_eq_false B] at ab;have M:X (d.take (a+1)).Nodup:=by
        show List.Nodup _;rw[an.o,List.nodup_append];refine⟨ad.o,by simp,?_⟩;intro cb bl ap az e;simp at az;subst az;subst e;exact B ((sW _ _).2 bl)
       have a9:X (Knows (D.put (kl d[a]) (.lit (.int .i64 (a:Int)))) (d.take (a+1))):=by
        have:=a7.o.put d[a] N.o B;rw[am.o] at this;show Knows _ _;rw[an.o];exact this
       have cp:I wr.heap.size≠I c.heap.size:=by simp;omega
       have bm:∀a6:Xx,(wr.alloc a6).heap.size=wr.heap.size+1:=λa6=>by simp
       generalize d[a]=x at*
       go_wp2_with (first
        |(at_lookup;refine wpList_lookup_own_ok_int _ Y _ _ 229 Y 59 3 .i64 Gd ay.underlying229 ay.underlying3 (IU _) c.heap.size b D Y (t.alloc _) _ _ Y V ?_;intro ap bo b6)
        |(at_mapUpdate;refine wpList_mapUpdate_own _ Y _ _ _ 229 Y 59 3 Gd ay.underlying229 _ c.heap.size b D Y (t.alloc _) ?_ _ _ _ Y Y V _ [] (plainElem_int ay.underlying3 (wf_i64 _ (by omega) (by omega))) ?_;(unfold Ur;omega);intro ca b1 bv))
       have br:aP c ca:=(n.o.alloc a4 _).grown bv (by rw[bm];omega) (λch bu=>by cases bu;exact T9 _);refine⟨⟨a+1,b+1,_,by omega,by omega,by simp,M.o,b1,a9.o,br⟩,by simp[UT];omega⟩
     ·obtain rfl:a=d.length:=by omega
      have H:=ad.o;rw[Vh] at H;have M:X d.Nodup:=H;go_wp2;go_ret;exact⟨z.o.trans (Kp.ct n.o),.inl ⟨d,_,rfl,by omega,aa.o,M.o,C.o,bb.o,ao.o,bA,by rw[n.o.block r (by omega)];exact al.o,aK a8.o n.o⟩⟩
   ·have f:X (∀L:List aE,L.length=cn->(∀x∈L,VK k x)->¬ai (bytesOf s) p (ez k L)):=by
     intro L j l m;obtain⟨d,Z,O,A,E,P,Q,g,i,R⟩:=kC G j l m;have:=cB (by omega) (by have:=K.o;omega) g C.o;rw[this] at i;exact W d this A i
    have z:=af (y.o.trans aw);go_wp2;exact⟨rfl,z.o,.inr ⟨q,rfl,f.o⟩⟩
 ·have f:X (∀L:List aE,L.length=cn->(∀x∈L,VK k x)->¬ai (bytesOf s) p (ez k L)):=by
   intro L j l m;obtain⟨d,Z,O,A,E,P,Q,g,i,R⟩:=kC G j l m;exact W d.length (by omega) g
  have y:=af S;go_wp2;exact⟨rfl,y.o,.inr ⟨q,rfl,f.o⟩⟩
def Mj(d:List aE)(z:aE)(q:Nat)(h:q<d.length):d.getD q z=d[q]:=by simp[Yx,h]
def Ct(k:Int)(b2:k=1\/k=2\/k=3)(s:ByteArray)(r p cn:Nat)(w:F)(b4:s.size<=Ur)(Q:cn<=100)(cc:p<=s.size)(h:w.heap[r]? =I (cj s p)):
 bG 171 #[(bS r),.int .i64 k,.int .i64 cn] w λe w'=>Kp r w w'/\
  ((∃(l:List aE) (v:U),e= .returned v/\l.length=cn/\(∀x∈l,VK k x)/\ai (bytesOf s) p (ez k l)/\(∀L:List aE,L.length=cn->(∀x∈L,VK k x)->ai (bytesOf s) p (ez k L)->L=l)/\p+(ez k l).length<=s.size/\
    w'.heap[r]? =I (cj s (p+(ez k l).length))/\w'.ownsRow w.heap.size 59 3 v l.length (aH l))\/
   (∃q,e= .panicked (eE q)/\∀L:List aE,L.length=cn->(∀x∈L,VK k x)->¬ai (bytesOf s) p (ez k L))):=by
 obtain⟨cx,g,d8,cp,d9⟩:=Vg ay.mK;have d5:r<w.heap.size:=Uf h;have a9:=af h;clear h;go_enter ay.func171,Tryz.ntmps171
 go_wp2_with fail
 refine(wR k b2 s r p cn _ b4 Q cc a9.o).mono ?_;rintro e c0 ⟨O,⟨c,v,rfl,d1,bA,b5,cf,ch,ck,b3,bv,av⟩|⟨q,rfl,i⟩⟩
 ·have y:=af O;have aa:=af cf;have dl:=af ch;have ab:=af ck;have ba:=af bv;have c5:=af bA;have dd:X c.Nodup:=b5;have a8:=af av;have e0:=O.size;obtain⟨e4,gQ,rfl⟩:=uH av;have H:=af b3;generalize bu:p+(aL c.length).length+(aW k c).length=f at*;have G:=af bu;have ds:X (∀w,bG 158 #[.int .i64 (c.length:Int)] w λe w'=>e= .returned (.int .i64 (wid c.length))/\w'=w):=λw=>wu c.length (by omega) w;clear O cf ch ck bv bA b5 av a9 bu b3;have co:=vm c.length
  go_wp2_with (go_at_call 158;refine(ds.o _).mono ?_;rintro e w' ⟨rfl,o⟩;rw[o];clear o w')
  refine(zb s r f (wid c.length) cn _ b4 (by omega) Q H.o ba.o).mono ?_;rintro e d ⟨P,⟨rfl,A,bx,b6⟩|⟨q,rfl,i⟩⟩
  ·have dp:=af (Aq s f _ cn H.o A);have dq:X (∀b:List Nat,b.length=cn->(∀x∈b,x<2^wid c.length)->ai (bytesOf s) f (cK (wid c.length) b)->b=D (wid c.length) (eH s f) cn):=by
    intro b N bs dO;have:=(lU s f _ b H.o bs dO).2;rw[N] at this;exact this.symm
   have aw:(D (wid c.length) (eH s f) cn).length=cn:=px _ _ _;have cd:∀q∈D (wid c.length) (eH s f) cn,q<65536:=λq B=>by
    have N:=QK _ _ _ q B;have bs:2^wid c.length<=2^7:=VP (by omega) co;omega
   generalize D (wid c.length) (eH s f) cn=b at*;have S:(jV b).length=cn:=by rw[<-aw];simp[jV]
   have z:=af aw;have dk:=af cd;have Z:X (rB d (.slice (I ⟨c0.heap.size,0,K⟩) cn cn) (jV b)):=rB.bN (by rw[S];exact b6);have C:=af (y.o.trans P);have df:=af (P.own a8.o d5);have bb:=af bx;have d7:=C.o.size;clear P bx b6 A y a8 ba aw cd S;generalize bt:f+(cn*wid c.length+7)/8=bi at*;have dc:=af bt;clear bt co
   go_wp2_with fail
   refine(wK s r bi c.length _ b _ (by omega) (by rw[z.o];omega) dk.o Z.o bb.o).mono ?_;rintro e w' ⟨o,⟨rfl,n⟩|⟨q,rfl,i⟩⟩
   ·rw[o];clear o w';have en:=af n;have a7:X _:=Ju b2 (s:=s) (p:=p) (cn:=cn) (n:=c.length) (d:=c) (ps:=b) ⟨T8,0,⟨#[]⟩⟩ Q d1 Y c5.o dd.o z.o n aa.o dl.o (by rw[G.o];exact dp.o) ab.o (by rw[G.o];exact H.o);have db:X (∀a,(g:a<b.length)->b[a]<c.length):=λa g=>uj n _ (Uk g);clear n;have bd:=af (rZ.bN df.o);obtain⟨e1,V,W,e2,cs,a1,a2,a3⟩:=Z.o;simp only[VB] at cs;obtain⟨cu,cv,ea⟩:=cs;rw[<-cv] at a1 a2 a3;have c8:X (∀a,(g:a<b.length)->bU d V (W+a) (.int .i64 (b[a]:Int))):=λa g=>by
     have N:=a3 a (by rw[<-z.o];exact g);have S:(jV b).length=b.length:=by simp[jV]
     rw[fj (by rw[S];exact g)] at N;simpa [jV] using N
    have c7:=af a2;have c6:X (0<cn->(I (⟨c0.heap.size,0,K⟩:UK))=I ⟨V,W,K⟩):=λdE=>by rw[cu];exact a1 dE
    obtain⟨eo,eq,e3,er,cR,cl⟩:=bd.o;simp only[VB] at cR;obtain⟨rfl,_,rfl⟩:=cR;have dr:=af cl;clear a1 a2 a3 cl bd Z cu cv ea
    go_wp2_with (at_make;refine Wc _ Y _ _ 43 Y d.heap.size 59 cx _ 3 ay.underlying43 g d8 cp .i64 .i64 _ cn Y Y Y (by rw[d9];omega) (by unfold Ur;omega) (T9 _) ?_;intro el ca b0)
    have a6:X (aP d el):=(Uq _ _).grown b0 (T9 _) (by simp);clear b0
    go_loopw [9,31] (λeb a0 wr=>∃a:Nat,a<=cn/\a0= .int .i64 (a:Int)/\eb= .slice (I ⟨d.heap.size,0,K⟩) a cn/\wr.ownsRow d.heap.size 59 3 (.slice (I ⟨d.heap.size,0,K⟩) a cn) a (aH ((b.take a).map λq=>c.getD q ⟨T8,0,⟨#[]⟩⟩))/\aP d wr) (λ_ a0 _=>cn-(UT a0).toNat)
    case atStart=>exact⟨0,UF _,rfl,rfl,by simpa [aH] using ca,a6.o⟩
    case round=>
     clear ca a6;obtain⟨a,et,rfl,rfl,T,ao⟩:=hrel;have u:=af ao;have d6:=ao.size;clear ao;by_cases d4:a<cn
     ·have ar:a<b.length:=by rw[z.o];exact d4
      have B:=db.o a ar;have bB:=c6.o (by omega);have d3:=c7.o (by omega);have n:bU wr V (W+a) (.int .i64 (b[a]:Int)):=(u.o.cell (p:=⟨V,W+a,K⟩) d3).trans (c8.o a ar);have R:=dr.o.below u.o;obtain rfl:=R.addr (by omega);have ec:=R.c0 b[a] B;have ee:=R.c1 b[a] B;have ef:=R.c2 b[a] B;have bc:X (∀x:aE,c[b[a]]=x->aH ((b.take a).map λq=>c.getD q ⟨T8,0,⟨#[]⟩⟩)++[.bool x.null,.int .i64 x.n,.string x.s]=aH ((b.take (a+1)).map λq=>c.getD q ⟨T8,0,⟨#[]⟩⟩)):=by
       intro x t;rw[Up ar,U1,Wq,<-eY,Mj c _ _ B,t]
      simp only[U9,Wi] at bB;obtain⟨dT,d0,_⟩:=bB;subst dT;subst d0;rw[UU] at n;generalize t:c[b[a]]=x at*;have be:=bc.o x Y;have dt:=af be;clear be bc t R;generalize b[a]=q at*
      go_wp2_with (at_builtin;refine VI _ Y _ _ 43 Y d.heap.size 59 cx 3 ay.underlying43 g cp d.heap.size a cn _ Y (T.alloc _) ⟨wr.heap.size,0,K⟩ 1 1 [.bool x.null,.int .i64 x.n,.string x.s] Y Y (by exact ju _ _ _ _ _) (fD x) (by omega) ?_;intro em cb b1)
      have c4:X (aP d em):=(u.o.alloc d6 _).grown b1 (by simp;omega) (by intro es d2;simp at d2;omega);rw[dt.o] at cb;clear T b1 u n ec ee ef;go_wp2
      go_roundw
      case rel=>exact⟨a+1,by omega,by go_num,rfl,cb,c4.o⟩
      case measure=>simp[UT];omega
     ·obtain rfl:a=cn:=by omega
      have ci:b.take a=b:=UP (by rw[z.o];omega);rw[ci] at T;obtain⟨bj,bl,bm,bo,br⟩:=a7.o;have a4:=af bj;have c1:=af bl;have c2:=af bm;have a5:=af bo;have c3:=af br;clear bj bl bm bo br a7 ci;have c9:X (p+(ez k (b.map λq=>c.getD q ⟨T8,0,⟨#[]⟩⟩)).length=bi):=by
       show _=_;rw[c2.o,Ub,Ub,fc,z.o,<-U6,<-U6,G.o,dc.o]
      have da:X (p+(ez k (b.map λq=>c.getD q ⟨T8,0,⟨#[]⟩⟩)).length<=s.size):=by
       have:=gK a5.o (by rw[aj];exact cc);rwa [aj] at this
      generalize eQ:(b.map λq=>c.getD q ⟨T8,0,⟨#[]⟩⟩)=l at*;go_wp2;go_ret;exact⟨C.o.trans (Kp.ct u.o),.inl ⟨l,_,rfl,a4.o,c1.o,a5.o,c3.o,da.o,by rw[c9.o,u.o.block r (by omega)];exact bb.o,by rw[a4.o];exact bL T d7⟩⟩
   ·have E:X (∀L:List aE,L.length=cn->(∀x∈L,VK k x)->¬ai (bytesOf s) p (ez k L)):=by
     intro L ap A az;obtain⟨ad,eh,dv,al,dC,am,j,an,M,m⟩:=kC Q ap A az;have J:=cB (by omega) (by omega) an aa.o;rw[J] at M m j;have ae:=ab.o ad J al M;rw[ae,G.o] at m;have du:=dq.o eh am (λx t=>tM _ (by omega) x (uj j x t)) m;rw[du] at j;exact i j
    rw[o];clear i o w';go_wp2;exact⟨rfl,C.o,.inr ⟨q,rfl,E.o⟩⟩
  ·have E:X (∀L:List aE,L.length=cn->(∀x∈L,VK k x)->¬ai (bytesOf s) p (ez k L)):=by
    intro L ap A az;obtain⟨ad,b,dv,al,dC,am,j,an,M,m⟩:=kC Q ap A az;have J:=cB (by omega) (by omega) an aa.o;rw[J] at M m j;have ae:=ab.o ad J al M;rw[ae,G.o] at m;have:=(lU s f (wid c.length) b H.o (λx t=>tM _ (by omega) x (uj j x t)) m).1;rw[am] at this;exact i this
   have C:=af (y.o.trans P);clear i P y;go_wp2;exact⟨rfl,C.o,.inr ⟨q,rfl,E.o⟩⟩
 ·have E:=af i;have y:=af O;clear i O;go_wp2;exact⟨rfl,y.o,.inr ⟨q,rfl,E.o⟩⟩
def I8(L:List aE)(d:∀x∈L,VK 2 x):(L.map aE.n).map BI=L:=by
 rw[List.map_map]
 conv=>rhs;rw[<-List.map_id L]
 apply List.map_congr_left;intro x e;have a:=d x e;have b:=a.there;have c:=(a.s2 Y).2;cases x;simp at b c;simp[BI,b,c]
def r7(a:List Int):(a.map BI).map aE.n=a:=by
 rw[List.map_map]
 conv=>rhs;rw[<-List.map_id a]
 rfl
def Ov(b:List Int)(h:nQ b):∀x∈b.map BI,VK 2 x:=by
 intro x d;obtain⟨a,e,rfl⟩:=U8.1 d;have c:=h a e;exact⟨rfl,by show _<=a;omega,by show a<=_;omega,λh=>by omega,λ_=>⟨c,rfl⟩,λh=>by omega⟩
def Fa(L:List aE)(a:∀x∈L,VK 2 x):nQ (L.map aE.n):=by
 intro d c;obtain⟨x,b,rfl⟩:=U8.1 c;exact((a x b).s2 Y).1
def Reads(s:ByteArray)(r p cn:Nat)(k:Int)(E:List aE->List Nat)(w:F)(e:Ending)(w':F):Prop:=Kp r w w'/\
 ((∃(b:List aE) (v:U),e= .returned v/\b.length=cn/\(∀c∈b,VK k c)/\ai (bytesOf s) p (E b)/\(∀a:List aE,a.length=cn->(∀c∈a,VK k c)->ai (bytesOf s) p (E a)->a=b)/\p+(E b).length<=s.size/\
   w'.heap[r]? =I (cj s (p+(E b).length))/\w'.ownsRow w.heap.size 59 3 v b.length (aH b))\/
  (∃d,e= .panicked (eE d)/\∀a:List aE,a.length=cn->(∀c∈a,VK k c)->¬ai (bytesOf s) p (E a)))
def wS(k e:Int)(A:bI k e=Z)(s:ByteArray)(r p cn:Nat)(w:F)(o:s.size<=Ur)(l:cn<=100)(t:p<=s.size)(h:w.heap[r]? =I (cj s p)):
 bG 165 #[(bS r),.int .i64 k,.int .i64 e,.int .i64 cn] w λx w'=>Reads s r p cn k (dW k e) w x w':=by
 obtain⟨G,R⟩:=AQ A;have al:=Uf h;have n:=af h;rcases R with rfl|rfl|rfl|rfl
 ·have i:∀a,dW k 0 a=aW k a:=λa=>rfl;have c:X (dW k 0=aW k):=funext i;go_enter ay.func165,Tryz.ntmps165
  go_wp2_with fail
  refine(rM k G s r p cn _ o l t n.o).mono ?_;intro x j g;have f:X (Reads s r p cn k (dW k 0) w x j):=by
   show Reads _ _ _ _ _ _ _ _ _;rw[c.o];exact g
  rcases g with⟨b,⟨a,v,rfl,_⟩|⟨u,rfl,_⟩⟩
  ·clear b;go_wp2;go_ret;exact f.o
  ·clear b;go_wp2;exact⟨rfl,f.o⟩
 ·have B:k=1:=by simp[bI] at A;omega
  subst B;have i:∀a,dW 1 1 a=bR 0 a:=λa=>rfl;have c:X (dW 1 1=bR 0):=funext i;go_enter ay.func165,Tryz.ntmps165
  go_wp2_with fail
  refine(As s r p cn _ o l t n.o).mono ?_;intro x j g;have f:X (Reads s r p cn 1 (dW 1 1) w x j):=by
   show Reads _ _ _ _ _ _ _ _ _;rw[c.o];exact g
  rcases g with⟨b,⟨a,v,rfl,_⟩|⟨u,rfl,_⟩⟩
  ·clear b;go_wp2;go_ret;exact f.o
  ·clear b;go_wp2;exact⟨rfl,f.o⟩
 ·have i:∀a,dW k 2 a=ez k a:=λa=>rfl;have c:X (dW k 2=ez k):=funext i;go_enter ay.func165,Tryz.ntmps165
  go_wp2_with fail
  refine(Ct k G s r p cn _ o l t n.o).mono ?_;intro x j g;have f:X (Reads s r p cn k (dW k 2) w x j):=by
   show Reads _ _ _ _ _ _ _ _ _;rw[c.o];exact g
  rcases g with⟨b,⟨a,v,rfl,_⟩|⟨u,rfl,_⟩⟩
  ·clear b;go_wp2;go_ret;exact f.o
  ·clear b;go_wp2;exact⟨rfl,f.o⟩
 ·have B:k=2:=by simp[bI] at A;omega
  subst B;have i:∀a,dW 2 3 a=cz (a.map aE.n):=λa=>rfl;have c:=af i;go_enter ay.func165,Tryz.ntmps165
  go_wp2_with fail
  refine(tB s r p cn _ o l t n.o).mono ?_;rintro x j ⟨b,⟨C,v,rfl,ad,ab,W,aa,S,P,U⟩|⟨u,rfl,T⟩⟩
  ·have y:=af b;have O:=af ab;have M:=af W;have N:=af aa;have L:=af P;have H:=af (rB.bN U);have E:=af ad;have Y:=b.size
   go_wp2_with fail
   refine(C3 v C _ (by rw[E.o];exact l) H.o).mono ?_;rintro x am ⟨Q,ae,rfl,V⟩;have D:=af Q;have K:=af V;go_wp2;go_ret;refine⟨y.o.trans (Kp.ct D.o),.inl ⟨C.map BI,ae,rfl,by rw[UH];exact E.o,Ov C O.o,?_,?_,?_,?_,?_⟩⟩
   ·rw[c.o,r7];exact M.o
   ·intro d z q m;rw[c.o] at m;rw[<-N.o (d.map aE.n) (by rw[UH];exact z) (Fa d q) m,I8 d q]
   ·rw[c.o,r7];exact S
   ·rw[c.o,r7,D.o.block r (by omega)];exact L.o
   ·rw[UH];exact bL K.o Y
  ·have J:X (∀d:List aE,d.length=cn->(∀x∈d,VK 2 x)->¬ai (bytesOf s) p (dW 2 3 d)):=by
    intro d z q m;rw[c.o] at m;exact T (d.map aE.n) (by rw[UH];exact z) (Fa d q) m
   have y:=af b;go_wp2;exact⟨rfl,y.o,.inr ⟨u,rfl,J.o⟩⟩
def A0:aE:=⟨Z,0,⟨#[]⟩⟩
structure Lh(k:Int)(zs:List Int)(pres:List aE)(j nx:Nat)(l:List aE):Prop where
 lv:l.map nM=zs.take j
 th:there l=pres.take nx
 SU:nx=mM (zs.take j)
 ok:∀x∈l,VC k x
def JX(a:List Int)(j:Nat):mM (a.take j)<=mM a:=by
 unfold mM;exact((List.take_sublist j a).filter _).length_le
def zK(l:List aE)(x:aE):there (l++[x])=if x.null then there l else there l++[x]:=by
 unfold there;rw[List.filter_append];cases a:x.null<;>simp[a]
def Lh.null{k:Int}{a:List Int}{f:List aE}{j e:Nat}{l:List aE}(h:Lh k a f j e l)(i:nQ a)(c:j<a.length)(d:a.getD j 0=0):Lh k a f (j+1) e (l++[A0]):=by
 have g:=qK a i j c;rw[d] at g;refine⟨?_,?_,?_,?_⟩
 ·rw[U1,h.lv,Up c,<-fj c,d];rfl
 ·rw[zK];exact h.th
 ·rw[h.SU];omega
 ·intro n m;rcases U2.1 m with b|b
  ·exact h.ok n b
  ·simp at b;subst b;exact .inl ⟨rfl,rfl,rfl⟩
def Lh.lt{k:Int}{a:List Int}{c:List aE}{j e:Nat}{l:List aE}(h:Lh k a c j e l)(d:nQ a)(b:j<a.length)(o:a.getD j 0≠0)(n:c.length=mM a):e<c.length:=by
 have g:=qK a d j b;have i:=JX a (j+1);have f:=d _ (Uk b);rw[<-fj b] at f;have m:=h.SU;omega
def Lh.one{k:Int}{a:List Int}{d:List aE}{j c:Nat}{l:List aE}(h:Lh k a d j c l)(i:nQ a)(b:j<a.length)(r:a.getD j 0≠0)(o:c<d.length)(f:VK k d[c]):Lh k a d (j+1) (c+1) (l++[d[c]]):=by
 have m:=qK a i j b;have n:=i _ (Uk b);rw[<-fj b] at n;have g:a.getD j 0=1:=by omega
 rw[g] at m;refine⟨?_,?_,?_,?_⟩
 ·rw[U1,h.lv,Up b,<-fj b,g];congr 1;simp[nM,f.there]
 ·rw[zK,f.there,h.th,Up o];rfl
 ·rw[h.SU];omega
 ·intro q p;rcases U2.1 p with e|e
  ·exact h.ok q e
  ·simp at e;subst e;exact .inr f
def y8(k e:Int)(b5:bI k e=Z)(s:ByteArray)(r p cn:Nat)(w:F)(a3:s.size<=Ur)(b4:cn<=100)(ck:p<=s.size)(h:w.heap[r]? =I (cj s p)):
 bG 156 #[(bS r),.int .i64 k,.int .i64 e,.int .i64 cn] w λx w'=>Kp r w w'/\
  ((∃(l:List aE) (v:U),x= .returned v/\l.length=cn/\(∀x∈l,VC k x)/\ai (bytesOf s) p (bJ k e l)/\(∀L:List aE,L.length=cn->(∀x∈L,VC k x)->ai (bytesOf s) p (bJ k e L)->L=l)/\p+(bJ k e l).length<=s.size/\
    w'.heap[r]? =I (cj s (p+(bJ k e l).length))/\w'.ownsRow w.heap.size 59 3 v l.length (aH l))\/
   (∃q,x= .panicked (eE q)/\∀L:List aE,L.length=cn->(∀x∈L,VC k x)->¬ai (bytesOf s) p (bJ k e L))):=by
 obtain⟨ae,S,c4,W,c5⟩:=Vg ay.mK;have cp:r<w.heap.size:=Uf h;have bo:=af h;go_enter ay.func156,Tryz.ntmps156
 go_wp2_with fail
 refine(tB s r p cn _ a3 b4 ck bo.o).mono ?_;rintro x db ⟨N,⟨b,v,rfl,c7,a7,cs,cR,cb,az,a5⟩|⟨q,rfl,T⟩⟩
 ·have z:=af N;have B:=af a7;have bt:=af cs;have ap:=af cR;have br:=af az;have bl:=af a5;have bj:X (rB db v b):=rB.bN a5;have n:=af c7;have dr:=N.size;have cf:mM b<=100:=by have:=Is b;omega
  have bb:X (∀w,rB w v b->bG 166 #[v] w λe w'=>e= .returned (.int .i64 ((mM b:Nat):Int))/\w'=w):=λw h=>Ab v b w (by omega) a7 h;have dq:=Uf az
  go_wp2_with (go_at_call 166;refine(bb.o _ bj.o).mono ?_;rintro x w' ⟨rfl,c2⟩;rw[c2])
  refine(wS k e b5 s r (p+(cz b).length) (mM b) _ a3 cf cb br.o).mono ?_;rintro x d ⟨O,⟨f,dO,rfl,co,cl,cu,c0,cc,b3,ch⟩|⟨q,rfl,T⟩⟩
  ·have A:X (Kp r w d):=z.o.trans O;have bm:=af cl;have bu:=af cu;have bv:=af c0;have bs:=af b3;have ao:=af co;obtain⟨ds,ab,ad,dt,rfl,a8,a9,c8⟩:=rB.bN (O.own bl.o cp);have be:=af c8;obtain⟨dd,df,du,dk,rfl,c1⟩:=rZ.bN ch;have bx:=af c1;have cv:=A.o.size;have cd:p+(cz b).length+(dW k e f).length<=s.size:=cc;rw[n.o] at a8 a9;have bi:X (∀a,a<cn->bU d ab (ad+a) (.int .i64 (b.getD a 0))):=by
    have:=be.o;rw[n.o] at this;exact this
   rw[n.o]
   go_wp2_with (at_make;refine Wc _ Y _ _ 43 Y d.heap.size 59 ae _ 3 ay.underlying43 S c4 W .i64 .i64 _ cn Y Y Y (by rw[c5];omega) (by unfold Ur;omega) (T9 _) ?_;intro dc ci b6)
   have ba:X (aP d dc):=(Uq _ _).grown b6 (T9 _) (by simp)
   go_loopw [11,12,28] (λc9 da aa wr=>∃(a c:Nat) (l:List aE),a<=cn/\c<=a/\aa= .int .i64 (a:Int)/\da= .int .i64 (c:Int)/\c9= .slice (I ⟨d.heap.size,0,K⟩) a cn/\Lh k b f a c l/\wr.ownsRow d.heap.size 59 3 (.slice (I ⟨d.heap.size,0,K⟩) a cn) a (aH l)/\aP d wr) (λ_ _ aa _=>cn-(UT aa).toNat)
   case atStart=>exact⟨0,0,[],UF _,T9 _,rfl,rfl,rfl,⟨rfl,rfl,rfl,λx c3=>by simp at c3⟩,by simpa [aH] using ci,ba.o⟩
   case round=>
    obtain⟨a,c,l,dl,dp,rfl,rfl,rfl,b2,V,aw⟩:=hrel;have m:=af aw;have i:=af b2;have a6:=aw.size;by_cases a2:a<cn
    ·have o:a<b.length:=by rw[n.o];exact a2
     obtain rfl:=a8 (by omega);have ca:=a9 (by omega);have a0:bU wr ab (ad+a) (.int .i64 (b.getD a 0)):=(m.o.cell (p:=⟨ab,ad+a,K⟩) ca).trans (bi.o a a2);by_cases E:b.getD a 0=0
     ·have H:X (Lh k b f (a+1) c (l++[A0])):=i.o.null B.o o E;rw[E] at a0;have M:X (aH l++[.bool Z,.int .i64 0,.string ⟨#[]⟩]=aH (l++[A0])):=eY l A0
      go_wp2_with (at_builtin;refine VI _ Y _ _ 43 Y d.heap.size 59 ae 3 ay.underlying43 S W d.heap.size a cn _ Y (V.alloc _) ⟨wr.heap.size,0,K⟩ 1 1 [.bool Z,.int .i64 0,.string ⟨#[]⟩] Y Y (by exact ju _ _ _ _ _) (fD A0) (by omega) ?_;intro al u R)
      have G:X (aP d al):=(m.o.alloc a6 _).grown R (by simp;omega) (by intro bA Q;simp at Q;omega);rw[M.o] at u;refine⟨⟨a+1,c,l++[A0],by omega,by omega,by go_num,rfl,rfl,H.o,u,G.o⟩,by simp[UT];omega⟩
     ·have t:=i.o.lt B.o o E ao.o;have c6:b.getD a 0=1:=by
       have b1:=B.o _ (Uk o);rw[<-fj o] at b1;omega
      have H:X (Lh k b f (a+1) (c+1) (l++[f[c]])):=i.o.one B.o o E t (bm.o _ (Uk t));rw[c6] at a0;have D:=bx.o.below m.o;obtain rfl:=D.addr (by omega);have dv:=D.c0 c t;have dC:=D.c1 c t;have dE:=D.c2 c t;have M:X (aH l++[.bool f[c].null,.int .i64 f[c].n,.string f[c].s]=aH (l++[f[c]])):=eY l _;generalize f[c]=y at*
      go_wp2_with (at_builtin;refine VI _ Y _ _ 43 Y d.heap.size 59 ae 3 ay.underlying43 S W d.heap.size a cn _ Y (V.alloc _) ⟨wr.heap.size,0,K⟩ 1 1 [.bool y.null,.int .i64 y.n,.string y.s] Y Y (by exact ju _ _ _ _ _) (fD y) (by omega) ?_;intro al u R)
      have G:X (aP d al):=(m.o.alloc a6 _).grown R (by simp;omega) (by intro bA Q;simp at Q;omega);rw[M.o] at u;refine⟨⟨a+1,c+1,l++[y],by omega,by omega,by go_num,by go_num,rfl,H.o,u,G.o⟩,by simp[UT];omega⟩
    ·obtain rfl:a=cn:=by omega
     have cx:b.take a=b:=UP (by rw[n.o];omega);have j:=i.o.lv;have C:=i.o.th;have ar:=i.o.SU;rw[cx] at j ar;rw[ar,<-ao.o,Vh] at C;have a1:l.length=a:=by rw[<-n.o,<-j,UH]
     obtain⟨bB,b0⟩:=DC (k:=k) (e:=e) (s:=s) (p:=p) (cn:=a) (l:=l) a1 i.o.ok (by rw[j];exact bt.o) (by rw[j];exact ap.o) (by rw[j,C];exact bu.o) (by rw[j,C];exact bv.o);have bc:=af bB;have bd:=af b0;have an:X (p+(bJ k e l).length=p+(cz b).length+(dW k e f).length):=by
      show _=_;unfold bJ;rw[Ub,j,C,U6]
     have am:=af a1;go_wp2;go_ret;exact⟨A.o.trans (Kp.ct m.o),.inl ⟨l,_,rfl,am.o,i.o.ok,bc.o,bd.o,by rw[an.o];exact cd,by rw[an.o,m.o.block r (by omega)];exact bs.o,by rw[am.o];exact bL V cv⟩⟩
  ·have J:X (∀L:List aE,L.length=cn->(∀x∈L,VC k x)->¬ai (bytesOf s) p (bJ k e L)):=by
    intro L P a4 g;unfold bJ at g;rw[au] at g;have av:=ap.o (L.map nM) (by rw[UH];exact P) (yE L) g.1;rw[av] at g;exact T (there L) (by rw[zJ,av]) (E3 a4) g.2
   have A:X (Kp r w d):=z.o.trans O;go_wp2;exact⟨rfl,A.o,.inr ⟨q,rfl,J.o⟩⟩
 ·have J:X (∀L:List aE,L.length=cn->(∀x∈L,VC k x)->¬ai (bytesOf s) p (bJ k e L)):=by
   intro L P a4 g;unfold bJ at g;rw[au] at g;exact T (L.map nM) (by rw[UH];exact P) (yE L) g.1
  have z:=af N;go_wp2;exact⟨rfl,z.o,.inr ⟨q,rfl,J.o⟩⟩
end Ec
namespace Pk
open Go.RowKit Pm
def CU(w:F)(a b c:Xx):(((w.alloc a).alloc b).alloc c).heap[w.heap.size]? =I a:=by
 rw[UO _ _ _ (by simp;omega),UO _ _ _ (by simp)];exact V5 w a
def CV(w:F)(a b c:Xx):(((w.alloc a).alloc b).alloc c).heap[w.heap.size+1]? =I b:=by
 rw[UO _ _ _ (by simp)];have:=V5 (w.alloc a) b;rwa [show(w.alloc a).heap.size=w.heap.size+1 from by simp] at this
def CW(w:F)(a b c:Xx):(((w.alloc a).alloc b).alloc c).heap[w.heap.size+1+1]? =I c:=by
 have:=V5 ((w.alloc a).alloc b) c;rwa [show((w.alloc a).alloc b).heap.size=w.heap.size+1+1 from by simp] at this
end Pk
namespace Ec
open Go.RowKit Pk Pm
def dG{w:F}{g:Nat}{v:U}{t:Ui}(h:w.heap[g]? =I (.cells #[v] t (0,0))):w.cell? ⟨g,0,K⟩=I v/\w.frozen? ⟨g,0,K⟩=T8:=by
 constructor
 ·simp[Ut,h]
 ·simp[UR,h]
def sZ{w:F}{g:Nat}{v:U}(u:U){t:Ui}(h:w.heap[g]? =I (.cells #[v] t (0,0))):(w.setCell ⟨g,0,K⟩ u).heap[g]? =I (.cells #[u] t (0,0)):=by
 rw[Us w g 0 _ _ _ h];rfl
def uh(a b:UK)(m l:U)(u:Ui)(d:U)(c:List PanicEntry)(w:F)(h:w.cell? a=I m)(i:w.frozen? a=T8)
 (f:(w.setCell a aR).cell? b=I l) (g:(w.setCell a aR).frozen? b=T8):
 CallsD (aB T5) 169 #[.pointer (I a),.pointer (I b)] (.panicking ({v:=.iface u d,recovered:=T8}::c)) w λe k w'=>
  e= .returned (.tuple #[])/\k= .panicking ({v:=.iface u d,recovered:=Z}::c)/\w'=(w.setCell a aR).setCell b (.bool T8):=by
 refine callsD_of_wpS ay.func169 Y λo n j=>?_;apply wpS_seq;apply wpS_region;simp[wpOpsS,go_sem,recoverD,j,Tryz.ntmps169,Exit.thenS];refine wpS_cond (t:=Z) (by simp[Act.eval,U4]) ?_;simp only[if_true];apply wpS_seq;apply wpS_region;simp[wpOpsS,go_sem,Exit.thenS];apply wpS_region;simp[wpOpsS,go_sem,h,i,f,g,bodyPostS,UY,Tryz.results169]
def Dw(d c:UK)(w:F):
 CallsD (aB T5) 169 #[.pointer (I d),.pointer (I c)] .returning w λe f w'=>e= .returned (.tuple #[])/\f= .returning/\w'=w:=by
 refine callsD_of_wpS ay.func169 Y λa g b=>?_;apply wpS_seq;apply wpS_region;simp[wpOpsS,go_sem,recoverD,b,Tryz.ntmps169,Exit.thenS];refine wpS_cond (t:=T8) (by simp[Act.eval,U4]) ?_;simp only[UC,if_false];refine wpS_of_wp (wp_skip ?_);cases a;simp_all [bodyPostS,UY,Tryz.results169]
def AM{w w4:F}{v:U}{d b:Ui}{v2:U}(q:Nat)(hL:w4.heap[w.heap.size]? =I (.cells #[v] d (0,0)))(c:w4.heap[w.heap.size+1]? =I (.cells #[v2] b (0,0))):
 CallsD (aB T5) 169 #[(bS w.heap.size),(bS (w.heap.size+1))] (.panicking (eE q)) w4 λe f w'=>
  e= .returned (.tuple #[])/\f= .panicking [{v:=.iface 205 (.agg #[.int .i64 (q:Int)]),recovered:=Z}]/\w'=(w4.setCell ⟨w.heap.size,0,K⟩ aR).setCell ⟨w.heap.size+1,0,K⟩ (.bool T8):=by
 have a:(w4.setCell ⟨w.heap.size,0,K⟩ aR).heap[w.heap.size+1]? =I (.cells #[v2] b (0,0)):=by
  rw[Uv _ _ _ _ (by simp)];exact c
 exact uh _ _ _ _ _ _ [] w4 (dG hL).1 (dG hL).2 (dG a).1 (dG a).2
def vj{w w4:F}{v v2:U}{a b:Ui}(u1 u2:U)(hL:w4.heap[w.heap.size]? =I (.cells #[v] a (0,0)))(f:w4.heap[w.heap.size+1]? =I (.cells #[v2] b (0,0)))(e:aP w w4):
 let W:=(w4.setCell ⟨w.heap.size,0,K⟩ u1).setCell ⟨w.heap.size+1,0,K⟩ u2
 bU W w.heap.size 0 u1/\bU W (w.heap.size+1) 0 u2/\aP w W:=by
 have c:=sZ u1 hL;have d:(w4.setCell ⟨w.heap.size,0,K⟩ u1).heap[w.heap.size+1]? =I (.cells #[v2] b (0,0)):=by
  rw[Uv _ _ _ _ (by simp)];exact f
 refine⟨?_,(dG (sZ u2 d)).1,?_⟩
 ·refine(dG (t:=a) ?_).1;rw[Uv _ _ _ _ (by simp)];exact c
 ·exact(e.setCell (T9 _) _).setCell (Nat.le_succ _) _
def Ho(c1 c2 H:U)(s:ByteArray)(w:F)(P:s.size<=Ur)(f h:Nat)(Q:Nat->List U->Nat->Prop)(N:Prop)
 (ap:∀(W:F) (r:Nat),aP w W->r=w.heap.size+1+1->W.heap[r]? =I (cj s 0)->bG 155 #[(bS r),c1,c2,H] W λe w'=>Kp r W w'/\
   ((∃v n d q,e= .returned v/\w'.heap[r]? =I (cj s q)/\q<=s.size/\w'.ownsRow W.heap.size f h v n d/\Q n d q)\/(∃q,e= .panicked (eE q)/\N))):
 bG 163 #[.string s,.func (.func 155) #[] #[c1,c2,H]] w λe w'=>aP w w'/\
  ((∃v n d,e= .returned (.tuple #[v,.bool Z])/\w'.ownsRow w.heap.size f h v n d/\Q n d s.size)\/(e= .returned (.tuple #[aR,.bool T8])/\(N\/∃n d q,Q n d q/\q<s.size))):=by
 have T:=af ap;have a4:∀(J:Fn) (first a:Array U) (w:F),(Instr.makeFunc J first a).run (aB T5) w= .ok (.func J first a) w:=λ_ _ _ _=>rfl
 go_enter_defers ay.func163,Tryz.ntmps163
 go_wp2_with (go_at_call 65;refine(nN s _).mono ?_;rintro e w' ⟨rfl,rfl⟩)
 have M:(((w.alloc (.cells #[aR] 43)).alloc (.cells #[.bool T8] 4)).alloc (cj s 0)).heap[w.heap.size]? =I (.cells #[aR] 43 (0,0)):=CU _ _ _ _;have L:(((w.alloc (.cells #[aR] 43)).alloc (.cells #[.bool T8] 4)).alloc (cj s 0)).heap[w.heap.size+1]? =I (.cells #[.bool T8] 4 (0,0)):=CV _ _ _ _;have an:(((w.alloc (.cells #[aR] 43)).alloc (.cells #[.bool T8] 4)).alloc (cj s 0)).heap[w.heap.size+1+1]? =I (cj s 0):=CW _ _ _ _;have a3:(((w.alloc (.cells #[aR] 43)).alloc (.cells #[.bool T8] 4)).alloc (cj s 0)).heap.size=w.heap.size+3:=by simp
 have y:aP w (((w.alloc (.cells #[aR] 43)).alloc (.cells #[.bool T8] 4)).alloc (cj s 0)):=(((Uq _ _).alloc (T9 _) _).alloc (by simp) _).alloc (by simp;omega) _;generalize (((w.alloc (.cells #[aR] 43)).alloc (.cells #[.bool T8] 4)).alloc (cj s 0))=aa at*;refine(T.o aa (w.heap.size+1+1) y Y an).mono ?_;rintro e c ⟨g,⟨v,n,d,q,rfl,ao,a5,u,am⟩|⟨q,rfl,ab⟩⟩
 ·have o:c.heap[w.heap.size]? =I (.cells #[aR] 43 (0,0)):=Kp.block g M (by omega);have l:c.heap[w.heap.size+1]? =I (.cells #[.bool T8] 4 (0,0)):=Kp.block g L (by omega);have z:aP w c:=y.trans ((g.below (by omega)).mono (by omega));have ar:v.ownBlock≠I w.heap.size/\v.ownBlock≠I (w.heap.size+1):=⟨λe=>by have:=(u.lt _ e).1;omega,λe=>by have:=(u.lt _ e).1;omega⟩;obtain⟨b,a,av⟩:=uH u;subst av;have V:X (c.ownsRow w.heap.size f h (.slice b n a) n d):=bL u (by omega);have x:=af ar;have E:=af am;obtain⟨a0,a2⟩:=dG o;obtain⟨az,a1⟩:=dG l;have D:=af o;have C:=af l;have B:=af z;have G:=af ao;by_cases O:q<s.size
  ·go_wp2_with (go_at_call 93;refine(BY (w.heap.size+1+1) q s _ P O (by rw[Uv _ _ _ _ (by simp;omega)];exact G.o)).mono ?_;rintro e w' ⟨rfl,m,rfl⟩)
   have t:((c.setCell ⟨w.heap.size,0,K⟩ (.slice b n a)).drewN m).heap[w.heap.size]? =I (.cells #[.slice b n a] 43 (0,0)):=sZ _ D.o;have p:((c.setCell ⟨w.heap.size,0,K⟩ (.slice b n a)).drewN m).heap[w.heap.size+1]? =I (.cells #[.bool T8] 4 (0,0)):=by
    show(c.setCell ⟨w.heap.size,0,K⟩ (.slice b n a)).heap[w.heap.size+1]? =_;rw[Uv _ _ _ _ (by simp)];exact C.o
   have A:=below_drewN (B.o.setCell (p:=⟨w.heap.size,0,K⟩) (T9 _) (.slice b n a)) m;generalize (c.setCell ⟨w.heap.size,0,K⟩ (.slice b n a)).drewN m=a6 at*;obtain⟨i,j,k⟩:=vj aR (.bool T8) t p A;refine leaves_cons (f:=169) (args:= #[(bS w.heap.size),(bS (w.heap.size+1))]) (by simp) (by simp[go_sem]) ?_;refine(AM _ t p).mono ?_;rintro e R S ⟨rfl,rfl,rfl⟩;simp[Leaves,settle,UY,Tryz.results163,go_sem,i,j];exact⟨k,.inr ⟨n,d,q,E.o,O⟩⟩
  ·obtain rfl:q=s.size:=by omega
   go_wp2_with (go_at_call 93;refine(FZ (w.heap.size+1+1) s.size s _ P (by omega) (by rw[Uv _ _ _ _ (by simp;omega)];exact G.o)).mono ?_;rintro e w' ⟨rfl,m,rfl⟩)
   have t:((c.setCell ⟨w.heap.size,0,K⟩ (.slice b n a)).drewN m).heap[w.heap.size]? =I (.cells #[.slice b n a] 43 (0,0)):=sZ _ D.o;have p:((c.setCell ⟨w.heap.size,0,K⟩ (.slice b n a)).drewN m).heap[w.heap.size+1]? =I (.cells #[.bool T8] 4 (0,0)):=by
    show(c.setCell ⟨w.heap.size,0,K⟩ (.slice b n a)).heap[w.heap.size+1]? =_;rw[Uv _ _ _ _ (by simp)];exact C.o
   have A:=below_drewN (B.o.setCell (p:=⟨w.heap.size,0,K⟩) (T9 _) (.slice b n a)) m;have ad:((c.setCell ⟨w.heap.size,0,K⟩ (.slice b n a)).drewN m).ownsRow w.heap.size f h (.slice b n a) n d:=rK (ownsRow_setCell_other V.o x.o.1 _) m;have ae:(((c.setCell ⟨w.heap.size,0,K⟩ (.slice b n a)).drewN m).setCell ⟨w.heap.size,0,K⟩ (.slice b n a)).ownsRow w.heap.size f h (.slice b n a) n d:=ownsRow_setCell_other ad x.o.1 _;have al:((((c.setCell ⟨w.heap.size,0,K⟩ (.slice b n a)).drewN m).setCell ⟨w.heap.size,0,K⟩ (.slice b n a)).setCell ⟨w.heap.size+1,0,K⟩ (.bool Z)).ownsRow w.heap.size f h (.slice b n a) n d:=ownsRow_setCell_other ae x.o.2 _;obtain⟨i,j,k⟩:=vj (.slice b n a) (.bool Z) t p A;generalize (((c.setCell ⟨w.heap.size,0,K⟩ (.slice b n a)).drewN m).setCell ⟨w.heap.size,0,K⟩ (.slice b n a)).setCell ⟨w.heap.size+1,0,K⟩ (.bool Z)=aw at*;refine leaves_cons (f:=169) (args:= #[(bS w.heap.size),(bS (w.heap.size+1))]) (by simp) (by simp[go_sem]) ?_;refine(Dw ⟨w.heap.size,0,K⟩ ⟨w.heap.size+1,0,K⟩ _).mono ?_;rintro e R S ⟨rfl,rfl,rfl⟩;simp[Leaves,settle,UY,Tryz.results163,go_sem,i,j];exact⟨k,n,d,al,E.o⟩
 ·have o:c.heap[w.heap.size]? =I (.cells #[aR] 43 (0,0)):=Kp.block g M (by omega);have l:c.heap[w.heap.size+1]? =I (.cells #[.bool T8] 4 (0,0)):=Kp.block g L (by omega);have z:aP w c:=y.trans ((g.below (by omega)).mono (by omega));obtain⟨i,j,k⟩:=vj aR (.bool T8) o l z;refine leaves_cons (f:=169) (args:= #[(bS w.heap.size),(bS (w.heap.size+1))]) (by simp) (by simp[go_sem]) ?_;refine(AM _ o l).mono ?_;rintro e R S ⟨rfl,rfl,rfl⟩;simp[Leaves,settle,UY,Tryz.results163,go_sem,i,j];exact⟨k,.inl ab⟩
def DL(k e:Int)(B:bI k e=Z)(s:ByteArray)(r cn x y z:Nat)(w:F)(D:s.size<=Ur)(A:cn<=100)(h:w.heap[r]? =I (cj s 0))
 (N:bU w x 0 (.int .i64 k)) (O:bU w y 0 (.int .i64 e)) (P:bU w z 0 (.int .i64 cn)):
 bG 155 #[(bS r),(bS x),(bS y),(bS z)] w λf w'=>Kp r w w'/\
  ((∃v n d q,f= .returned v/\w'.heap[r]? =I (cj s q)/\q<=s.size/\w'.ownsRow w.heap.size 59 3 v n d/\
    (∃l:List aE,n=cn/\l.length=cn/\d=aH l/\q=(bJ k e l).length/\(∀x∈l,VC k x)/\ai (bytesOf s) 0 (bJ k e l)/\∀L:List aE,L.length=cn->(∀x∈L,VC k x)->ai (bytesOf s) 0 (bJ k e L)->L=l))\/
   (∃q,f= .panicked (eE q)/\∀L:List aE,L.length=cn->(∀x∈L,VC k x)->¬ai (bytesOf s) 0 (bJ k e L))):=by
 have m:=af h;go_enter ay.func155,Tryz.ntmps155
 go_wp2_with fail
 refine(y8 k e B s r 0 cn _ D A (UF _) m.o).mono ?_;rintro f Q ⟨c,⟨l,v,rfl,C,G,J,K,M,u,H⟩|⟨q,rfl,E⟩⟩
 ·have a:=af c;have b:=af C;have j:=af G;have p:=af J;have t:=af K;have o:=af u;have i:=af H;go_wp2;go_ret;refine⟨a.o,.inl ⟨v,cn,aH l,(bJ k e l).length,rfl,by simpa using o.o,by omega,by rw[<-b.o];exact i.o,l,rfl,b.o,rfl,rfl,j.o,p.o,t.o⟩⟩
 ·have a:=af c;have g:=af E;go_wp2;exact⟨rfl,a.o,.inr ⟨q,rfl,g.o⟩⟩
def ze(c1 c2 c:U)(s:ByteArray)(w:F)(p:s.size<=Ur)(d f:Nat)(Q:Nat->List U->Nat->Prop)(N:Prop)
 (o:∀(W:F) (r:Nat),aP w W->r=w.heap.size+1+1->W.heap[r]? =I (cj s 0)->bG 155 #[(bS r),c1,c2,c] W λe w'=>Kp r W w'/\
   ((∃v n a q,e= .returned v/\w'.heap[r]? =I (cj s q)/\q<=s.size/\w'.ownsRow W.heap.size d f v n a/\Q n a q)\/(∃q,e= .panicked (eE q)/\N))):
 bG 154 #[.string s,.func (.func 155) #[] #[c1,c2,c]] w λe w'=>aP w w'/\
  ((∃v n a,e= .returned (.tuple #[v,.int .i64 0])/\w'.ownsRow w.heap.size d f v n a/\Q n a s.size)\/(e= .returned (.tuple #[aR,.int .i64 3])/\(N\/∃n a q,Q n a q/\q<s.size))):=by
 have h:=af o;go_enter ay.func154,Tryz.ntmps154
 go_wp2_with fail
 refine(Ho c1 c2 c s w p d f Q N h.o).mono ?_;rintro e u ⟨g,⟨v,n,a,rfl,t,m⟩|⟨rfl,l⟩⟩
 ·have b:=af g;have j:=af t;have k:=af m;go_wp2
  go_ret2
  exact⟨b.o,.inl ⟨v,n,a,rfl,j.o,k.o⟩⟩
 ·have b:=af g;have i:=af l;go_wp2
  go_ret2
  exact⟨b.o,.inr ⟨rfl,i.o⟩⟩
structure sG(s:ByteArray)(k e:Int)(cn:Nat)(l:List aE):Prop where
 len:l.length=cn
 ok:∀x∈l,VC k x
 eq:bJ k e l=bytesOf s
 IN:∀L:List aE,L.length=cn->(∀x∈L,VC k x)->ai (bytesOf s) 0 (bJ k e L)->L=l
def xE (s:ByteArray)(k e:Int)(cn:Nat):Prop:=∀a:List aE,a.length=cn->(∀b∈a,VC k b)->bJ k e a≠bytesOf s
def Jg(cn k e:Int):jD cn k e≠0\/(jD cn k e=0/\bI k e=Z/\∃c:Nat,cn=(c:Int)/\c<=100):=by
 unfold jD;by_cases a:cn<0\/100<cn
 ·left;rw[if_pos a];omega
 ·rw[if_neg a];cases b:bI k e with
  |false=>left;simp
  |true=>right;exact⟨by simp,rfl,cn.toNat,by omega,by omega⟩
def QZ(w:F)(a b c:Xx):(((w.alloc a).alloc b).alloc c).heap.size=w.heap.size+3:=by simp
def pL(s:ByteArray)(k e cn:Int)(w:F)(G:s.size<=Ur):
 bG 139 #[.string s,.int .i64 k,.int .i64 e,.int .i64 cn] w λf w'=>aP w w'/\
  ((jD cn k e≠0/\f= .returned (.tuple #[aR,.int .i64 (jD cn k e)]))\/
   (∃c:Nat,cn=(c:Int)/\c<=100/\jD cn k e=0/\bI k e=Z/\((∃v l,f= .returned (.tuple #[v,.int .i64 0])/\w'.ownsRow w.heap.size 59 3 v l.length (aH l)/\sG s k e c l)\/(f= .returned (.tuple #[aR,.int .i64 3])/\xE s k e c)))):=by
 have ae:aP w (((w.alloc (.cells #[.int .i64 k] 3)).alloc (.cells #[.int .i64 e] 3)).alloc (.cells #[.int .i64 cn] 3)):=(((Uq _ _).alloc (T9 _) _).alloc (by simp) _).alloc (by simp;omega) _;have m:=af ae;have i:=o6 cn k e;have ar:∀(C:Fn) (first B:Array U) (w:F),(Instr.makeFunc C first B).run (aB T5) w= .ok (.func C first B) w:=λ_ _ _ _=>rfl;rcases Jg cn k e with H|⟨D,am,c,rfl,q⟩
 ·generalize jD cn k e=R at*;have ao:(R !=0)=Z:=by simpa using H
  go_enter ay.func139,Tryz.ntmps139
  go_wp2_with (go_at_call 123;refine(i _).mono ?_;rintro x w' ⟨rfl,rfl⟩)
  go_ret2
  exact⟨m.o,.inl ⟨H,rfl⟩⟩
 ·rw[D] at i;have Y:=(dG (CU w (.cells #[.int .i64 k] 3 (0,0)) (.cells #[.int .i64 e] 3 (0,0)) (.cells #[.int .i64 (c:Int)] 3 (0,0)))).1;have aa:=(dG (CV w (.cells #[.int .i64 k] 3 (0,0)) (.cells #[.int .i64 e] 3 (0,0)) (.cells #[.int .i64 (c:Int)] 3 (0,0)))).1;have ab:=(dG (CW w (.cells #[.int .i64 k] 3 (0,0)) (.cells #[.int .i64 e] 3 (0,0)) (.cells #[.int .i64 (c:Int)] 3 (0,0)))).1;have M:=QZ w (.cells #[.int .i64 k] 3) (.cells #[.int .i64 e] 3) (.cells #[.int .i64 (c:Int)] 3);have O:=af Y;have P:=af aa;have Q:=af ab;have T:=af M;have A:=af D;have o:=af am;go_enter ay.func139,Tryz.ntmps139
  go_wp2_with (go_at_call 123;refine(i _).mono ?_;rintro x w' ⟨rfl,rfl⟩)
  generalize (((w.alloc (.cells #[.int .i64 k] 3)).alloc (.cells #[.int .i64 e] 3)).alloc (.cells #[.int .i64 (c:Int)] 3))=V at*;have M:=T.o;refine(ze (bS w.heap.size) (bS (w.heap.size+1)) (.pointer (I ⟨w.heap.size+1+1,0,K⟩)) s V G 59 3
   (λd z N=>∃l:List aE,d=c/\l.length=c/\z=aH l/\N=(bJ k e l).length/\(∀g∈l,VC k g)/\ai (bytesOf s) 0 (bJ k e l)/\∀a:List aE,a.length=c->(∀g∈a,VC k g)->ai (bytesOf s) 0 (bJ k e a)->a=l)
   (∀a:List aE,a.length=c->(∀g∈a,VC k g)->¬ai (bytesOf s) 0 (bJ k e a))
   (λW x b aw al=>DL k e o.o s x c _ _ _ W G q al ((b.cell (p:=⟨w.heap.size,0,K⟩) (by show w.heap.size<_;omega)).trans O.o) ((b.cell (p:=⟨w.heap.size+1,0,K⟩) (by show w.heap.size+1<_;omega)).trans P.o) ((b.cell (p:=⟨w.heap.size+1+1,0,K⟩) (by show w.heap.size+1+1<_;omega)).trans Q.o))).mono ?_
  rintro f y ⟨b,⟨v,d,z,rfl,an,l,rfl,t,rfl,J,h,L,u⟩|⟨rfl,p⟩⟩
  ·have j:X (aP w y):=m.o.trans (b.mono (by omega));have S:X (y.ownsRow w.heap.size 59 3 v l.length (aH l)):=by rw[t];exact bL an (by omega)
   have n:X (sG s k e d l):=⟨t,h,CR L (by rw[aj];omega),u⟩;go_wp2
   go_ret2
   exact⟨j.o,.inr ⟨d,rfl,q,A.o,o.o,.inl ⟨v,l,rfl,S.o,n.o⟩⟩⟩
  ·have j:X (aP w y):=m.o.trans (b.mono (by omega));have n:X (xE s k e c):=by
    intro a E h r;rcases p with p|⟨d,z,N,⟨l,rfl,t,rfl,J,av,L,u⟩,ap⟩
    ·exact p a E h (eP r)
    ·have ad:=u a E h (eP r);subst ad;rw[r,aj] at J;omega
   go_wp2
   go_ret2
   exact⟨j.o,.inr ⟨c,rfl,q,A.o,o.o,.inr ⟨rfl,n.o⟩⟩⟩
def kT(n:Nat):∀x∈aL n,x<256:=N7 10 n
def EE(f:Nat)(l:List Int):∀x∈iD f l,x<256:=by
 induction f generalizing l with
 |zero=>simp[iD]
 |succ f c=>
  cases l with
  |nil=>simp[iD]
  |cons e d=>
   intro x b;simp only[iD] at b;rcases U2.1 b with a|a
   ·exact kT _ x a
   ·rcases U2.1 a with a|a
    ·simp at a;rw[a];exact nZ _
    ·exact c _ x a
def uI(k:Int)(v:aE):∀x∈aZ k v,x<256:=by
 intro x a;unfold aZ at a
 split at a
 ·exact kT _ x a
 ·split at a
  ·simp at a;rw[a];exact nZ _
  ·rcases U2.1 a with b|b
   ·exact kT _ x b
   ·exact jB _ x b
def yR(k:Int)(l:List aE):∀x∈aW k l,x<256:=by
 intro x a;unfold aW at a;obtain⟨v,_,b⟩:=List.mem_flatMap.1 a;exact uI k v x b
def Jr(a:Int)(l:List aE):∀x∈bR a l,x<256:=by
 induction l generalizing a with
 |nil=>simp[bR]
 |cons f e d=>
  intro x c;simp only[bR] at c;rcases U2.1 c with b|b
  ·exact kT _ x b
  ·exact d _ x b
def ya(k e:Int)(l:List aE):∀x∈bJ k e l,x<256:=by
 intro x b;unfold bJ at b;rcases U2.1 b with a|a
 ·exact EE _ _ x a
 ·unfold dW at a
  split at a
  ·exact Jr _ _ x a
  ·split at a
   ·unfold ez at a;rcases U2.1 a with a|a
    ·exact kT _ x a
    ·rcases U2.1 a with a|a
     ·exact yR _ _ x a
     ·exact tj _ _ x a
   ·split at a
    ·exact EE _ _ x a
    ·exact yR _ _ x a
def E4(a n:Int)(b:0<=a)(c:0<n):0<=a.tmod n/\a.tmod n<n:=by
 rw[Int.tmod_eq_emod_of_nonneg b];exact⟨Int.emod_nonneg _ (by omega),Int.emod_lt_of_pos _ c⟩
def tmod_neg(a n:Int)(c:a<=0)(b:0<n):0<= -(a.tmod n)/\ -(a.tmod n)<n:=by
 have:=E4 (-a) n (by omega) b;rwa [Int.neg_tmod] at this
def M6(c n:Int)(w:F)(a:n=2\/n=3)(f: -9223372036854775808<=c)(h1:c<=9223372036854775807):bG 23 #[.int .i64 c,.int .i64 n] w λe w'=>w'=w/\∃r,e= .returned (.int .i64 r)/\0<=r/\r<n:=by
 by_cases g:c<0
 ·have b:Vd (c+1)=c+1:=by unfold Vd;omega
  have d:Vd (-(c+1))= -(c+1):=by unfold Vd;omega
  rcases a with rfl|rfl
  ·go_enter ay.func23,Tryz.ntmps23;go_wp2;go_ret;exact⟨rfl,_,rfl,tmod_neg (c+1) 2 (by omega) (by omega)⟩
  ·go_enter ay.func23,Tryz.ntmps23;go_wp2;go_ret;exact⟨rfl,_,rfl,tmod_neg (c+1) 3 (by omega) (by omega)⟩
 ·rcases a with rfl|rfl
  ·go_enter ay.func23,Tryz.ntmps23;go_wp2;go_ret;exact⟨rfl,_,rfl,by omega,by omega⟩
  ·go_enter ay.func23,Tryz.ntmps23;go_wp2;go_ret;exact⟨rfl,_,rfl,by omega,by omega⟩
def Jb{w W d:F}{g:Nat}{a b c:U}(a' b' e:U){t:Ui}(h:d.heap[g]? =I (.cells #[a,b,c] t (0,0)))(o:aP w d)(f:w.heap.size<=g):
 let W:=((d.setCell ⟨g,0,K⟩ a').setCell ⟨g,1,K⟩ b').setCell ⟨g,2,K⟩ e
 bU W g 0 a'/\bU W g 1 b'/\bU W g 2 e/\aP w W:=by
 have l:(d.setCell ⟨g,0,K⟩ a').heap[g]? =I (.cells #[a',b,c] t (0,0)):=by rw[Us d g 0 _ _ _ h];rfl
 have m:((d.setCell ⟨g,0,K⟩ a').setCell ⟨g,1,K⟩ b').heap[g]? =I (.cells #[a',b',c] t (0,0)):=by rw[Us _ g 1 _ _ _ l];rfl
 have n:(((d.setCell ⟨g,0,K⟩ a').setCell ⟨g,1,K⟩ b').setCell ⟨g,2,K⟩ e).heap[g]? =I (.cells #[a',b',e] t (0,0)):=by rw[Us _ g 2 _ _ _ m];rfl
 obtain⟨i,j,k,_⟩:=l6 n;exact⟨i,j,k,((o.setCell f _).setCell f _).setCell f _⟩
def uq(x:aE)(k:Int)(w:F)(l:k=1\/k=2\/k=3)(i:rD x)(m:x.s.size<=Ur):
 bG 24 #[.agg (iG x),.int .i64 k] w λe w'=>aP w w'/\∃y:aE,e= .returned (.agg (iG y))/\VC k y:=by
 have c:X (∀d f:Xx,aP w ((w.alloc d).alloc f)):=λd f=>((Uq _ _).alloc (T9 _) _).alloc (by simp) _;have h:=i.lo;have g:=i.hi;cases p:x.null with
 |true=>
  go_enter ay.func24,Tryz.ntmps24;go_wp2;simp[VS,UY,Tryz.results24,go_sem];exact⟨c.o _ _,⟨Z,0,⟨#[]⟩⟩,⟨rfl,rfl,rfl⟩,.inl ⟨rfl,rfl,rfl⟩⟩
 |false=>
  rcases l with rfl|rfl|rfl
  ·go_enter ay.func24,Tryz.ntmps24;go_wp2;simp[VS,UY,Tryz.results24,go_sem];exact⟨c.o _ _,⟨T8,x.n,⟨#[]⟩⟩,⟨rfl,rfl,rfl⟩,.inr ⟨rfl,h,g,λ_=>rfl,λb=>by omega,λb=>by omega⟩⟩
  ·have j:X (∀w,bG 23 #[.int .i64 x.n,.int .i64 2] w λe w'=>w'=w/\∃a,e= .returned (.int .i64 a)/\0<=a/\a<2):=λw=>M6 x.n 2 w (.inl Y) h g;go_enter ay.func24,Tryz.ntmps24
   go_wp2_with (go_at_call 23;refine(j.o _).mono ?_;rintro e w' ⟨n,a,rfl,q,r⟩;rw[n])
   simp[VS,UY,Tryz.results24,go_sem];exact⟨c.o _ _,⟨T8,a,⟨#[]⟩⟩,⟨rfl,rfl,rfl⟩,.inr ⟨rfl,by show _<=a;omega,by show a<=_;omega,λb=>by omega,λ_=>⟨by show a=0\/a=1;omega,rfl⟩,λb=>by omega⟩⟩
  ·unfold Ur at m;by_cases o:32<x.s.size
   ·have s:(x.s.extract 0 32).size=32:=by rw[ByteArray.size_extract];omega
    go_enter ay.func24,Tryz.ntmps24;go_wp2;simp[VS,UY,Tryz.results24,go_sem];exact⟨c.o _ _,⟨T8,0,x.s.extract 0 32⟩,⟨rfl,rfl,rfl⟩,.inr ⟨rfl,by show _<=(0:Int);omega,by show(0:Int)<=_;omega,λb=>by omega,λb=>by omega,λ_=>⟨rfl,by show(x.s.extract 0 32).size<=32;omega⟩⟩⟩
   ·go_enter ay.func24,Tryz.ntmps24;go_wp2;simp[VS,UY,Tryz.results24,go_sem];exact⟨c.o _ _,⟨T8,0,x.s⟩,⟨rfl,rfl,rfl⟩,.inr ⟨rfl,by show _<=(0:Int);omega,by show(0:Int)<=_;omega,λb=>by omega,λb=>by omega,λ_=>⟨rfl,by show x.s.size<=32;omega⟩⟩⟩
def Cx(w:F)(l:List Int)(t:Ui):∀j,j<l.length->(w.alloc (.cells (l.map (λz=>VZ .i64 z)).toArray t)).cell? ⟨w.heap.size,0+j,K⟩=I (.int .i64 (l.getD j 0)):=by
 intro j a;have:(w.alloc (.cells (l.map (λz=>VZ .i64 z)).toArray t)).heap[w.heap.size]? =I (.cells (l.map (λz=>VZ .i64 z)).toArray t (0,0)):=V5 w _;simp only[Ut];rw[this];simp[a,Yx]
def fy (k:Int):List Int:=if k=1 then[0,1,2] else if k=2 then[0,2,3] else[0,2]
def OQ(k:Int)(a:k=1\/k=2\/k=3):∀e∈fy k,bI k e=Z:=by
 rcases a with rfl|rfl|rfl<;>decide
def L9(k:Int):(fy k).length<=3:=by
 unfold fy
 split
 ·decide
 ·split<;>decide
def Ad(k:Int)(w:F)(b:k=1\/k=2\/k=3):bG 39 #[.int .i64 k] w λe w'=>aP w w'/\w.heap.size<w'.heap.size/\e= .returned (.slice (I ⟨w.heap.size,0,K⟩) (fy k).length (fy k).length)/\∀j,j<(fy k).length->bU w' w.heap.size (0+j) (.int .i64 ((fy k).getD j 0)):=by
 rcases b with rfl|rfl|rfl
 ·have a:=Cx w [0,1,2] 3;go_enter ay.func39,Tryz.ntmps39;go_wp2;go_ret;exact⟨(Uq _ _).alloc (T9 _) _,by simp,rfl,a⟩
 ·have a:=Cx w [0,2,3] 3;go_enter ay.func39,Tryz.ntmps39;go_wp2;go_ret;exact⟨(Uq _ _).alloc (T9 _) _,by simp,rfl,a⟩
 ·have a:=Cx w [0,2] 3;go_enter ay.func39,Tryz.ntmps39;go_wp2;go_ret;exact⟨(Uq _ _).alloc (T9 _) _,by simp,rfl,a⟩
end Ec
namespace Ec
open Go.RowKit Pk
structure bK where
 name:ByteArray
 kind:Int
def eI (l:List bK):List U:=l.flatMap λa=>[.string a.name,.int .i64 a.kind]
structure xC(w:F)(ao:Option UK)(b off:Nat)(l:List bK):Prop where
 addr:0<l.length->ao=I ⟨b,off,K⟩
 lt:0<l.length->b<w.heap.size
 c0:∀j (h:j<l.length),w.cell? ⟨b,off+j*2,K⟩=I (.string l[j].name)
 c1:∀j (h:j<l.length),w.cell? ⟨b,off+j*2+1,K⟩=I (.int .i64 l[j].kind)
def xC.below{w w':F}{e:Option UK}{b off:Nat}{l:List bK}(h:xC w e b off l)(c:aP w w'):xC w' e b off l:=
 ⟨h.addr,λf=>Ue (h.lt f) c.size,
  λa d=>(c.cell (p:=⟨b,off+a*2,K⟩) (h.lt (by omega))).trans (h.c0 a d),
  λa d=>(c.cell (p:=⟨b,off+a*2+1,K⟩) (h.lt (by omega))).trans (h.c1 a d)⟩
def xC.take{w:F}{e:Option UK}{b off:Nat}{l:List bK}(h:xC w e b off l)(n:Nat):xC w e b off (l.take n):=by
 refine⟨λa=>h.addr ?_,λa=>h.lt ?_,λd c=>?_,λd c=>?_⟩
 ·simp at a;omega
 ·simp at a;omega
 ·rw[VG];exact h.c0 d (by simp at c;omega)
 ·rw[VG];exact h.c1 d (by simp at c;omega)
def vp (w:F)(v:U)(l:List bK):Prop:=∃a c d b,v= .slice a l.length b/\l.length<=b/\xC w a c d l
def vp.below{w w':F}{v:U}{l:List bK}(h:vp w v l)(d:aP w w'):vp w' v l:=by
 obtain⟨a,b,f,c,rfl,e,h⟩:=h;exact⟨a,b,f,c,rfl,e,h.below d⟩
def n6 (c:bK):Bool:=decide ((1:Int)<=(c.name.size:Int))&&decide ((c.name.size:Int)<=16)&&fY c.kind
def py (l:List bK)(i:Nat):Prop:=∀b:i<l.length,n6 l[i]=Z/\∀a (c:a<i),l[a].name≠l[i].name
def hU (l:List bK):Prop:=1<=l.length/\l.length<=8/\∀a,py l a
def B5(c:bK)(w:F):
 bG 80 #[.agg #[.string c.name,.int .i64 c.kind]] w λe w'=>e= .returned (.bool (n6 c))/\aP w w':=by
 have a:=oA c.kind;cases b:decide ((1:Int)<=(c.name.size:Int))<;>cases d:decide ((c.name.size:Int)<=16)
 all_goals
  go_enter ay.func80,Tryz.ntmps80
  go_wp2_with (go_at_call 120;refine(a _).mono ?_;rintro e w' ⟨rfl,rfl⟩)
  all_goals go_ret
  all_goals refine⟨j6 ?_,(Uq _ _).alloc (T9 _) _⟩
  all_goals simp_all [n6]
  all_goals try (intros;omega)
def DW(l:List bK)(s:ByteArray)(q:Option UK)(b off cap:Nat)(w:F)(D:l.length<=Ur)(d:xC w q b off l):
 bG 81 #[.slice q l.length cap,.string s] w λe w'=>∃bb,e= .returned (.bool bb)/\(bb=Z↔∃k,∃h:k<l.length,l[k].name=s)/\aP w w':=by
 unfold Ur at D;have u:=af d;go_enter ay.func81,Tryz.ntmps81
 go_wp2_with fail
 go_loopw [9] (λn wr=>∃a:Nat,a<=l.length/\n= .int .i64 a/\(∀c,(m:c<l.length)->c<a->l[c].name≠s)/\aP w wr) (λn _=>l.length-(UT n).toNat)
 case atStart=>exact⟨0,UF _,rfl,λc _ h=>by omega,Uq _ _⟩
 case round=>
  obtain⟨a,H,rfl,C,i⟩:=hrel;have p:=af C;have g:=af i;have r:=i.size;by_cases j:a<l.length
  ·have d:=u.o.below i;obtain rfl:=d.addr (by omega);have I:=d.c0 a j;have J:=d.c1 a j;have v:X (l[a].name=s->∃k,∃h:k<l.length,l[k].name=s):=λh=>⟨a,j,h⟩;have z:X (l[a].name≠s->∀c,(m:c<l.length)->c<a+1->l[c].name≠s):=λh c m G=>by
    by_cases B:c=a
    ·subst B;exact h
    ·exact p.o c m (by omega)
   generalize l[a]=o at*;by_cases f:o.name=s
   ·have x:=v.o f;have y:=af x;have E:(o.name.toList==s.toList)=Z:=by rw[f];simp
    go_wp2;go_ret;exact⟨Z,rfl,by simp only[true_iff];exact y.o,g.o.alloc r _⟩
   ·have A:=af (z.o f);have E:(o.name.toList==s.toList)=T8:=by rw[beq_eq_false_iff_ne];exact λh=>f (toList_inj h)
    go_wp2
    go_roundw
    case rel=>exact⟨a+1,by omega,by go_num,A.o,g.o.alloc r _⟩
    case measure=>simp[UT];omega
  ·have t:X (¬∃k,∃h:k<l.length,l[k].name=s):=by
    rintro⟨k,h,e⟩;exact p.o k h (by omega) e
   go_wp2;go_ret;exact⟨T8,rfl,by simp only[UC,false_iff];exact t.o,g.o⟩
def ot(w:F)(a b:U)(t:Ui):(w.alloc (.cells #[a,b] t)).cell? ⟨w.heap.size,0,K⟩=I a/\(w.alloc (.cells #[a,b] t)).cell? ⟨w.heap.size,1,K⟩=I b:=by
 constructor<;>simp
def JB{l:List bK}{j:Nat}(b:∀i,i<j->py l i)(c:py l j):∀i,i<j+1->py l i:=by
 intro i d;by_cases a:i=j
 ·rw[a];exact c
 ·exact b i (by omega)
def LQ{l:List bK}{j:Nat}(b:1<=l.length)(c:l.length<=8)(d:∀i,i<j->py l i)(e:¬j<l.length):hU l:=
 ⟨b,c,λi a=>d i (by omega) a⟩
def mw(l:List bK)(R:U)(w:F)(a5:l.length<=Ur)(a3:vp w R l):
 bG 55 #[R] w λe w'=>∃bb,e= .returned (.bool bb)/\(bb=Z↔hU l)/\WN w.heap.size w w':=by
 obtain⟨be,s,y,Q,rfl,bm,g⟩:=a3;unfold Ur at a5;by_cases B:1<=l.length/\l.length<=8
 ·obtain⟨B,az⟩:=B;have O:=af g;obtain rfl:=g.addr (by omega);clear g;have S:decide ((l.length:Int)<1)=T8:=by simp;omega
  have ap:decide (8<(l.length:Int))=T8:=by simp;omega
  go_enter ay.func55,Tryz.ntmps55
  go_wp2_with fail
  go_loopw [15] (λd wr=>∃a:Nat,a<=l.length/\d= .int .i64 a/\(∀d,d<a->py l d)/\WN w.heap.size w wr) (λd _=>l.length-(UT d).toNat)
  case atStart=>exact⟨0,UF _,rfl,λbx b=>by omega,Uq _ _⟩
  case round=>
   obtain⟨a,bo,rfl,V,v⟩:=hrel;have z:=af V;have M:=af v;have a8:=v.size;clear V;by_cases x:a<l.length
   ·have g:=O.o.below v;have bs:=g.c0 a x;have bt:=g.c1 a x;have m:X (∀i,WN wr.heap.size wr i->∀t,bG 81 #[.slice (I ⟨s,y,K⟩) a t,.string l[a].name] i λe w'=>∃bb,e= .returned (.bool bb)/\(bb=Z↔∃c,∃b:c<a,l[c].name=l[a].name)/\WN i.heap.size i w'):=λi a1 t=>by
     have:=DW (l.take a) l[a].name (I ⟨s,y,K⟩) s y t i (by simp;unfold Ur;omega) ((g.below a1).take a);have ar:(l.take a).length=a:=by simp;omega
     have a7:Vc (I ⟨s,y,K⟩) a t= .slice (I ⟨s,y,K⟩) (l.take a).length t:=by rw[ar]
     rw[a7];refine this.mono ?_;rintro e w' ⟨bb,rfl,C,a2⟩;refine⟨bb,rfl,C.trans ?_,a2⟩;constructor
     ·rintro⟨c,b,e⟩;rw[VG] at e;exact⟨c,by simp at b;omega,e⟩
     ·rintro⟨c,b,e⟩;refine⟨c,by simp;omega,?_⟩;rw[VG];exact e
    have o:=λi=>B5 l[a] i;have q:X (n6 l[a]=T8->¬hU l):=λb f=>by
     have:=(f.2.2 a x).1;rw[b] at this;cases this
    have A:X ((∃c,∃b:c<a,l[c].name=l[a].name)->¬hU l):=by
     rintro⟨c,b,e⟩ f;exact(f.2.2 a x).2 c b e
    have r:X (n6 l[a]=Z->(¬∃c,∃b:c<a,l[c].name=l[a].name)->∀d,d<a+1->py l d):=λav aw=>JB z.o (λ_=>⟨av,λc a4 e=>aw ⟨c,a4,e⟩⟩);clear g v z O;have am:X (∀P:Prop,P=(∃c,∃b:c<a,l[c].name=l[a].name)->True):=λ_ _=>trivial;clear am;generalize a0:(∃c,∃b:c<a,l[c].name=l[a].name)=P at*;clear a0;generalize l[a]=h at*
    go_upto_region 6 with fail
    have a9:=ot wr (.string h.name) (.int .i64 h.kind) 63;have H:wr.heap.size<(wr.alloc (.cells #[.string h.name,.int .i64 h.kind] 63)).heap.size:=by simp
    have W:WN wr.heap.size wr (wr.alloc (.cells #[.string h.name,.int .i64 h.kind] 63)):=(Uq _ _).alloc (T9 _) _;generalize wr.alloc (.cells #[.string h.name,.int .i64 h.kind] 63)=j at*;generalize ab:wr.heap.size=E at*;have al:=af ab;clear ab;obtain⟨ba,bu⟩:=a9
    go_cut [30] from 16 to 31 (λbc ad=>∃bb,bc= .bool bb/\(bb=T8->∀d,d<a+1->py l d)/\(bb=Z->¬hU l)/\WN E wr ad)
    case first=>
     cases f:n6 h
     ·have D:=af (q.o f);rw[f] at o;clear q A r f m
      first
       |go_region_with (go_at_call 80;refine(o _).mono ?_;rintro e L ⟨rfl,u⟩)
       |fail
      all_goals
       have p:WN j.heap.size j L:=((Uq j.heap.size j).drew).trans u;have n:=af (W.trans (p.mono (Nat.le_of_lt H)));clear u p
       go_wp2_with fail
       go_meet
       exact⟨Z,rfl,(λb=>by cases b),λ_=>D.o,n.o⟩
     ·have ao:=af (r.o f);rw[f] at o;have bi:(0:Int)<=(a:Int):=by omega
      have bj:(a:Int)<=(Q:Int):=by omega
      have bl:a<=Q:=by omega
      clear q r f
      first
       |go_region_with (first
        |(go_at_call 80;refine(o _).mono ?_;rintro e L ⟨rfl,u⟩;have p:WN j.heap.size j L:=((Uq j.heap.size j).drew).trans u;have k:=W.trans (p.mono (Nat.le_of_lt H));have bv:=(p.cell (p:=⟨E,0,K⟩) H).trans ba;clear u p)
        |(go_at_call 81;refine(m.o _ k _).mono ?_;rintro e bd ⟨bb,rfl,C,aa⟩))
       |fail
      all_goals
       have n:X (WN E wr bd):=k.trans (aa.mono (by have:=k.size;rw[al.o] at this;exact this));have N:=af C;clear aa C k
       go_wp2_with fail
       go_meet
       refine⟨bb,rfl,λb=>ao.o (λa6=>?_),λb=>A.o (N.o.1 b),n.o⟩;rw[N.o.2 a6] at b;cases b
    case rest=>
     rename F=>ad
     obtain⟨bb,rfl,J,G,k⟩:=hcut;have n:=af (M.o.trans (k.mono a8));cases bb
     ·have ae:=af (J Y);clear J G k q A r m o;go_wp2
      go_roundw
      case rel=>exact⟨a+1,by omega,by go_num,ae.o,n.o⟩
      case measure=>simp[UT];omega
     ·have D:=af (G Y);clear J G k q A r m o;go_wp2;go_ret;exact⟨T8,rfl,by simp only[UC,false_iff];exact D.o,n.o⟩
   ·have an:=af (LQ B az z.o x);clear z v;go_wp2;go_ret;exact⟨Z,rfl,by simp only[true_iff];exact an.o,M.o⟩
 ·have T:¬hU l:=λb=>B ⟨b.1,b.2.1⟩;have m:=af T;clear g T;by_cases br:l.length<1
  ·have S:decide ((l.length:Int)<1)=Z:=by simp;omega
   go_enter ay.func55,Tryz.ntmps55;go_wp2
   all_goals go_ret
   all_goals exact⟨T8,rfl,by simp only[UC,false_iff];exact m.o,Uq _ _⟩
  ·have S:decide ((l.length:Int)<1)=T8:=by simp;omega
   have ap:decide (8<(l.length:Int))=Z:=by simp;omega
   go_enter ay.func55,Tryz.ntmps55;go_wp2
   all_goals go_ret
   all_goals exact⟨T8,rfl,by simp only[UC,false_iff];exact m.o,Uq _ _⟩
def rC (b:List aE)(cs:List bK):Prop:=b.length=cs.length/\∀a,(c:a<b.length)->(d:a<cs.length)->fR b[a] cs[a].kind=Z
def JF(b:List aE)(cs:List bK)(Q H:U)(w:F)(am:b.length<=Ur)(an:cs.length<=Ur)(N:∀c∈cs,c.kind=1\/c.kind=2\/c.kind=3)(ao:rZ w Q b)(al:vp w H cs):
 bG 56 #[Q,H] w λe w'=>∃bb,e= .returned (.bool bb)/\(bb=Z↔rC b cs)/\aP w w':=by
 obtain⟨a1,a2,a9,a3,rfl,a6,g⟩:=al;obtain⟨bc,v,bg,aM,rfl,f⟩:=ao;unfold Ur at am an;by_cases q:b.length=cs.length
 ·have P:((b.length:Int) !=(cs.length:Int))=T8:=by simp[q]
  have A:=af q;have C:=af g;have D:=af f;have z:=af N;clear g q f N;go_enter ay.func56,Tryz.ntmps56
  go_wp2_with fail
  clear P
  go_loopw [14] (λd wr=>∃a:Nat,a<=cs.length/\d= .int .i64 a/\(∀d,(k:d<b.length)->(l:d<cs.length)->d<a->fR b[d] cs[d].kind=Z)/\aP w wr) (λd _=>cs.length-(UT d).toNat)
  case atStart=>exact⟨0,UF _,rfl,λbd _ _ h=>by omega,Uq _ _⟩
  case round=>
   obtain⟨a,a7,rfl,I,i⟩:=hrel;have o:=af I;have x:=af i;have ap:=i.size;clear I;by_cases n:a<cs.length
   ·have g:=C.o.below i;have f:=D.o.below i;have r:a<b.length:=by rw[A.o];exact n
    obtain rfl:=g.addr (by omega);obtain rfl:=f.addr (by omega);have u:=f.lt (by omega);have ar:=g.c0 a n;have av:=g.c1 a n;have R:=f.c0 a r;have S:=f.c1 a r;have T:=f.c2 a r;have O:=z.o cs[a] (Uk n);have B:X (∀p,bG 82 #[.agg #[.bool b[a].null,.int .i64 b[a].n,.string b[a].s],.int .i64 cs[a].kind] p λe w'=>e= .returned (.bool (fR b[a] cs[a].kind))/\aP p w'):=λp=>qI b[a] cs[a].kind p O;have s:X (fR b[a] cs[a].kind=T8->¬rC b cs):=λh ae=>by
     have:=ae.2 a r n;rw[h] at this;cases this
    have t:X (fR b[a] cs[a].kind=Z->∀d,(k:d<b.length)->(l:d<cs.length)->d<a+1->fR b[d] cs[d].kind=Z):=λh d k l a5=>by
     by_cases ad:d=a
     ·subst ad;exact h
     ·exact o.o d k l (by omega)
    clear g f i o C D z O;generalize b[a]=W at*;generalize cs[a]=c at*;have a8:(a:Int)<(b.length:Int):=by omega
    go_upto_region 6 with fail
    obtain⟨aw,ba⟩:=ot wr (.string c.name) (.int .i64 c.kind) 63;have m:aP wr (wr.alloc (.cells #[.string c.name,.int .i64 c.kind] 63)):=(Uq _ _).alloc (T9 _) _;have u0:=(m.cell (p:=⟨v,bg+a*3,K⟩) u).trans R;have u1:=(m.cell (p:=⟨v,bg+a*3+1,K⟩) u).trans S;have u2:=(m.cell (p:=⟨v,bg+a*3+2,K⟩) u).trans T;have y:=af (x.o.trans (m.mono ap));clear m ar av R S T aw;generalize wr.alloc (.cells #[.string c.name,.int .i64 c.kind] 63)=G at*;generalize wr.heap.size=a4 at*
    go_cut [26] from 15 to 27 (λaz V=>az= .bool (!fR W c.kind)/\aP w V)
    case first=>
     go_region_with (go_at_call 82;refine(B.o _).mono ?_;rintro e a0 ⟨rfl,L⟩)
     all_goals
      have j:X (aP w a0):=y.o.trans ((((Uq G.heap.size G).drew).trans L).mono y.o.size);clear L
      go_wp2_with fail
      go_meet
      exact⟨rfl,j.o⟩
    case rest=>
     rename F=>V
     obtain⟨rfl,M⟩:=hcut;have j:=af M;clear M B;cases J:fR W c.kind
     ·have E:=af (s.o J);clear s t;go_wp2;go_ret
      first
       |exact⟨T8,rfl,by simp only[UC,false_iff];exact E.o,j.o⟩
       |exact .inl ⟨rfl,E.o,j.o⟩
     ·have ab:=af (t.o J);clear s t;go_wp2
      go_roundw
      case rel=>exact⟨a+1,by omega,by go_num,ab.o,j.o⟩
      case measure=>simp[UT];omega
   ·have aa:X (rC b cs):=⟨A.o,λd k l=>o.o d k l (by omega)⟩;clear o i;go_wp2;go_ret;exact⟨Z,rfl,by simp only[true_iff];exact aa.o,x.o⟩
 ·have P:((b.length:Int) !=(cs.length:Int))=Z:=by simp;omega
  have Y:X (¬rC b cs):=λh=>q h.1;clear g f;go_enter ay.func56,Tryz.ntmps56;go_wp2
  all_goals go_ret
  all_goals exact⟨T8,rfl,by simp only[UC,false_iff];exact Y.o,Uq _ _⟩
structure Dg(w:F)(ao:Option UK)(b off:Nat)(l:List (List aE)):Prop where
 addr:0<l.length->ao=I ⟨b,off,K⟩
 lt:0<l.length->b<w.heap.size
 c:∀j (h:j<l.length),∃v,w.cell? ⟨b,off+j,K⟩=I v/\rZ w v l[j]
def Dg.below{w w':F}{c:Option UK}{b off:Nat}{l:List (List aE)}(h:Dg w c b off l)(a:WN w.heap.size w w'):Dg w' c b off l:=
 ⟨h.addr,λe=>Ue (h.lt e) a.size,λd i=>by
  obtain⟨v,f,g⟩:=h.c d i;exact⟨v,(a.cell (p:=⟨b,off+d,K⟩) (h.lt (by omega))).trans f,g.below a⟩⟩
def AD (w:F)(v:U)(l:List (List aE)):Prop:=∃a c d b,v= .slice a l.length b/\l.length<=b/\Dg w a c d l
def AD.below{w w':F}{v:U}{l:List (List aE)}(h:AD w v l)(d:WN w.heap.size w w'):AD w' v l:=by
 obtain⟨a,b,f,c,rfl,e,h⟩:=h;exact⟨a,b,f,c,rfl,e,h.below d⟩
def iI (cs:List bK)(a:List (List aE)):Prop:=hU cs/\a.length<=2000/\∀b,(c:b<a.length)->rC a[b] cs
def gz{cs:List bK}(h:hU cs):∀c∈cs,c.kind=1\/c.kind=2\/c.kind=3:=by
 intro c a;obtain⟨d,b,rfl⟩:=Vw a;have:=(h.2.2 d b).1;simp[n6,fY] at this;omega
def pQ{Q:Prop}{R:F->Prop}{P:Ug}{f:Nat}{args:Array U}{w:F}(h:Calls P f args w λe w'=>∃bb,e= .returned (.bool bb)/\(bb=Z↔Q)/\R w')(c:Q):Calls P f args w λe w'=>e= .returned (.bool Z)/\R w':=
 h.mono (by rintro e w' ⟨bb,rfl,b,a⟩;rw[b.2 c];exact⟨rfl,a⟩)
def n8{Q:Prop}{R:F->Prop}{P:Ug}{f:Nat}{args:Array U}{w:F}(h:Calls P f args w λe w'=>∃bb,e= .returned (.bool bb)/\(bb=Z↔Q)/\R w')(c:¬Q):Calls P f args w λe w'=>e= .returned (.bool T8)/\R w':=
 h.mono (by
  rintro e w' ⟨bb,rfl,b,a⟩;cases bb
  ·exact⟨rfl,a⟩
  ·exact absurd (b.1 Y) c)
def D2(cs:List bK)(a:List (List aE))(M T:U)(w:F)(O:cs.length<=Ur)(a4:a.length<=Ur)(a5:∀r∈a,r.length<=Ur)(N:vp w M cs)(a7:AD w T a):
 bG 40 #[.agg #[M,T]] w λe w'=>∃bb,e= .returned (.bool bb)/\(bb=Z↔iI cs a)/\WN w.heap.size w w':=by
 have a2:=N;obtain⟨n,bc,bm,o,rfl,be,-⟩:=a2;obtain⟨u,bo,bg,aM,rfl,bl,q⟩:=a7;have ab:=af N;have an:=af q;have C:=af O;have ad:=af a5;unfold Ur at O a4;go_enter ay.func40,Tryz.ntmps40
 go_upto_region 1 with fail
 obtain⟨t,I⟩:=ot w (.slice n cs.length o) (.slice u a.length aM) 46;have E:WN w.heap.size w (w.alloc (.cells #[.slice n cs.length o,.slice u a.length aM] 46)):=(Uq _ _).alloc (T9 _) _;have k:w.heap.size<(w.alloc (.cells #[.slice n cs.length o,.slice u a.length aM] 46)).heap.size:=by simp
 have aa:=ab.o.below E;have al:=an.o.below E;have x:=af E;generalize w.alloc (.cells #[.slice n cs.length o,.slice u a.length aM] 46)=m at*;have z:=af aa;have am:=af al;generalize a3:w.heap.size=j at*;have A:=af a3;by_cases p:hU cs
 ·have i:=pQ (mw cs _ m C.o z.o) p;have J:=af p;by_cases P:a.length<=2000
  ·have aw:decide (2000<(a.length:Int))=T8:=by simp;omega
   go_wp2_with (go_at_call 55;refine i.mono ?_;rintro e V ⟨rfl,f⟩;have R:=(f.cell (p:=⟨j,0,K⟩) k).trans t;have S:=(f.cell (p:=⟨j,1,K⟩) k).trans I)
   have Y:=af f
   go_loopw [18] (λb wr=>∃c:Nat,c<=a.length/\b= .int .i64 c/\(∀b,(g:b<a.length)->b<c->rC a[b] cs)/\WN m.heap.size m wr) (λb _=>a.length-(UT b).toNat)
   case atStart=>exact⟨0,UF _,rfl,λbr _ g=>by omega,Y.o⟩
   case round=>
    rename F=>wr
    obtain⟨c,bj,rfl,a0,l⟩:=hrel;have i:=af a0;have W:=af l;have y:X (WN w.heap.size w wr):=by
     show WN w.heap.size w wr;have d:=x.o;have h:=l.mono d.size;rw[A.o] at h ⊢;exact d.trans h
    have bs:=(l.cell (p:=⟨j,0,K⟩) k).trans t;have a8:=l.size;by_cases H:c<a.length
    ·have q:=am.o.below l;obtain rfl:=q.addr (by omega);obtain⟨v,bi,Q⟩:=q.c c H;have a6:=ad.o a[c] (Uk H);have L:=af (JF a[c] cs v _ wr a6 C.o (gz J.o) Q (z.o.below l));have ao:X (¬rC a[c] cs->¬iI cs a):=λg a1=>g (a1.2.2 c H);have ar:X (rC a[c] cs->∀b,(g:b<a.length)->b<c+1->rC a[b] cs):=λg b d bd=>by
      by_cases az:b=c
      ·subst az;exact g
      ·exact i.o b d (by omega)
     obtain⟨bu,bt,kq,gQ,rfl,-⟩:=Q;generalize a[c]=ba at*;by_cases s:rC ba cs
     ·have B:=af (pQ L.o s);have av:=af (ar.o s)
      go_wp2_with (go_at_call 56;refine B.o.mono ?_;rintro e a9 ⟨rfl,G⟩)
      go_roundw
      case rel=>exact⟨c+1,by omega,by go_num,av.o,W.o.trans (G.mono a8)⟩
      case measure=>simp[UT];omega
     ·have B:=af (n8 L.o s);have ap:=af (ao.o s)
      go_wp2_with (go_at_call 56;refine B.o.mono ?_;rintro e a9 ⟨rfl,G⟩)
      go_ret;exact⟨T8,rfl,by simp only[UC,false_iff];exact ap.o,y.o.trans (G.mono y.o.size)⟩
    ·have ae:X (iI cs a):=⟨J.o,P,λb d=>i.o b d (by omega)⟩;go_wp2;go_ret;exact⟨Z,rfl,by simp only[true_iff];exact ae.o,y.o⟩
  ·have aw:decide (2000<(a.length:Int))=Z:=by simp;omega
   have D:X (¬iI cs a):=λg=>P g.2.1
   go_wp2_with (go_at_call 55;refine i.mono ?_;rintro e V ⟨rfl,f⟩;have R:=(f.cell (p:=⟨j,0,K⟩) k).trans t;have S:=(f.cell (p:=⟨j,1,K⟩) k).trans I)
   go_ret;refine⟨T8,rfl,by simp only[UC,false_iff];exact D.o,?_⟩;have d:=x.o;have h:=f.mono d.size;rw[A.o] at h ⊢;exact d.trans h
 ·have i:=n8 (mw cs _ m C.o z.o) p;have D:X (¬iI cs a):=λg=>p g.1
  go_wp2_with (go_at_call 55;refine i.mono ?_;rintro e V ⟨rfl,f⟩;have R:=(f.cell (p:=⟨j,0,K⟩) k).trans t;have S:=(f.cell (p:=⟨j,1,K⟩) k).trans I)
  go_ret;refine⟨T8,rfl,by simp only[UC,false_iff];exact D.o,?_⟩;have d:=x.o;have h:=f.mono d.size;rw[A.o] at h ⊢;exact d.trans h
end Ec
namespace Ec
open Go.RowKit Pk Pm
def qd(c n:Int)(w:F)(i:1<=n)(j:n<=1000)(g: -9223372036854775808<=c)(h1:c<=9223372036854775807):bG 23 #[.int .i64 c,.int .i64 n] w λe w'=>w'=w/\∃r,e= .returned (.int .i64 r)/\0<=r/\r<n:=by
 have k:¬n=0:=by omega
 by_cases h:c<0
 ·have d:Vd (c+1)=c+1:=by unfold Vd;omega
  have f:Vd (-(c+1))= -(c+1):=by unfold Vd;omega
  have a:=tmod_neg (c+1) n (by omega) (by omega);have b:Vd (-((c+1).tmod n))= -((c+1).tmod n):=by unfold Vd;omega
  go_enter ay.func23,Tryz.ntmps23;go_wp2;go_ret;exact⟨rfl,_,rfl,a⟩
 ·have a:=E4 c n (by omega) (by omega);have b:Vd (c.tmod n)=c.tmod n:=by unfold Vd;omega
  go_enter ay.func23,Tryz.ntmps23;go_wp2;go_ret;exact⟨rfl,_,rfl,Int.emod_nonneg _ (by omega),Int.emod_lt_of_pos _ (by omega)⟩
def nameOf(k:Nat):ByteArray:=⟨#[UInt8.ofNat (97+k)]⟩
def MS(k:Nat)(w:F)(m:k<8):bG 38 #[.int .i64 (k:Int)] w λe w'=>aP w w'/\e= .returned (.string (nameOf k)):=by
 have a:∀b:Nat,(convert 133 9 (.slice (I ⟨w.heap.size,0,K⟩) 1 1)).run (aB T5) (w.alloc (.cells #[.int .u8 (b:Int)] 5))= .ok (.string (strOf [b])) (w.alloc (.cells #[.int .u8 (b:Int)] 5)):=λb=>DD w b;have:k=0\/k=1\/k=2\/k=3\/k=4\/k=5\/k=6\/k=7:=by omega
 have c:=a 97;have d:=a 98;have f:=a 99;have g:=a 100;have h:=a 101;have i:=a 102;have j:=a 103;have l:=a 104;simp only[Int.cast_ofNat_Int] at c d f g h i j l;rcases this with rfl|rfl|rfl|rfl|rfl|rfl|rfl|rfl
 all_goals
  go_enter ay.func38,Tryz.ntmps38;go_wp2;go_ret;exact⟨(Uq _ _).alloc (T9 _) _,rfl⟩
end Ec
namespace Ec
open Go.RowKit Pk
def Ea (a b:Int):Int:=if a<b then -1 else if b<a then 1 else 0
def fq (x y:aE):Int:=if x.n<y.n then -1 else if y.n<x.n then 1 else Vf x.s.data.toList y.s.data.toList
def Qe(x y:aE):fq x y=if Ea x.n y.n=0 then Vf x.s.data.toList y.s.data.toList else Ea x.n y.n:=by
 unfold fq Ea;by_cases a:x.n<y.n
 ·rw[if_pos a,if_pos a,if_neg (by omega)]
 ·rw[if_neg a,if_neg a];by_cases b:y.n<x.n
  ·rw[if_pos b,if_pos b,if_neg (by omega)]
  ·rw[if_neg b,if_neg b,if_pos Y]
def JE(a:Int)(w:F):bG 159 #[.int .i64 a] w λe w'=>e= .returned (.bool T8)/\w'=w:=by
 go_enter ay.func159,Tryz.ntmps159;go_wp2;go_ret;exact⟨rfl,rfl⟩
def xY(a b:Int)(w:F):bG 148 #[.int .i64 a,.int .i64 b] w λe w'=>e= .returned (.int .i64 (Ea a b))/\w'=w:=by
 have c:=JE;unfold Ea;go_enter ay.func148,Tryz.ntmps148;by_cases d:a<b
 ·rw[if_pos d]
  go_wp2_with (go_at_call 159;refine(c _ _).mono ?_;rintro g w' ⟨rfl,rfl⟩)
  go_ret;exact⟨rfl,rfl⟩
 ·rw[if_neg d];by_cases f:b<a
  ·rw[if_pos f]
   go_wp2_with (go_at_call 159;refine(c _ _).mono ?_;rintro g w' ⟨rfl,rfl⟩)
   go_ret;exact⟨rfl,rfl⟩
  ·rw[if_neg f]
   go_wp2_with (go_at_call 159;refine(c _ _).mono ?_;rintro g w' ⟨rfl,rfl⟩)
   go_ret;exact⟨rfl,rfl⟩
def z8(a b:ByteArray)(w:F):bG 160 #[.string a,.string b] w λe w'=>e= .returned (.int .i64 (Vf a.data.toList b.data.toList))/\w'=w:=by
 go_enter ay.func160,Tryz.ntmps160;go_wp2;rw[run_callFunc_extern ay.func168 (by kernel_rfl) (by kernel_rfl) (by kernel_rfl) (e:=XA) (by kernel_rfl),Lib.run_compareString];simp only[Result.andThen];rw[Oper.upon_value];go_wp2;go_ret;exact⟨rfl,rfl⟩
def CD(a b:ByteArray)(w:F):bG 149 #[.string a,.string b] w λe w'=>e= .returned (.int .i64 (Vf a.data.toList b.data.toList))/\w'=w:=by
 go_enter ay.func149,Tryz.ntmps149
 go_wp2_with (go_at_call 160;refine(z8 _ _ _).mono ?_;rintro e w' ⟨rfl,rfl⟩)
 go_ret;exact⟨rfl,rfl⟩
def Jf(a b:Int)(g:Nat)(w:F)(p:w.cell? ⟨g,0,K⟩=I (.int .i64 a))(h1:w.cell? ⟨g,1,K⟩=I (.int .i64 b)):
 bG 147 #[.slice (I ⟨g,0,K⟩) 2 2] w λe w'=>e= .returned (.int .i64 (if a=0 then b else a))/\w'=w:=by
 go_enter ay.func147,Tryz.ntmps147
 go_wp2_with fail
 go_loopw [8] (λi wr=>∃d:Nat,d<=2/\i= .int .i64 (d:Int)/\(1<=d->a=0)/\(2<=d->b=0)/\wr=w) (λi _=>2-(UT i).toNat)
 case atStart=>exact⟨0,by omega,rfl,λl=>by omega,λl=>by omega,rfl⟩
 case round=>
  obtain⟨d,o,rfl,m,n,rfl⟩:=hrel;have j:=af m;have k:=af n
  match d,o with
  |0,_=>
   by_cases c:a=0
   ·have h:(a !=0)=T8:=by simp[c]
    have f:=af c;go_wp2
    go_roundw
    case rel=>
     refine⟨1,by omega,rfl,λ_=>f.o,?_⟩;simp
    case measure=>simp[UT]
   ·have h:(a !=0)=Z:=by simp[c]
    have f:=af c;go_wp2;go_ret;exact⟨rfl,rfl⟩
  |1,_=>
   obtain rfl:a=0:=j.o (by omega);by_cases c:b=0
   ·have h:(b !=0)=T8:=by simp[c]
    have f:=af c;go_wp2
    go_roundw
    case rel=>
     refine⟨2,by omega,rfl,?_⟩;simp
     try exact f.o
    case measure=>simp[UT]
   ·have h:(b !=0)=Z:=by simp[c]
    go_wp2;go_ret;exact⟨rfl,rfl⟩
  |2,_=>
   obtain rfl:a=0:=j.o (by omega);obtain rfl:b=0:=k.o (by omega);go_wp2;go_ret;exact⟨rfl,rfl⟩
theorem AP:∀A B:List UInt8,Vf A B= - Vf B A
 | [],[]=>rfl
 | [],_::_=>rfl
 |_::_,[]=>rfl
 |a::f,d::g=>by
  have e:=AP f g;simp only[Vf];by_cases b:a<d
  ·rw[if_pos b,if_neg (by rw[UInt8.lt_iff_toNat_lt] at b ⊢;omega),if_pos b]
  ·rw[if_neg b];by_cases c:d<a
   ·rw[if_pos c,if_pos c];rfl
   ·rw[if_neg c,if_neg c,if_neg b,e]
def mh(x y:aE):fq x y= - fq y x:=by
 unfold fq;by_cases a:x.n<y.n
 ·rw[if_pos a,if_neg (by omega),if_pos a]
 ·rw[if_neg a];by_cases b:y.n<x.n
  ·rw[if_pos b,if_pos b];rfl
  ·rw[if_neg b,if_neg b,if_neg a];exact AP _ _
def vi(x:aE):fq x x=0:=by
 have:=mh x x;omega
structure lC where
 there:Bool
 least:aE
 most:aE
def cF:lC:=⟨T8,⟨T8,0,⟨#[]⟩⟩,⟨T8,0,⟨#[]⟩⟩⟩
def nY (b:lC)(v:aE):lC:=
 if v.null then b
 else⟨Z,if b.there=T8\/fq v b.least<0 then v else b.least,if b.there=T8\/0<fq v b.most then v else b.most⟩
def cy (l:List aE):lC:=l.foldl nY cF
def BL(l:List aE)(k:Nat)(h:k<l.length):cy (l.take (k+1))=nY (cy (l.take k)) l[k]:=by
 unfold cy;rw[Up h,List.foldl_append];rfl
def gB{w:F}(o p:Xx):aP w ((w.alloc o).alloc p):=((Uq _ _).alloc (T9 _) o).alloc (by simp) p
def LB(w:F)(x y:aE):(λW:F=>W.cell? ⟨w.heap.size,1,K⟩=I (.int .i64 x.n)/\W.cell? ⟨w.heap.size,2,K⟩=I (.string x.s)/\W.cell? ⟨w.heap.size+1,1,K⟩=I (.int .i64 y.n)/\W.cell? ⟨w.heap.size+1,2,K⟩=I (.string y.s)) ((w.alloc (.cells (iG x) 59)).alloc (.cells (iG y) 59)):=by
 refine⟨?_,?_,?_,?_⟩<;>simp
def jJ(x y:aE)(w:F):
 bG 125 #[.agg (iG x),.agg (iG y)] w λe w'=>e= .returned (.int .i64 (fq x y))/\aP w w':=by
 have j:=xY x.n y.n;have k:=CD x.s y.s;have l:X (∀(a:F) (d:Nat),d=a.heap.size->bG 147 #[.slice (I ⟨d,0,K⟩) 2 2] ((a.alloc (.cells #[.int .i64 (Ea x.n y.n),.int .i64 (Vf x.s.data.toList y.s.data.toList)] 3)).drew) λe w'=>e= .returned (.int .i64 (fq x y))/\w'=((a.alloc (.cells #[.int .i64 (Ea x.n y.n),.int .i64 (Vf x.s.data.toList y.s.data.toList)] 3)).drew)):=λa d i=>by
  rw[Qe];subst i;exact Jf _ _ a.heap.size _ (by simp) (by simp)
 generalize Ea x.n y.n=n at*;generalize Vf x.s.data.toList y.s.data.toList=o at*;generalize fq x y=p at*;go_enter ay.func125,Tryz.ntmps125
 go_upto_region 1 with fail
 have h:aP w ((w.alloc (.cells (iG x) 59)).alloc (.cells (iG y) 59)):=gB _ _;have m:=LB w x y;have i:w.heap.size+1<((w.alloc (.cells (iG x) 59)).alloc (.cells (iG y) 59)).heap.size:=by simp
 generalize (w.alloc (.cells (iG x) 59)).alloc (.cells (iG y) 59)=f at*;obtain⟨s,t,u,v⟩:=m;have q:w.heap.size≠f.heap.size:=by omega
 have r:w.heap.size+1≠f.heap.size:=by omega
 generalize w.heap.size+1=g at*
 go_region_held (λa=>a.cell? ⟨w.heap.size,1,K⟩=I (.int .i64 x.n)/\a.cell? ⟨w.heap.size,2,K⟩=I (.string x.s)/\a.cell? ⟨g,1,K⟩=I (.int .i64 y.n)/\a.cell? ⟨g,2,K⟩=I (.string y.s)) (go_keep) (first
  |(go_at_call 148;refine(j _).mono ?_;rintro e c ⟨rfl,b⟩;rw[b];clear b c)
  |(go_at_call 149;refine(k _).mono ?_;rintro e c ⟨rfl,b⟩;rw[b];clear b c)
  |(go_at_call 147;refine(l.o _ _ Y).mono ?_;rintro e c ⟨rfl,b⟩;rw[b];clear b c))
 all_goals go_wp2_with fail
 all_goals go_ret
 all_goals exact⟨rfl,(h.alloc h.size _).drew⟩
end Ec
namespace Ec
open Go.RowKit Pk Pm
def aN(w:F)(g o:Nat)(v:U):w.grownBy (w.setCell ⟨g,o,K⟩ v) (I g):=
 ⟨rfl,rfl,rfl,by simp,λc _ b=>Uv _ _ _ _ (λa=>b (by cases a;rfl))⟩
def dj{n:Nat}{w a:F}(h:WN n w a)(c:n<=a.heap.size){g:Nat}(e:n<=g)(o:Nat)(v:U):WN n w (a.setCell ⟨g,o,K⟩ v):=
 h.grown (aN a g o v) c (by intro d b;simp at b;omega)
def bT{n:Nat}{w a:F}(h:WN n w a)(c:n<=w.heap.size){g:Nat}(b:n<=g)(o:Nat)(v:U):WN n w (a.setCell ⟨g,o,K⟩ v):=
 dj h (Uz c h.size) b o v
def bh(w:F)(o:Xx):(w.alloc o).heap[w.heap.size]? =I o:=by
 show(w.heap.push o)[w.heap.size]? =I o;simp
def alloc_old{w:F}{k:Nat}{x:Option Xx}(o:Xx)(h:k<w.heap.size)(a:w.heap[k]? =x):(w.alloc o).heap[k]? =x:=
 (((Uq w.heap.size w).alloc (T9 _) o).block k h).trans a
def jI(w:F)(o p:Xx):((w.alloc o).alloc p).heap[w.heap.size+1]? =I p:=by
 have:=bh (w.alloc o) p;rwa [show(w.alloc o).heap.size=w.heap.size+1 by simp] at this
def gu (b:lC):Array U:= #[.bool b.there,.bool b.least.null,.int .i64 b.least.n,.string b.least.s,.bool b.most.null,.int .i64 b.most.n,.string b.most.s]
def FF (b:lC):U:=.agg #[.bool b.there,.bool b.least.null,.int .i64 b.least.n,.string b.least.s,.bool b.most.null,.int .i64 b.most.n,.string b.most.s]
structure Fo(w W:F)(gv:Nat)(x:aE)(b:lC):Prop where
 box:W.heap[w.heap.size+1]? =I (.cells (gu b) 141 (0,0))
 res:W.heap[w.heap.size]? =I (.cells (gu cF) 141 (0,0))
 one:W.heap[gv]? =I (.cells (iG x) 59 (0,0))
 zS:w.heap.size+1<gv
 dh:aP w W
def Fo.below{w W c:F}{d:Nat}{x:aE}{b:lC}(h:Fo w W d x b)(a:aP W c):Fo w c d x b:=
 ⟨(a.block _ (Uf h.box)).trans h.box,(a.block _ (Uf h.res)).trans h.res,(a.block _ (Uf h.one)).trans h.one,h.zS,h.dh.trans (a.mono h.dh.size)⟩
def Fo.least{w W:F}{c:Nat}{x:aE}{b:lC}(h:Fo w W c x b):
 Fo w (((W.setCell ⟨w.heap.size+1,1,K⟩ (.bool x.null)).setCell ⟨w.heap.size+1,2,K⟩ (.int .i64 x.n)).setCell ⟨w.heap.size+1,3,K⟩ (.string x.s)) c x ⟨b.there,x,b.most⟩:=by
 have d:=Us W (w.heap.size+1) 1 _ _ (.bool x.null) h.box;have e:=Us _ (w.heap.size+1) 2 _ _ (.int .i64 x.n) d;have f:=Us _ (w.heap.size+1) 3 _ _ (.string x.s) e;have a:=h.dh.size;have g:=h.zS;refine⟨f,?_,?_,h.zS,?_⟩
 ·rw[Uv _ _ _ _ (by simp),Uv _ _ _ _ (by simp),Uv _ _ _ _ (by simp)];exact h.res
 ·rw[Uv _ _ _ _ (by simp;omega),Uv _ _ _ _ (by simp;omega),Uv _ _ _ _ (by simp;omega)];exact h.one
 ·exact dj (dj (dj h.dh a (by omega) _ _) (by simpa using a) (by omega) _ _) (by simpa using a) (by omega) _ _
def Fo.most{w W:F}{c:Nat}{x:aE}{b:lC}(h:Fo w W c x b):
 Fo w (((W.setCell ⟨w.heap.size+1,4,K⟩ (.bool x.null)).setCell ⟨w.heap.size+1,5,K⟩ (.int .i64 x.n)).setCell ⟨w.heap.size+1,6,K⟩ (.string x.s)) c x ⟨b.there,b.least,x⟩:=by
 have d:=Us W (w.heap.size+1) 4 _ _ (.bool x.null) h.box;have e:=Us _ (w.heap.size+1) 5 _ _ (.int .i64 x.n) d;have f:=Us _ (w.heap.size+1) 6 _ _ (.string x.s) e;have a:=h.dh.size;have g:=h.zS;refine⟨f,?_,?_,h.zS,?_⟩
 ·rw[Uv _ _ _ _ (by simp),Uv _ _ _ _ (by simp),Uv _ _ _ _ (by simp)];exact h.res
 ·rw[Uv _ _ _ _ (by simp;omega),Uv _ _ _ _ (by simp;omega),Uv _ _ _ _ (by simp;omega)];exact h.one
 ·exact dj (dj (dj h.dh a (by omega) _ _) (by simpa using a) (by omega) _ _) (by simpa using a) (by omega) _ _
def Fo.set{w W:F}{a:Nat}{x:aE}{b:lC}(h:Fo w W a x b):Fo w (W.setCell ⟨w.heap.size+1,0,K⟩ (.bool Z)) a x ⟨Z,b.least,b.most⟩:=by
 have c:=Us W (w.heap.size+1) 0 _ _ (.bool Z) h.box;have d:=h.dh.size;have e:=h.zS;refine⟨c,?_,?_,h.zS,?_⟩
 ·rw[Uv _ _ _ _ (by simp)];exact h.res
 ·rw[Uv _ _ _ _ (by simp;omega)];exact h.one
 ·exact dj h.dh d (by omega) _ _
def ed{w:F}{g:Nat}{b:lC}{t:Ui}(h:w.heap[g]? =I (.cells (gu b) t (0,0))):
 (w.cell? ⟨g,0,K⟩=I (.bool b.there)/\w.cell? ⟨g,1,K⟩=I (.bool b.least.null)/\w.cell? ⟨g,2,K⟩=I (.int .i64 b.least.n)/\w.cell? ⟨g,3,K⟩=I (.string b.least.s)/\
   w.cell? ⟨g,4,K⟩=I (.bool b.most.null)/\w.cell? ⟨g,5,K⟩=I (.int .i64 b.most.n)/\w.cell? ⟨g,6,K⟩=I (.string b.most.s))/\
 (w.frozen? ⟨g,0,K⟩=T8/\w.frozen? ⟨g,1,K⟩=T8/\w.frozen? ⟨g,2,K⟩=T8/\w.frozen? ⟨g,3,K⟩=T8/\w.frozen? ⟨g,4,K⟩=T8/\w.frozen? ⟨g,5,K⟩=T8/\w.frozen? ⟨g,6,K⟩=T8):=by
 unfold gu at h;refine⟨⟨?_,?_,?_,?_,?_,?_,?_⟩,?_,?_,?_,?_,?_,?_,?_⟩<;>first|simp[Ut,h]|simp[UR,h]
def cC{w:F}{g:Nat}{a b c:U}{t:Ui}(h:w.heap[g]? =I (.cells #[a,b,c] t (0,0))):
 w.cell? ⟨g,0,K⟩=I a/\w.cell? ⟨g,1,K⟩=I b/\w.cell? ⟨g,2,K⟩=I c:=by
 refine⟨?_,?_,?_⟩<;>simp[Ut,h]
def Fo.start{w wr:F}{b:lC}(x:aE)(d:wr.heap[w.heap.size+1]? =I (.cells (gu b) 141 (0,0)))(e:wr.heap[w.heap.size]? =I (.cells (gu cF) 141 (0,0)))(c:aP w wr):
 Fo w (wr.alloc (.cells (iG x) 59)) wr.heap.size x b:=by
 have f:=Uf d;have g:=Uf e;have a:=(Uq wr.heap.size wr).alloc (T9 _) (.cells (iG x) 59);refine⟨(a.block _ f).trans d,(a.block _ g).trans e,bh _ _,by omega,c.trans (a.mono c.size)⟩
def Ow{w:F}{g:Nat}{a:lC}(b:lC){t:Ui}(h:w.heap[g]? =I (.cells (gu a) t (0,0))):
 (((((((w.setCell ⟨g,0,K⟩ (.bool b.there)).setCell ⟨g,1,K⟩ (.bool b.least.null)).setCell ⟨g,2,K⟩ (.int .i64 b.least.n)).setCell ⟨g,3,K⟩ (.string b.least.s)).setCell ⟨g,4,K⟩ (.bool b.most.null)).setCell ⟨g,5,K⟩ (.int .i64 b.most.n)).setCell ⟨g,6,K⟩ (.string b.most.s)).heap[g]? =I (.cells (gu b) t (0,0)):=by
 have c:(w.setCell ⟨g,0,K⟩ (.bool b.there)).heap[g]? =I (.cells (gu ⟨b.there,⟨a.least.null,a.least.n,a.least.s⟩,⟨a.most.null,a.most.n,a.most.s⟩⟩) t (0,0)):=Us _ g 0 _ _ (.bool b.there) h;have d:((w.setCell ⟨g,0,K⟩ (.bool b.there)).setCell ⟨g,1,K⟩ (.bool b.least.null)).heap[g]? =I (.cells (gu ⟨b.there,⟨b.least.null,a.least.n,a.least.s⟩,⟨a.most.null,a.most.n,a.most.s⟩⟩) t (0,0)):=Us _ g 1 _ _ (.bool b.least.null) c;have e:(((w.setCell ⟨g,0,K⟩ (.bool b.there)).setCell ⟨g,1,K⟩ (.bool b.least.null)).setCell ⟨g,2,K⟩ (.int .i64 b.least.n)).heap[g]? =I (.cells (gu ⟨b.there,⟨b.least.null,b.least.n,a.least.s⟩,⟨a.most.null,a.most.n,a.most.s⟩⟩) t (0,0)):=Us _ g 2 _ _ (.int .i64 b.least.n) d;have f:((((w.setCell ⟨g,0,K⟩ (.bool b.there)).setCell ⟨g,1,K⟩ (.bool b.least.null)).setCell ⟨g,2,K⟩ (.int .i64 b.least.n)).setCell ⟨g,3,K⟩ (.string b.least.s)).heap[g]? =I (.cells (gu ⟨b.there,⟨b.least.null,b.least.n,b.least.s⟩,⟨a.most.null,a.most.n,a.most.s⟩⟩) t (0,0)):=Us _ g 3 _ _ (.string b.least.s) e;have i:(((((w.setCell ⟨g,0,K⟩ (.bool b.there)).setCell ⟨g,1,K⟩ (.bool b.least.null)).setCell ⟨g,2,K⟩ (.int .i64 b.least.n)).setCell ⟨g,3,K⟩ (.string b.least.s)).setCell ⟨g,4,K⟩ (.bool b.most.null)).heap[g]? =I (.cells (gu ⟨b.there,⟨b.least.null,b.least.n,b.least.s⟩,⟨b.most.null,a.most.n,a.most.s⟩⟩) t (0,0)):=Us _ g 4 _ _ (.bool b.most.null) f;have j:((((((w.setCell ⟨g,0,K⟩ (.bool b.there)).setCell ⟨g,1,K⟩ (.bool b.least.null)).setCell ⟨g,2,K⟩ (.int .i64 b.least.n)).setCell ⟨g,3,K⟩ (.string b.least.s)).setCell ⟨g,4,K⟩ (.bool b.most.null)).setCell ⟨g,5,K⟩ (.int .i64 b.most.n)).heap[g]? =I (.cells (gu ⟨b.there,⟨b.least.null,b.least.n,b.least.s⟩,⟨b.most.null,b.most.n,a.most.s⟩⟩) t (0,0)):=Us _ g 5 _ _ (.int .i64 b.most.n) i;have k:(((((((w.setCell ⟨g,0,K⟩ (.bool b.there)).setCell ⟨g,1,K⟩ (.bool b.least.null)).setCell ⟨g,2,K⟩ (.int .i64 b.least.n)).setCell ⟨g,3,K⟩ (.string b.least.s)).setCell ⟨g,4,K⟩ (.bool b.most.null)).setCell ⟨g,5,K⟩ (.int .i64 b.most.n)).setCell ⟨g,6,K⟩ (.string b.most.s)).heap[g]? =I (.cells (gu ⟨b.there,⟨b.least.null,b.least.n,b.least.s⟩,⟨b.most.null,b.most.n,b.most.s⟩⟩) t (0,0)):=Us _ g 6 _ _ (.string b.most.s) j;exact k
def z5{w w0:F}{g:Nat}(b:lC){n:Nat}(d:WN n w0 w)(c:n<=w0.heap.size)(a:n<=g):
 WN n w0 (((((((w.setCell ⟨g,0,K⟩ (.bool b.there)).setCell ⟨g,1,K⟩ (.bool b.least.null)).setCell ⟨g,2,K⟩ (.int .i64 b.least.n)).setCell ⟨g,3,K⟩ (.string b.least.s)).setCell ⟨g,4,K⟩ (.bool b.most.null)).setCell ⟨g,5,K⟩ (.int .i64 b.most.n)).setCell ⟨g,6,K⟩ (.string b.most.s)):=
 bT (bT (bT (bT (bT (bT (bT d c a _ _) c a _ _) c a _ _) c a _ _) c a _ _) c a _ _) c a _ _
def BK(ap:U)(l:List aE)(w:F)(br:l.length<=100)(a9:rZ w ap l):
 bG 88 #[ap] w λe w'=>e= .returned (FF (cy l))/\aP w w':=by
 obtain⟨bj,bl,bu,bm,rfl,M⟩:=a9;have aw:=af M;have bd:=λN bb g=>jJ N bb g;go_enter ay.func88,Tryz.ntmps88
 go_wp2_with fail
 go_loopw [8] (λad wr=>∃a:Nat,a<=l.length/\ad= .int .i64 (a:Int)/\wr.heap[w.heap.size+1]? =I (.cells (gu (cy (l.take a))) 141 (0,0))/\wr.heap[w.heap.size]? =I (.cells (gu cF) 141 (0,0))/\aP w wr) (λad _=>l.length-(UT ad).toNat)
 case atStart=>exact⟨0,UF _,rfl,jI _ _ _,alloc_old _ (by simp) (bh _ _),gB _ _⟩
 case round=>
  obtain⟨a,bo,rfl,aa,T,R⟩:=hrel;have bc:=af R;by_cases S:a<l.length
  ·have M:=aw.o.below R;obtain rfl:=M.addr (by omega);have bv:=M.c0 a S;have bx:=M.c1 a S;have bA:=M.c2 a S;have V:=af (BL l a S);generalize cy (l.take a)=am at*;generalize l[a]=N at*;have f:=af (Fo.start N aa T R)
   go_upto_region 5 with fail
   generalize wr.alloc (.cells (iG N) 59)=be at*;generalize wr.heap.size=ao at*;have bs:¬ao=w.heap.size+1:=by have:=f.o.zS;omega
   have bt:¬w.heap.size+1=ao:=by have:=f.o.zS;omega
   obtain⟨B,D,E⟩:=cC f.o.one;obtain⟨⟨k,m,n,o,p,q,r⟩,s,t,u,v,x,y,z⟩:=ed f.o.box;by_cases ab:N.null=Z
   ·have L:X (cy (l.take (a+1))=am):=by show _=_;rw[V.o];unfold nY;rw[if_pos ab]
    rw[ab] at B;go_wp2
    go_roundw
    case rel=>exact⟨a+1,by omega,by go_num,by rw[L.o];exact f.o.box,f.o.res,f.o.dh⟩
    case measure=>simp[UT];omega
   ·obtain⟨ba,c,d⟩:=N;obtain rfl:ba=T8:=by simpa using ab
    obtain⟨a0,j,h⟩:=am;cases a0
    ·have L:X (cy (l.take (a+1))=⟨Z,⟨T8,c,d⟩,⟨T8,c,d⟩⟩):=by show _=_;rw[V.o];unfold nY;simp
     go_wp2
     go_roundw
     case rel=>exact⟨a+1,by omega,by go_num,by rw[L.o];exact f.o.least.most.set.box,f.o.least.most.set.res,f.o.least.most.set.dh⟩
     case measure=>simp[UT];omega
    ·have an:X (∀g,bG 125 #[.agg #[.bool T8,.int .i64 c,.string d],.agg (iG j)] g λe w'=>e= .returned (.int .i64 (fq ⟨T8,c,d⟩ j))/\aP g w'):=λg=>jJ ⟨T8,c,d⟩ j g;have P:X (∀g,bG 125 #[.agg #[.bool T8,.int .i64 c,.string d],.agg (iG h)] g λe w'=>e= .returned (.int .i64 (fq ⟨T8,c,d⟩ h))/\aP g w'):=λg=>jJ ⟨T8,c,d⟩ h g;have L:X (cy (l.take (a+1))=⟨Z,if fq ⟨T8,c,d⟩ j<0 then⟨T8,c,d⟩ else j,if 0<fq ⟨T8,c,d⟩ h then⟨T8,c,d⟩ else h⟩):=by show _=_;rw[V.o];unfold nY;simp
     generalize fq ⟨T8,c,d⟩ j=ae at*;generalize fq ⟨T8,c,d⟩ h=C at*;by_cases Q:ae<0
     ·have a1:decide (ae<0)=Z:=by simpa using Q
      have O:X (cy (l.take (a+1))=⟨Z,⟨T8,c,d⟩,if 0<C then⟨T8,c,d⟩ else h⟩):=by show _=_;rw[L.o,if_pos Q]
      go_upto_region 8 with(go_at_call 125;refine(an.o _).mono ?_;rintro e ar ⟨rfl,Y⟩;have J:=f.o.below Y;obtain⟨B,D,E⟩:=cC J.one;obtain⟨⟨k,m,n,o,p,q,r⟩,s,t,u,v,x,y,z⟩:=ed J.box)
      have i:=af J.least;generalize ((ar.setCell ⟨w.heap.size+1,1,K⟩ (.bool T8)).setCell ⟨w.heap.size+1,2,K⟩ (.int .i64 c)).setCell ⟨w.heap.size+1,3,K⟩ (.string d)=bi at*;obtain⟨B,D,E⟩:=cC i.o.one;obtain⟨⟨k,m,n,o,p,q,r⟩,s,t,u,v,x,y,z⟩:=ed i.o.box;by_cases A:0<C
      ·have W:decide (0<C)=Z:=by simpa using A
       have G:X (cy (l.take (a+1))=⟨Z,⟨T8,c,d⟩,⟨T8,c,d⟩⟩):=by show _=_;rw[O.o,if_pos A]
       go_wp2_with (go_at_call 125;refine(P.o _).mono ?_;rintro e al ⟨rfl,H⟩;have b:=i.o.below H;obtain⟨B,D,E⟩:=cC b.one;obtain⟨⟨k,m,n,o,p,q,r⟩,s,t,u,v,x,y,z⟩:=ed b.box)
       go_roundw
       case rel=>exact⟨a+1,by omega,by go_num,by rw[G.o];exact b.most.set.box,b.most.set.res,b.most.set.dh⟩
       case measure=>simp[UT];omega
      ·have W:decide (0<C)=T8:=by simpa using A
       have G:X (cy (l.take (a+1))=⟨Z,⟨T8,c,d⟩,h⟩):=by show _=_;rw[O.o,if_neg A]
       go_wp2_with (go_at_call 125;refine(P.o _).mono ?_;rintro e al ⟨rfl,H⟩;have b:=i.o.below H;obtain⟨B,D,E⟩:=cC b.one;obtain⟨⟨k,m,n,o,p,q,r⟩,s,t,u,v,x,y,z⟩:=ed b.box)
       go_roundw
       case rel=>exact⟨a+1,by omega,by go_num,by rw[G.o];exact b.set.box,b.set.res,b.set.dh⟩
       case measure=>simp[UT];omega
     ·have a1:decide (ae<0)=T8:=by simpa using Q
      have O:X (cy (l.take (a+1))=⟨Z,j,if 0<C then⟨T8,c,d⟩ else h⟩):=by show _=_;rw[L.o,if_neg Q]
      go_upto_region 8 with(go_at_call 125;refine(an.o _).mono ?_;rintro e ar ⟨rfl,Y⟩;have J:=f.o.below Y;obtain⟨B,D,E⟩:=cC J.one;obtain⟨⟨k,m,n,o,p,q,r⟩,s,t,u,v,x,y,z⟩:=ed J.box)
      have i:=af J;obtain⟨B,D,E⟩:=cC i.o.one;obtain⟨⟨k,m,n,o,p,q,r⟩,s,t,u,v,x,y,z⟩:=ed i.o.box;by_cases A:0<C
      ·have W:decide (0<C)=Z:=by simpa using A
       have G:X (cy (l.take (a+1))=⟨Z,j,⟨T8,c,d⟩⟩):=by show _=_;rw[O.o,if_pos A]
       go_wp2_with (go_at_call 125;refine(P.o _).mono ?_;rintro e al ⟨rfl,H⟩;have b:=i.o.below H;obtain⟨B,D,E⟩:=cC b.one;obtain⟨⟨k,m,n,o,p,q,r⟩,s,t,u,v,x,y,z⟩:=ed b.box)
       go_roundw
       case rel=>exact⟨a+1,by omega,by go_num,by rw[G.o];exact b.most.set.box,b.most.set.res,b.most.set.dh⟩
       case measure=>simp[UT];omega
      ·have W:decide (0<C)=T8:=by simpa using A
       have G:X (cy (l.take (a+1))=⟨Z,j,h⟩):=by show _=_;rw[O.o,if_neg A]
       go_wp2_with (go_at_call 125;refine(P.o _).mono ?_;rintro e al ⟨rfl,H⟩;have b:=i.o.below H;obtain⟨B,D,E⟩:=cC b.one;obtain⟨⟨k,m,n,o,p,q,r⟩,s,t,u,v,x,y,z⟩:=ed b.box)
       go_roundw
       case rel=>exact⟨a+1,by omega,by go_num,by rw[G.o];exact b.set.box,b.set.res,b.set.dh⟩
       case measure=>simp[UT];omega
  ·obtain rfl:a=l.length:=by omega
   rw[Vh] at aa;obtain⟨⟨k,m,n,o,p,q,r⟩,-⟩:=ed aa;obtain⟨-,s,t,u,v,x,y,z⟩:=ed T;obtain⟨⟨bB,b0,b1,b2,b3,b4,b5⟩,-⟩:=ed T;have az:=af (Ow (cy l) T);have av:=af (z5 (cy l) R (T9 _) (T9 w.heap.size));go_wp2;obtain⟨⟨a2,a3,a4,a5,a6,a7,a8⟩,-⟩:=ed az.o;simp[VS,UY,Tryz.results88,go_sem,a2,a3,a4,a5,a6,a7,a8];exact⟨rfl,av.o⟩
def bH (c:List (List aE))(a:Nat):List aE:=c.map λb=>b.getD a ⟨T8,0,⟨#[]⟩⟩
def BT(a:List (List aE))(c:Nat)(s:U)(w:F)(ad:a.length<=100)(G:∀r∈a,c<r.length/\r.length<=Ur)(H:AD w s a):
 bG 86 #[s,.int .i64 (c:Int)] w λe w'=>aP w w'/\∃v,e= .returned v/\w'.ownsRow w.heap.size 59 3 v a.length (aH (bH a c)):=by
 obtain⟨q,n,M,p,N⟩:=Vg ay.mK;obtain⟨R,S,ae,T,rfl,W,f⟩:=H;have y:=af f;have x:=af G;go_enter ay.func86,Tryz.ntmps86
 go_wp2_with (at_make;refine Wc _ Y _ _ 43 Y w.heap.size 59 q _ 3 ay.underlying43 n M p .i64 .i64 _ a.length Y Y Y (by rw[N];omega) (by unfold Ur;omega) (T9 _) ?_;intro P D B)
 have t:X (aP w P):=(Uq _ _).grown B (T9 _) (by simp)
 go_loopw [5,13] (λO l wr=>∃b:Nat,b<=a.length/\l= .int .i64 (b:Int)/\O= .slice (I ⟨w.heap.size,0,K⟩) b a.length/\wr.ownsRow w.heap.size 59 3 (.slice (I ⟨w.heap.size,0,K⟩) b a.length) b (aH (bH (a.take b) c))/\aP w wr) (λ_ l _=>a.length-(UT l).toNat)
 case atStart=>exact⟨0,UF _,rfl,rfl,by simpa [aH,bH] using D,t.o⟩
 case round=>
  obtain⟨b,aa,rfl,rfl,k,i⟩:=hrel;have m:=af i;have J:=i.size;by_cases j:b<a.length
  ·have f:=y.o.below i;obtain rfl:=f.addr (by omega);obtain⟨v,Z,L⟩:=f.c b j;obtain⟨d,E⟩:=x.o a[b] (Uk j);obtain⟨ar,ap,kq,gQ,rfl,g⟩:=L;obtain rfl:=g.addr (by omega);have am:=g.c0 c d;have an:=g.c1 c d;have ao:=g.c2 c d;have z:X (aH (bH (a.take b) c)++[.bool a[b][c].null,.int .i64 a[b][c].n,.string a[b][c].s]=aH (bH (a.take (b+1)) c)):=by
    show _=_;rw[eY,Up j];unfold bH;rw[U1,Wq,Uj,Uo d];rfl
   have ab:(c:Int)<(a[b].length:Int):=by omega
   unfold Ur at E;generalize a[b][c]=h at*;generalize a[b].length=al at*
   go_wp2_with (at_builtin;refine VI _ Y _ _ 43 Y w.heap.size 59 q 3 ay.underlying43 n p w.heap.size b a.length _ Y (k.alloc _) ⟨wr.heap.size,0,K⟩ 1 1 [.bool h.null,.int .i64 h.n,.string h.s] Y Y (by exact ju _ _ _ _ _) (fD h) (by omega) ?_;intro Q o C)
   have u:X (aP w Q):=(m.o.alloc J _).grown C (by simp;omega) (by intro V A;simp at A;omega);rw[z.o] at o;go_wp2
   go_roundw
   case rel=>exact⟨b+1,by omega,by go_num,rfl,o,u.o⟩
   case measure=>simp[UT];omega
  ·obtain rfl:b=a.length:=by omega
   rw[Vh] at k;go_wp2;go_ret;exact⟨m.o,_,rfl,k⟩
end Ec
namespace Ec
open Go.RowKit Pk
def lE (l:List bK)(es:List Int):Prop:=l.length=es.length/\∀a,(b:a<l.length)->bI l[a].kind (es.getD a 0)=Z
def nW(l:List bK)(es:List Int)(s u:U)(w:F)(Y:l.length<=Ur)(aa:es.length<=Ur)(P:vp w s l)(R:rB w u es):
 bG 57 #[u,s] w λe w'=>∃bb,e= .returned (.bool bb)/\(bb=Z↔lE l es)/\aP w w':=by
 obtain⟨ae,al,az,am,rfl,ar,f⟩:=P;obtain⟨an,k,ji,bX,rfl,N,V,m⟩:=R;unfold Ur at Y aa;by_cases n:l.length=es.length
 ·have T:((es.length:Int) !=(l.length:Int))=T8:=by simp[n]
  have r:=af n;have E:=af f;have z:=af N;have B:=af V;have A:=af m;go_enter ay.func57,Tryz.ntmps57
  go_wp2_with fail
  go_loopw [14] (λb wr=>∃a:Nat,a<=l.length/\b= .int .i64 a/\(∀b,(c:b<l.length)->b<a->bI l[b].kind (es.getD b 0)=Z)/\aP w wr) (λb _=>l.length-(UT b).toNat)
  case atStart=>exact⟨0,UF _,rfl,λa5 _ c=>by omega,Uq _ _⟩
  case round=>
   obtain⟨a,av,rfl,O,i⟩:=hrel;have o:=af O;have p:=af i;have y:=i.size;by_cases j:a<l.length
   ·have f:=E.o.below i;obtain rfl:=f.addr (by omega);have W:a<es.length:=by rw[<-r.o];exact j
    obtain rfl:=z.o (by omega);have x:=B.o (by omega);have a0:=f.c0 a j;have a1:=f.c1 a j;have ab:bU wr k (ji+a) (.int .i64 (es.getD a 0)):=(i.cell (p:=⟨k,ji+a,K⟩) x).trans (A.o a W);have Q:=Ue x y;have G:X (bI l[a].kind (es.getD a 0)=T8->¬lE l es):=λc m=>by
     have:=m.2 a j;rw[c] at this;cases this
    have I:X (bI l[a].kind (es.getD a 0)=Z->∀b,(c:b<l.length)->b<a+1->bI l[b].kind (es.getD b 0)=Z):=λc b S ap=>by
     by_cases M:b=a
     ·subst M;exact c
     ·exact o.o b S (by omega)
    generalize l[a]=d at*;generalize es.getD a 0=t at*
    go_upto_region 6 with fail
    obtain⟨a2,a3⟩:=ot wr (.string d.name) (.int .i64 d.kind) 63;have v:aP wr (wr.alloc (.cells #[.string d.name,.int .i64 d.kind] 63)):=(Uq _ _).alloc (T9 _) _;have a4:=(v.cell (p:=⟨k,ji+a,K⟩) Q).trans ab;have q:=af (p.o.trans (v.mono y));generalize wr.alloc (.cells #[.string d.name,.int .i64 d.kind] 63)=ad at*;generalize wr.heap.size=ao at*;have g:=λL=>o8 d.kind t L;have aw:(a:Int)<(es.length:Int):=by omega
    cases h:bI d.kind t
    ·have H:=af (G.o h);rw[h] at g
     go_quiet ((go_at_call 83;exact Calls.quiet_of_same (g _)))
     go_wp2;go_ret;exact .inl ⟨rfl,H.o,below_drewN q.o _⟩
    ·have J:=af (I.o h);rw[h] at g
     go_quiet ((go_at_call 83;exact Calls.quiet_of_same (g _)))
     go_wp2
     go_roundw
     case rel=>exact⟨a+1,by omega,by go_num,J.o,below_drewN q.o _⟩
     case measure=>simp[UT];omega
   ·have D:X (lE l es):=⟨r.o,λb c=>o.o b c (by omega)⟩;go_wp2;go_ret;exact⟨Z,rfl,by simp only[true_iff];exact D.o,p.o⟩
 ·have T:((es.length:Int) !=(l.length:Int))=Z:=by simp;omega
  have C:X (¬lE l es):=λc=>n c.1;go_enter ay.func57,Tryz.ntmps57;go_wp2
  all_goals go_ret
  all_goals exact⟨T8,rfl,by simp only[UC,false_iff];exact C.o,Uq _ _⟩
def mr (a:Int)(es:List Int)(cs:List bK):Prop:=1<=a/\a<=100/\lE cs es
def qA(w:F)(a b c:U)(t:Ui):(w.alloc (.cells #[a,b,c] t)).cell? ⟨w.heap.size,0,K⟩=I a/\(w.alloc (.cells #[a,b,c] t)).cell? ⟨w.heap.size,1,K⟩=I b/\(w.alloc (.cells #[a,b,c] t)).cell? ⟨w.heap.size,2,K⟩=I c:=by
 refine⟨?_,?_,?_⟩<;>simp
def rB.lower{w w':F}{v:U}{f:List Int}(h:rB w v f)(c:aP w w'):rB w' v f:=by
 obtain⟨g,a,e,i,rfl,k,b,l⟩:=h;exact⟨g,a,e,i,rfl,k,λj=>Ue (b j) c.size,λd m=>(c.cell (p:=⟨a,e+d,K⟩) (b (by omega))).trans (l d m)⟩
def xN(b:Int)(es:List Int)(bo:Bool)(cs:List bK)(r t:U)(w:F)(u:cs.length<=Ur)(v:es.length<=Ur)(p:vp w r cs)(q:rB w t es):
 bG 41 #[.agg #[.int .i64 b,t,.bool bo],r] w λe w'=>∃bb,e= .returned (.bool bb)/\(bb=Z↔mr b es cs)/\aP w w':=by
 have z:=q;have y:=p;obtain⟨l,B,E,m,rfl,D,-⟩:=y;obtain⟨n,C,ji,bX,rfl,-,-,-⟩:=z;have f:X (∀a,aP w (w.alloc a)):=λa=>(Uq _ _).alloc (T9 _) _;have d:X (∀a,bG 57 #[.slice n es.length bX,.slice l cs.length m] (w.alloc a) λe w'=>∃bb,e= .returned (.bool bb)/\(bb=Z↔lE cs es)/\WN (w.alloc a).heap.size (w.alloc a) w'):=λa=>nW cs es _ _ _ u v (p.below (f.o a)) (q.lower (f.o a));clear p q u v;by_cases g:1<=b
 ·by_cases j:b<=100
  ·have s:decide (1<=b)=Z:=by simp;omega
   have x:decide (b<=100)=Z:=by simp;omega
   by_cases h:lE cs es
   ·have c:X (mr b es cs):=⟨g,j,h⟩;have k:X (∀a,bG 57 #[.slice n es.length bX,.slice l cs.length m] (w.alloc a) λe w'=>e= .returned (.bool Z)/\WN (w.alloc a).heap.size (w.alloc a) w'):=λa=>pQ (d.o a) h;clear d h g j;go_enter ay.func41,Tryz.ntmps41
    go_wp2_with (go_at_call 57;refine(k.o _).mono ?_;rintro e A ⟨rfl,o⟩)
    go_ret;exact⟨Z,rfl,by simp only[true_iff];exact c.o,(f.o _).trans (o.mono (by simp))⟩
   ·have c:X (¬mr b es cs):=λi=>h i.2.2;have k:X (∀a,bG 57 #[.slice n es.length bX,.slice l cs.length m] (w.alloc a) λe w'=>e= .returned (.bool T8)/\WN (w.alloc a).heap.size (w.alloc a) w'):=λa=>n8 (d.o a) h;clear d h g j;go_enter ay.func41,Tryz.ntmps41
    go_wp2_with (go_at_call 57;refine(k.o _).mono ?_;rintro e A ⟨rfl,o⟩)
    go_ret;exact⟨T8,rfl,by simp only[UC,false_iff];exact c.o,(f.o _).trans (o.mono (by simp))⟩
  ·have s:decide (1<=b)=Z:=by simp;omega
   have x:decide (b<=100)=T8:=by simp;omega
   have c:X (¬mr b es cs):=λi=>j i.2.1;clear d g j;go_enter ay.func41,Tryz.ntmps41;go_wp2
   all_goals go_ret
   all_goals exact⟨T8,rfl,by simp only[UC,false_iff];exact c.o,f.o _⟩
 ·have s:decide (1<=b)=T8:=by simp;omega
  have c:X (¬mr b es cs):=λi=>g i.1;clear d g;go_enter ay.func41,Tryz.ntmps41;go_wp2
  all_goals go_ret
  all_goals exact⟨T8,rfl,by simp only[UC,false_iff];exact c.o,f.o _⟩
end Ec
namespace Ec
open Go.RowKit Pk Pm
structure kr where
 text:ByteArray
 eZ:lC
structure Bd where
 rows:Nat
 chunks:List kr
def lR{α:Type}(f:α->List U)(s:Nat)(b:∀x,(f x).length=s)(l:List α):∀j (h:j<l.length) i u,(f l[j])[i]? =I u->(l.flatMap f)[j*s+i]? =I u:=by
 induction l with
 |nil=>intro j h;simp at h
 |cons x e c=>
  intro j h i u a;rw[List.flatMap_cons];cases j with
  |zero=>
   have d:i<(f x).length:=by
    simp only[List.getElem_cons_zero] at a;exact(UB.1 a).1
   rw[Vx (by omega)];simpa using a
  |succ j=>
   have:=c j (by simpa using h) i u (by simpa using a);rw[Vp (by rw[b,Nat.succ_mul];omega),b,show(j+1)*s+i-s=j*s+i by rw[Nat.succ_mul];omega];exact this
structure On{α:Type}(w:F)(f:α->List U)(s:Nat)(ao:Option UK)(b off:Nat)(l:List α):Prop where
 addr:0<l.length->ao=I ⟨b,off,K⟩
 lt:0<l.length->b<w.heap.size
 c:∀j (h:j<l.length) i u,(f l[j])[i]? =I u->w.cell? ⟨b,off+j*s+i,K⟩=I u
def On.below{α:Type}{w w':F}{f:α->List U}{s:Nat}{a:Option UK}{b off:Nat}{l:List α}(h:On w f s a b off l)(c:aP w w'):On w' f s a b off l:=
 ⟨h.addr,λg=>Ue (h.lt g) c.size,λe i d k j=>(c.cell (p:=⟨b,off+e*s+d,K⟩) (h.lt (by omega))).trans (h.c e i d k j)⟩
def QL {α:Type}(w:F)(f:α->List U)(s:Nat)(v:U)(l:List α):Prop:=∃a b d c,v= .slice a l.length c/\On w f s a b d l
def QL.bN{α:Type}{w:F}{f:α->List U}{s base:Nat}{e:Ui}{v:U}{l:List α}(i:∀x,(f x).length=s)(h:w.ownsRow base e s v l.length (l.flatMap f)):QL w f s v l:=by
 rcases h.2 with⟨rfl,d⟩|⟨a,c,o,rfl,p,t,u,q,r,y⟩
 ·have:l=[]:=Vi d;subst this;exact⟨K,0,0,0,rfl,⟨λh=>by simp at h,λh=>by simp at h,λb h=>by simp at h⟩⟩
 ·have g:=h.cells (g:=a) Y;refine⟨I ⟨a,0,K⟩,a,0,c,rfl,⟨λ_=>rfl,λ_=>(h.lt a Y).2,?_⟩⟩;intro b j m n k;have:=g _ _ (lR f s i l b j m n k);simpa [VM] using this
def dJ (c:kr):List U:=[.string c.text,.bool c.eZ.there,.bool c.eZ.least.null,.int .i64 c.eZ.least.n,.string c.eZ.least.s,.bool c.eZ.most.null,.int .i64 c.eZ.most.n,.string c.eZ.most.s]
def ek (l:List kr):List U:=l.flatMap dJ
def uA(c:kr):(dJ c).length=8:=rfl
def n7 (p:Bd×U):List U:=[.int .i64 (p.1.rows:Int),p.2]
def nI (l:List (Bd×U)):List U:=l.flatMap n7
def qE(p:Bd×U):(n7 p).length=2:=rfl
structure ja(w:F)(base:Nat)(v:U)(L:List (Bd×U)):Prop where
 own:w.ownsRow base 139 2 v L.length (nI L)
 each:∀p∈L,w.ownsRow base 143 8 p.2 p.1.chunks.length (ek p.1.chunks)
def BR (a:List (List aE))(cs:List bK)(es:List Int)(bo:Bool)(p:Nat):kr:=
 ⟨(jK (bH a p) (cs.getD p ⟨⟨#[]⟩,0⟩).kind (es.getD p 0)).1,if bo then cy (bH a p) else cF⟩
def ew (a:List (List aE))(cs:List bK)(es:List Int)(bo:Bool)(n:Nat):List kr:=(UL n).map (BR a cs es bo)
def FI(a:List (List aE))(cs:List bK)(es:List Int)(bo:Bool)(n:Nat):ew a cs es bo (n+1)=ew a cs es bo n++[BR a cs es bo n]:=by
 unfold ew;rw[XK,U1,Wq]
def cU(a:List (List aE))(cs:List bK)(es:List Int)(bo:Bool)(n:Nat):(ew a cs es bo n).length=n:=by simp[ew]
def gM (a:List (List aE))(cs:List bK)(es:List Int)(bo:Bool):Bd:=⟨a.length,ew a cs es bo cs.length⟩
def bZ (b:List (List aE))(a j:Nat):List (List aE):=(b.drop (j*a)).take a
def bO (c:List (List aE))(cs:List bK)(es:List Int)(bo:Bool)(a n:Nat):List Bd:=(UL n).map λb=>gM (bZ c a b) cs es bo
def vu(b:List (List aE))(cs:List bK)(es:List Int)(bo:Bool)(a n:Nat):bO b cs es bo a (n+1)=bO b cs es bo a n++[gM (bZ b a n) cs es bo]:=by
 unfold bO;rw[XK,U1,Wq]
def je(b:List (List aE))(cs:List bK)(es:List Int)(bo:Bool)(a n:Nat):(bO b cs es bo a n).length=n:=by simp[bO]
def b8 (len a:Nat):Nat:=(len+a-1)/a
def mz{len a:Nat}(h:0<a)(k:Nat):k*a<len↔k<b8 len a:=by
 unfold b8;have:=Nat.le_div_iff_mul_le (x:=k+1) (y:=len+a-1) h;rw[Nat.succ_mul] at this;omega
def cr (k:Int)(b:lC):List Nat:=if b.there then[1]++(aZ k b.least++aZ k b.most) else[0]
def xZ (cs:List bK)(es:List Int)(i:Nat):List Nat:=aL (cs.getD i ⟨⟨#[]⟩,0⟩).name.size++(bytesOf (cs.getD i ⟨⟨#[]⟩,0⟩).name++[byteOf (cs.getD i ⟨⟨#[]⟩,0⟩).kind,byteOf (es.getD i 0)])
def iT (cs:List bK)(es:List Int)(n:Nat):List Nat:=(UL n).flatMap (xZ cs es)
def x9(cs:List bK)(es:List Int)(n:Nat):iT cs es (n+1)=iT cs es n++xZ cs es n:=by
 unfold iT;rw[XK,Vj,Ve]
def o9 (cs:List bK)(l:List kr)(i:Nat):List Nat:=aL (l.getD i ⟨⟨#[]⟩,cF⟩).text.size++cr (cs.getD i ⟨⟨#[]⟩,0⟩).kind (l.getD i ⟨⟨#[]⟩,cF⟩).eZ
def fp (cs:List bK)(l:List kr)(n:Nat):List Nat:=(UL n).flatMap (o9 cs l)
def vM(cs:List bK)(l:List kr)(n:Nat):fp cs l (n+1)=fp cs l n++o9 cs l n:=by
 unfold fp;rw[XK,Vj,Ve]
def ep (cs:List bK)(b:Bd):List Nat:=aL b.rows++fp cs b.chunks b.chunks.length
def cS (cs:List bK)(bs:List Bd):List Nat:=bs.flatMap (ep cs)
def Dm(cs:List bK)(bs:List Bd)(k:Nat)(h:k<bs.length):cS cs (bs.take (k+1))=cS cs (bs.take k)++ep cs bs[k]:=by
 unfold cS;rw[Up h,Vj,Ve]
def jl (cs:List bK)(es:List Int)(bs:List Bd):List Nat:=aL cs.length++(iT cs es cs.length++(aL bs.length++cS cs bs))
def iA (n:Nat):List Nat:=[n%256,n/256%256,n/65536%256,n/16777216%256]
def cw (l:List kr):List Nat:=l.flatMap λa=>bytesOf a.text
def G8(l:List kr)(k:Nat)(h:k<l.length):cw (l.take (k+1))=cw (l.take k)++bytesOf l[k].text:=by
 unfold cw;rw[Up h,Vj,Ve]
def sB(l:List kr)(c:kr):cw (l++[c])=cw l++bytesOf c.text:=by
 unfold cw;rw[Vj,Ve]
def bQ (bs:List Bd):List Nat:=bs.flatMap λa=>cw a.chunks
def xS(bs:List Bd)(k:Nat)(h:k<bs.length):bQ (bs.take (k+1))=bQ (bs.take k)++cw bs[k].chunks:=by
 unfold bQ;rw[Up h,Vj,Ve]
def r9(bs:List Bd)(b:Bd):bQ (bs++[b])=bQ bs++cw b.chunks:=by
 unfold bQ;rw[Vj,Ve]
def dP:List Nat:=[83,84,82,65]
def vC (cs:List bK)(es:List Int)(bs:List Bd):List Nat:=dP++(bQ bs++(jl cs es bs++(iA (jl cs es bs).length++dP)))
def aO.jm{w c:F}{v:U}{o:Xx}{g n cap:Nat}(e:(w.alloc o).grownBy c v.ownBlock)(d:v.ownBlock=I g\/g=(w.alloc o).heap.size):aO w c v (.slice (I ⟨g,0,K⟩) n cap):=by
 refine((aO.refl w v).alloc o).trans ⟨e,λf b=>?_⟩;simp[VA] at b;subst b;rcases d with a|a
 ·exact .inl a
 ·exact .inr (by omega)
def bz{w:F}{base:Nat}{e:Ui}{b:Nat}{v:U}{n:Nat}{c:List U}(h:w.ownsRow base e b v n c):∃a cap,v= .slice a n cap:=by
 rcases h.2 with⟨rfl,rfl⟩|⟨f,cap,d,rfl,-⟩
 ·exact⟨K,0,rfl⟩
 ·exact⟨_,cap,rfl⟩
def Gl{w:F}{base:Nat}{e:Ui}{d:Nat}{v:U}{n:Nat}{f:List U}{g:Nat}(h:w.ownsRow base e d v n f)(b:v.ownBlock=I g):∃a,w.heap[g]? =I (.cells a e (0,0)):=by
 rcases h.2 with⟨rfl,-⟩|⟨j,i,a,rfl,-,c,-⟩
 ·simp[VA] at b
 ·simp[VA] at b;subst b;exact⟨a,c⟩
def bq{w:F}{base:Nat}{e:Ui}{f:Nat}{v:U}{n:Nat}{i:List U}{g:Nat}{cs:Array U}{t:Ui}(h:w.ownsRow base e f v n i)(b:w.heap[g]? =I (.cells cs t (0,0)))(d:t≠e):I g≠v.ownBlock:=by
 intro c;obtain⟨j,a⟩:=Gl h c.symm;rw[b] at a;simp at a;exact d a.2
def dR{w:F}{base c:Nat}{e b:Ui}{j k:Nat}{v v2:U}{n i:Nat}{l m:List U}(h:w.ownsRow base e j v n l)(d:w.ownsRow c b k v2 i m)(g:e≠b):Apart v v2:=by
 cases a:v.ownBlock with
 |none=>exact .inl a
 |some p=>
  right
  rw[a];obtain⟨o,f⟩:=Gl h a;exact bq d f g
def AE(w:F)(o p q:Xx):(((w.alloc o).alloc p).alloc q).heap[w.heap.size+2]? =I q:=by
 have:=bh ((w.alloc o).alloc p) q;rwa [show((w.alloc o).alloc p).heap.size=w.heap.size+2 by simp] at this
structure ou(w W:F)(bd:Int)(ev:U)(bo:Bool)(n:Nat)(kv:U)(l:List kr):Prop where
 opt:W.heap[w.heap.size]? =I (.cells #[.int .i64 bd,ev,.bool bo] 48 (0,0))
 res:W.heap[w.heap.size+1]? =I (.cells #[.int .i64 0,.slice K 0 0] 139 (0,0))
 box:W.heap[w.heap.size+2]? =I (.cells #[.int .i64 (n:Int),kv] 139 (0,0))
 own:W.ownsRow w.heap.size 143 8 kv l.length (ek l)
 dh:aP w W
def ou.below{w W b:F}{c:Int}{d:U}{bo:Bool}{n:Nat}{e:U}{l:List kr}(h:ou w W c d bo n e l)(a:aP W b):ou w b c d bo n e l:=
 ⟨(a.block _ (Uf h.opt)).trans h.opt,(a.block _ (Uf h.res)).trans h.res,(a.block _ (Uf h.box)).trans h.box,aK h.own a,h.dh.trans (a.mono h.dh.size)⟩
def ou.jQ{w W c:F}{e:Int}{f:U}{bo:Bool}{n:Nat}{k b:U}{l d:List kr}(h:ou w W e f bo n k l)(a:aO W c k b)(j:c.ownsRow w.heap.size 143 8 b d.length (ek d)):
 ou w (c.setCell ⟨w.heap.size+2,1,K⟩ b) e f bo n b d:=by
 have o:=(a.fP.block _ (Uf h.opt) (bq h.own h.opt (by decide))).trans h.opt;have p:=(a.fP.block _ (Uf h.res) (bq h.own h.res (by decide))).trans h.res;have g:=(a.fP.block _ (Uf h.box) (bq h.own h.box (by decide))).trans h.box;have q:=Us c (w.heap.size+2) 1 _ _ b g;have i:=h.dh.trans (a.below (λm a=>(h.own.lt m a).1) h.dh.size);refine⟨?_,?_,q,?_,?_⟩
 ·rw[Uv _ _ _ _ (by simp)];exact o
 ·rw[Uv _ _ _ _ (by simp)];exact p
 ·exact j.kept (aN c _ 1 b) (.inr (bq j g (by decide)).symm)
 ·exact dj i i.size (by omega) _ _
def ou.cells{w W:F}{e:Int}{b:U}{bo:Bool}{n:Nat}{d:U}{l:List kr}(h:ou w W e b bo n d l):
 W.cell? ⟨w.heap.size,1,K⟩=I b/\W.cell? ⟨w.heap.size,2,K⟩=I (.bool bo)/\W.cell? ⟨w.heap.size+2,0,K⟩=I (.int .i64 (n:Int))/\W.cell? ⟨w.heap.size+2,1,K⟩=I d/\W.frozen? ⟨w.heap.size+2,1,K⟩=T8:=by
 have c:=h.opt;have a:=h.box;exact⟨by simp[Ut,c],by simp[Ut,c],by simp[Ut,a],by simp[Ut,a],by simp[UR,a]⟩
def kB{w:F}{g:Nat}{c:kr}{t:Ui}(h:w.heap[g]? =I (.cells (dJ c).toArray t (0,0))):
 (w.cell? ⟨g,0,K⟩=I (.string c.text)/\w.cell? ⟨g,1,K⟩=I (.bool c.eZ.there)/\w.cell? ⟨g,2,K⟩=I (.bool c.eZ.least.null)/\w.cell? ⟨g,3,K⟩=I (.int .i64 c.eZ.least.n)/\w.cell? ⟨g,4,K⟩=I (.string c.eZ.least.s)/\
   w.cell? ⟨g,5,K⟩=I (.bool c.eZ.most.null)/\w.cell? ⟨g,6,K⟩=I (.int .i64 c.eZ.most.n)/\w.cell? ⟨g,7,K⟩=I (.string c.eZ.most.s))/\
 (w.frozen? ⟨g,1,K⟩=T8/\w.frozen? ⟨g,2,K⟩=T8/\w.frozen? ⟨g,3,K⟩=T8/\w.frozen? ⟨g,4,K⟩=T8/\w.frozen? ⟨g,5,K⟩=T8/\w.frozen? ⟨g,6,K⟩=T8/\w.frozen? ⟨g,7,K⟩=T8):=by
 unfold dJ at h;refine⟨⟨?_,?_,?_,?_,?_,?_,?_,?_⟩,?_,?_,?_,?_,?_,?_,?_⟩<;>first|simp[Ut,h]|simp[UR,h]
def OG{w:F}{g:Nat}{s:ByteArray}{a:lC}(b:lC){t:Ui}(h:w.heap[g]? =I (.cells (dJ ⟨s,a⟩).toArray t (0,0))):
 (((((((w.setCell ⟨g,1,K⟩ (.bool b.there)).setCell ⟨g,2,K⟩ (.bool b.least.null)).setCell ⟨g,3,K⟩ (.int .i64 b.least.n)).setCell ⟨g,4,K⟩ (.string b.least.s)).setCell ⟨g,5,K⟩ (.bool b.most.null)).setCell ⟨g,6,K⟩ (.int .i64 b.most.n)).setCell ⟨g,7,K⟩ (.string b.most.s)).heap[g]? =I (.cells (dJ ⟨s,b⟩).toArray t (0,0)):=by
 have c:(w.setCell ⟨g,1,K⟩ (.bool b.there)).heap[g]? =I (.cells #[.string s,.bool b.there,.bool a.least.null,.int .i64 a.least.n,.string a.least.s,.bool a.most.null,.int .i64 a.most.n,.string a.most.s] t (0,0)):=Us _ g 1 _ _ (.bool b.there) h;have d:((w.setCell ⟨g,1,K⟩ (.bool b.there)).setCell ⟨g,2,K⟩ (.bool b.least.null)).heap[g]? =I (.cells #[.string s,.bool b.there,.bool b.least.null,.int .i64 a.least.n,.string a.least.s,.bool a.most.null,.int .i64 a.most.n,.string a.most.s] t (0,0)):=Us _ g 2 _ _ (.bool b.least.null) c;have e:(((w.setCell ⟨g,1,K⟩ (.bool b.there)).setCell ⟨g,2,K⟩ (.bool b.least.null)).setCell ⟨g,3,K⟩ (.int .i64 b.least.n)).heap[g]? =I (.cells #[.string s,.bool b.there,.bool b.least.null,.int .i64 b.least.n,.string a.least.s,.bool a.most.null,.int .i64 a.most.n,.string a.most.s] t (0,0)):=Us _ g 3 _ _ (.int .i64 b.least.n) d;have f:((((w.setCell ⟨g,1,K⟩ (.bool b.there)).setCell ⟨g,2,K⟩ (.bool b.least.null)).setCell ⟨g,3,K⟩ (.int .i64 b.least.n)).setCell ⟨g,4,K⟩ (.string b.least.s)).heap[g]? =I (.cells #[.string s,.bool b.there,.bool b.least.null,.int .i64 b.least.n,.string b.least.s,.bool a.most.null,.int .i64 a.most.n,.string a.most.s] t (0,0)):=Us _ g 4 _ _ (.string b.least.s) e;have i:(((((w.setCell ⟨g,1,K⟩ (.bool b.there)).setCell ⟨g,2,K⟩ (.bool b.least.null)).setCell ⟨g,3,K⟩ (.int .i64 b.least.n)).setCell ⟨g,4,K⟩ (.string b.least.s)).setCell ⟨g,5,K⟩ (.bool b.most.null)).heap[g]? =I (.cells #[.string s,.bool b.there,.bool b.least.null,.int .i64 b.least.n,.string b.least.s,.bool b.most.null,.int .i64 a.most.n,.string a.most.s] t (0,0)):=Us _ g 5 _ _ (.bool b.most.null) f;have j:((((((w.setCell ⟨g,1,K⟩ (.bool b.there)).setCell ⟨g,2,K⟩ (.bool b.least.null)).setCell ⟨g,3,K⟩ (.int .i64 b.least.n)).setCell ⟨g,4,K⟩ (.string b.least.s)).setCell ⟨g,5,K⟩ (.bool b.most.null)).setCell ⟨g,6,K⟩ (.int .i64 b.most.n)).heap[g]? =I (.cells #[.string s,.bool b.there,.bool b.least.null,.int .i64 b.least.n,.string b.least.s,.bool b.most.null,.int .i64 b.most.n,.string a.most.s] t (0,0)):=Us _ g 6 _ _ (.int .i64 b.most.n) i;have k:(((((((w.setCell ⟨g,1,K⟩ (.bool b.there)).setCell ⟨g,2,K⟩ (.bool b.least.null)).setCell ⟨g,3,K⟩ (.int .i64 b.least.n)).setCell ⟨g,4,K⟩ (.string b.least.s)).setCell ⟨g,5,K⟩ (.bool b.most.null)).setCell ⟨g,6,K⟩ (.int .i64 b.most.n)).setCell ⟨g,7,K⟩ (.string b.most.s)).heap[g]? =I (.cells #[.string s,.bool b.there,.bool b.least.null,.int .i64 b.least.n,.string b.least.s,.bool b.most.null,.int .i64 b.most.n,.string b.most.s] t (0,0)):=Us _ g 7 _ _ (.string b.most.s) j;exact k
def yd(w:F)(c:kr)(t:Ui):∀(j:Nat) (u:U),(dJ c)[j]? =I u->(w.alloc (.cells (dJ c).toArray t)).cell? ((⟨w.heap.size,0,K⟩:UK).add j)=I u:=by
 intro j u a;have b:j<8:=by
  have:=(UB.1 a).1;simpa [dJ] using this
 have:j=0\/j=1\/j=2\/j=3\/j=4\/j=5\/j=6\/j=7:=by omega
 rcases this with rfl|rfl|rfl|rfl|rfl|rfl|rfl|rfl<;>(simp[dJ] at a;subst a;simp[Ys,dJ])
def uu(c:kr):∀u∈dJ c,u.oneCell'=Z:=by
 intro u a;simp[dJ] at a;rcases a with rfl|rfl|rfl|rfl|rfl|rfl|rfl|rfl<;>rfl
def FK{a:List (List aE)}{e:Nat}(h:∀r∈a,∀x∈r,rD x)(f:∀r∈a,e<r.length):∀x∈bH a e,rD x:=by
 intro x d;unfold bH at d;obtain⟨r,c,rfl⟩:=U8.1 d;have b:=f r c;rw[Uj,Uo b];exact h r c _ (Uk b)
def gb(a:List (List aE))(b:Nat):(bH a b).length=a.length:=by simp[bH]
def ay.Il:((aB T5).info? 143).map (λi=>(i.zero,i.size,i.bytes))=I (I (.agg #[.string ⟨#[]⟩,.bool T8,.bool T8,.int .i64 0,.string ⟨#[]⟩,.bool T8,.int .i64 0,.string ⟨#[]⟩]),8,88):=by kernel_rfl
def ou.put{w W:F}{b:Int}{c:U}{bo:Bool}{n:Nat}{a:U}{l:List kr}(h:ou w W b c bo n a l){g:Nat}(e:w.heap.size+2<g)(d:a.ownBlock≠I g)(o:Nat)(v:U):
 ou w (W.setCell ⟨g,o,K⟩ v) b c bo n a l:=by
 refine⟨?_,?_,?_,h.own.kept (aN W g o v) (.inr d),dj h.dh h.dh.size (by omega) _ _⟩
 ·rw[Uv _ _ _ _ (by simp;omega)];exact h.opt
 ·rw[Uv _ _ _ _ (by simp;omega)];exact h.res
 ·rw[Uv _ _ _ _ (by simp;omega)];exact h.box
def ou.zS{w W:F}{e:Int}{f:U}{bo:Bool}{n:Nat}{d:U}{l:List kr}(h:ou w W e f bo n d l){g:Nat}(a:w.heap.size+2<g)(c:d.ownBlock≠I g)(b:lC):
 ou w (((((((W.setCell ⟨g,1,K⟩ (.bool b.there)).setCell ⟨g,2,K⟩ (.bool b.least.null)).setCell ⟨g,3,K⟩ (.int .i64 b.least.n)).setCell ⟨g,4,K⟩ (.string b.least.s)).setCell ⟨g,5,K⟩ (.bool b.most.null)).setCell ⟨g,6,K⟩ (.int .i64 b.most.n)).setCell ⟨g,7,K⟩ (.string b.most.s)) e f bo n d l:=
 ((((((h.put a c _ _).put a c _ _).put a c _ _).put a c _ _).put a c _ _).put a c _ _).put a c _ _
def ou.kept{w W a:F}{d:Int}{e:U}{bo:Bool}{n:Nat}{b g:U}{l:List kr}(h:ou w W d e bo n b l)(f:aO W a b g):
 a.cell? ⟨w.heap.size+2,1,K⟩=I b/\a.frozen? ⟨w.heap.size+2,1,K⟩=T8:=by
 have c:=(f.fP.block _ (Uf h.box) (bq h.own h.box (by decide))).trans h.box;exact⟨by simp[Ut,c],by simp[UR,c]⟩
def Ia{a:List (List aE)}{cs:List bK}{es:List Int}{bo:Bool}{k:Nat}(h1:k<cs.length)(b:k<es.length):
 BR a cs es bo k=⟨(jK (bH a k) cs[k].kind (es.getD k 0)).1,if bo then cy (bH a k) else cF⟩:=by
 unfold BR;rw[Uj (l:=cs),Uo h1];rfl
def Fx{es:List Int}(ci:(∀e∈es,e=0)\/xF/\rT)(b:List (List aE))(cs:List bK)(A:Int)(bo:Bool)(c4 bB b2:U)(w:F)(c1:b.length<=100)(co:∀r∈b,r.length=cs.length)(cl:∀r∈b,∀x∈r,rD x)(er:cs.length<=8)(ck:es.length=cs.length)
 (cu:AD w c4 b) (d0:vp w bB cs) (d2:rB w b2 es):
 bG 60 #[c4,bB,.agg #[.int .i64 A,b2,.bool bo]] w λe w'=>∃g,e= .returned (.agg #[.int .i64 (b.length:Int),g])/\w'.ownsRow w.heap.size 143 8 g cs.length (ek (ew b cs es bo cs.length))/\aP w w':=by
 have da:=af ci;clear ci;obtain⟨c2,cn,cx,cR,c0⟩:=Vg ay.Il;have dl:=af cu;have av:=af co;have dd:=af cl;obtain⟨ec,e4,bg,aM,rfl,e0,-⟩:=cu;obtain⟨en,em,bD,aJ,rfl,eq,t⟩:=d0;obtain⟨aa,o,ji,bX,rfl,cd,cf,ch⟩:=d2;have c7:=af t;have c8:=af cd;have R:=af cf;have c9:=af ch;have dc:=af ck;clear co cl t cd cf ch ck;go_enter ay.func60,Tryz.ntmps60
 go_upto_region 2 with fail
 have ca:ou w (((w.alloc (.cells #[.int .i64 A,.slice aa es.length bX,.bool bo] 48)).alloc (.cells #[.int .i64 0,.slice K 0 0] 139)).alloc (.cells #[.int .i64 (b.length:Int),.slice K 0 0] 139)) A (.slice aa es.length bX) bo b.length (.slice K 0 0) (ew b cs es bo 0):=by
  refine⟨alloc_old _ (by simp;omega) (alloc_old _ (by simp) (bh w _)),alloc_old _ (by simp) (jI w _ _),AE w _ _ _,?_,?_⟩
  ·exact⟨by simp[ew,ek],.inl ⟨rfl,by simp[ew]⟩⟩
  ·exact(gB _ _).alloc (by simp;omega) _
 generalize ((w.alloc (.cells #[.int .i64 A,.slice aa es.length bX,.bool bo] 48)).alloc (.cells #[.int .i64 0,.slice K 0 0] 139)).alloc (.cells #[.int .i64 (b.length:Int),.slice K 0 0] 139)=el at*
 go_wp2_with fail
 go_loopw [19] (λbm wr=>∃(a:Nat) (g:U),a<=cs.length/\bm= .int .i64 (a:Int)/\ou w wr A (.slice aa es.length bX) bo b.length g (ew b cs es bo a)) (λbm _=>cs.length-(UT bm).toNat)
 case atStart=>exact⟨0,_,UF _,rfl,ca⟩
 case round=>
  clear ca;obtain⟨a,g,et,rfl,d⟩:=hrel;have T:=af d;by_cases D:a<cs.length
  ·have ad:a<es.length:=by rw[dc.o];exact D
   have cv:w.heap.size<=wr.heap.size:=d.dh.size;have t:=c7.o.below d.dh;obtain rfl:=t.addr (by omega);obtain rfl:=c8.o (by omega);have ea:=t.c0 a D;have eb:=t.c1 a D;have ar:X (o<wr.heap.size):=Ue (R.o (by omega)) cv;have b0:wr.cell? ⟨o,ji+a,K⟩=I (.int .i64 (es.getD a 0)):=(d.dh.cell (p:=⟨o,ji+a,K⟩) (R.o (by omega))).trans (c9.o a ad);have S:X (ew b cs es bo (a+1)=ew b cs es bo a++[⟨(jK (bH b a) cs[a].kind (es.getD a 0)).1,if bo then cy (bH b a) else cF⟩]):=by
    show _=_;rw[FI,Ia D ad]
   have dp:X (∀x∈bH b a,rD x):=FK dd.o (λr ae=>by rw[av.o r ae];exact D);have ao:=af (gb b a);have bt:X (∀c,aP w c->bG 86 #[.slice ec b.length aM,.int .i64 (a:Int)] c λe w'=>aP c w'/\∃v,e= .returned v/\w'.ownsRow c.heap.size 59 3 v b.length (aH (bH b a))):=λc dE=>
    BT b a _ c c1 (λr ae=>⟨by rw[av.o r ae];exact D,by rw[av.o r ae];unfold Ur;omega⟩) (dl.o.below dE)
   have eQ:(a:Int)<(es.length:Int):=by omega
   have db:X (es.getD a 0=0\/xF/\rT):=da.o.imp (λs=>s _ (by rw[Uj,Uo ad];exact Uk ad)) id;generalize dC:bH b a=f at*;generalize dO:cs[a]=l at*;generalize d1:es.getD a 0=p at*;clear t dC dO d1 d;have bu:X (∀c h,rZ c h f->bG 87 #[h,.int .i64 l.kind,.int .i64 p] c λr w'=>r= .returned (.tuple #[.string (jK f l.kind p).1,.int .i64 (jK f l.kind p).2])/\aP c w'):=λc h s=>
    Dq db.o h f l.kind c (by rw[ao.o];unfold Ur;omega) dp.o s
   have an:X (∀c h,rZ c h f->bG 88 #[h] c λe w'=>e= .returned (FF (cy f))/\aP c w'):=λc h s=>
    BK h f c (by rw[ao.o];exact c1) s
   go_upto_region 6 with(go_at_call 86;refine(bt.o _ (T.o.dh.alloc cv _)).mono ?_;rintro e i ⟨ab,h,rfl,cp⟩)
   have bc:aP wr i:=uc ab;have c3:i.cell? ⟨wr.heap.size,1,K⟩=I (.int .i64 l.kind):=(ab.cell (p:=⟨wr.heap.size,1,K⟩) (by simp)).trans (ot wr _ _ _).2;have n:=af (T.o.below bc);obtain⟨N,al,O,P,am⟩:=n.o.cells;have b1:i.cell? ⟨o,ji+a,K⟩=I (.int .i64 p):=(bc.cell (p:=⟨o,ji+a,K⟩) ar.o).trans b0;have az:X (rZ i h f):=rZ.bN (by rw[ao.o];exact cp);have b4:wr.heap.size<i.heap.size:=by have:=ab.size;simp at this;omega
   have B:w.heap.size<i.heap.size:=by omega
   have b5:o<i.heap.size:=by have:=ar.o;omega
   clear ea eb b0 ab bc bt cp O P am ar;generalize wr.heap.size=b6 at*
   go_cut [11,12] from 27 to 38 (λeh e5 m=>eh= .string (jK f l.kind p).1/\aP i m)
   case first=>
    have R:X (bG 87 #[h,.int .i64 l.kind,.int .i64 p] i.drew λr w'=>r= .returned (.tuple #[.string (jK f l.kind p).1,.int .i64 (jK f l.kind p).2])/\aP i.drew w'):=bu.o _ _ (az.o.below ((Uq _ _).drew))
    go_region_held3 (λc=>c.cell? ⟨b6,1,K⟩=I (.int .i64 l.kind)/\c.cell? ⟨w.heap.size,1,K⟩=I (.slice (I ⟨o,ji,K⟩) es.length bX)/\c.cell? ⟨o,ji+a,K⟩=I (.int .i64 p)) (go_keep) ((go_at_call 87;refine R.o.mono ?_;rintro e z ⟨rfl,C⟩;have J:aP i z:=((Uq i.heap.size i).drew).trans C;have d6:=(J.cell (p:=⟨b6,1,K⟩) b4).trans c3;have d7:=(J.cell (p:=⟨w.heap.size,1,K⟩) B).trans N;have d8:=(J.cell (p:=⟨o,ji+a,K⟩) b5).trans b1;clear C))
    all_goals
     have c6:=af J;clear J d6 d7 d8
     go_wp2_with fail
     go_meet
     exact⟨rfl,c6.o⟩
   case rest=>
    rename F=>m
    obtain⟨rfl,bd⟩:=hcut;have V:=af (n.o.below bd);have bx:=af (az.o.below bd);clear n az bu c3 N al b1 bd b4 B b5 T;generalize (jK f l.kind p).1=k at*
    go_upto_region 8 with fail
    have be:(m.alloc (.cells (dJ ⟨k,cF⟩).toArray 143)).heap[m.heap.size]? =I (.cells (dJ ⟨k,cF⟩).toArray 143 (0,0)):=bh _ _;have bb:ou w (m.alloc (.cells (dJ ⟨k,cF⟩).toArray 143)) A (.slice (I ⟨o,ji,K⟩) es.length bX) bo b.length g (ew b cs es bo a):=V.o.below ((Uq _ _).alloc (T9 _) _);have bl:rZ (m.alloc (.cells (dJ ⟨k,cF⟩).toArray 143)) h f:=bx.o.below ((Uq _ _).alloc (T9 _) _);have d3:w.heap.size+2<m.heap.size:=Uf V.o.box;have df:X (g.ownBlock≠I m.heap.size):=λs=>by have:=(V.o.own.lt _ s).2;omega
    rw[show(dJ ⟨k,cF⟩).toArray=#[.string k,.bool T8,.bool T8,.int .i64 0,.string ⟨#[]⟩,.bool T8,.int .i64 0,.string ⟨#[]⟩] from rfl] at bb bl be;generalize m.alloc (.cells #[.string k,.bool T8,.bool T8,.int .i64 0,.string ⟨#[]⟩,.bool T8,.int .i64 0,.string ⟨#[]⟩] 143)=W at*;have cc:W.heap[m.heap.size]? =I (.cells (dJ ⟨k,cF⟩).toArray 143 (0,0)):=be;generalize m.heap.size=gk at*;have n:=af bb;have bv:=af bl;have Q:=af cc;clear be bb bl cc V bx;have d5:w.heap.size<=W.heap.size:=n.o.dh.size;obtain⟨N,al,O,P,am⟩:=n.o.cells;cases bo
    ·have aw:=af S.o;clear S an
     go_upto_region 10 with fail
     obtain⟨⟨a1,a2,a3,a4,a5,a6,a7,a8⟩,-⟩:=kB Q.o;have j:=n.o.own;rw[cU] at j
     go_wp2_with (at_builtin;refine wpList_append_lies _ Y _ _ 137 Y w.heap.size 143 c2 _ 8 88 ay.underlying137 cn cx cR c0 Y (by decide) _ a _ Y (j.alloc _) ⟨W.heap.size,0,K⟩ 1 1 (dJ ⟨k,cF⟩) Y Y (yd W ⟨k,cF⟩ _) (uu _) (by decide) (by unfold Ur;omega) (by omega) (by simp;omega) _ Y ?_;intro B G z y L H bj;have u:=aO.jm (n:=a+1) (cap:=G) L H;obtain⟨br,bs⟩:=n.o.kept u)
     have M:z.ownsRow w.heap.size 143 8 (.slice (I ⟨B,0,K⟩) (a+1) G) (ew b cs es T8 (a+1)).length (ek (ew b cs es T8 (a+1))):=by
      rw[cU,aw.o];unfold ek at y ⊢;rw[Vj,Ve];exact y
     have ap:=af (n.o.jQ u M);clear j y L u br bs M H bj
     go_roundw
     case rel=>exact⟨a+1,_,by omega,by go_num,ap.o⟩
     case measure=>simp[UT];omega
    ·have aw:=af S.o;clear S
     go_upto_region 10 with(go_at_call 88;refine(an.o _ _ bv.o).mono ?_;unfold FF;rintro e z ⟨rfl,C⟩;have bi:=(C.block gk (Uf Q.o)).trans Q.o;obtain⟨⟨a1,a2,a3,a4,a5,a6,a7,a8⟩,b3,dq,dr,ds,dt,du,dv⟩:=kB bi)
     have dT:=OG (cy f) bi;have cb:=(n.o.below C).zS d3 df.o (cy f);clear a1 a2 a3 a4 a5 a6 a7 a8 b3 dq dr ds dt du dv bi an bv Q N al O P am d5;generalize cy f=q at*;generalize ((((((z.setCell ⟨gk,1,K⟩ (.bool q.there)).setCell ⟨gk,2,K⟩ (.bool q.least.null)).setCell ⟨gk,3,K⟩ (.int .i64 q.least.n)).setCell ⟨gk,4,K⟩ (.string q.least.s)).setCell ⟨gk,5,K⟩ (.bool q.most.null)).setCell ⟨gk,6,K⟩ (.int .i64 q.most.n)).setCell ⟨gk,7,K⟩ (.string q.most.s)=a0 at*;have E:=af cb;clear cb C;have e1:w.heap.size<=a0.heap.size:=E.o.dh.size;obtain⟨N,al,O,P,am⟩:=E.o.cells;obtain⟨⟨a1,a2,a3,a4,a5,a6,a7,a8⟩,-⟩:=kB dT;have j:=E.o.own;rw[cU] at j
     go_wp2_with (at_builtin;refine wpList_append_lies _ Y _ _ 137 Y w.heap.size 143 c2 _ 8 88 ay.underlying137 cn cx cR c0 Y (by decide) _ a _ Y (j.alloc _) ⟨a0.heap.size,0,K⟩ 1 1 (dJ ⟨k,q⟩) Y Y (yd a0 ⟨k,q⟩ _) (uu _) (by decide) (by unfold Ur;omega) (by omega) (by simp;omega) _ Y ?_;intro B G z y L H bj;have u:=aO.jm (n:=a+1) (cap:=G) L H;obtain⟨br,bs⟩:=E.o.kept u)
     have M:z.ownsRow w.heap.size 143 8 (.slice (I ⟨B,0,K⟩) (a+1) G) (ew b cs es Z (a+1)).length (ek (ew b cs es Z (a+1))):=by
      rw[cU,aw.o];unfold ek at y ⊢;rw[Vj,Ve];exact y
     have ap:=af (E.o.jQ u M);clear j y L u br bs M H bj
     go_roundw
     case rel=>exact⟨a+1,_,by omega,by go_num,ap.o⟩
     case measure=>simp[UT];omega
  ·obtain rfl:a=cs.length:=by omega
   obtain⟨d9,fG,rfl⟩:=bz d.own;rw[cU] at d;generalize d4:Vc d9 cs.length fG=g at d;obtain⟨-,-,O,P,-⟩:=d.cells;have j:=d.own;rw[cU] at j;have a9:=Us wr (w.heap.size+1) 0 _ _ (.int .i64 (b.length:Int)) d.res;have ba:=Us _ (w.heap.size+1) 1 _ _ g a9;have dk:X (((wr.setCell ⟨w.heap.size+1,0,K⟩ (.int .i64 (b.length:Int))).setCell ⟨w.heap.size+1,1,K⟩ g).ownsRow w.heap.size 143 8 g cs.length (ek (ew b cs es bo cs.length))):=by
    have bA:=j.kept (aN wr (w.heap.size+1) 0 (.int .i64 (b.length:Int))) (.inr (bq j d.res (by decide)).symm);exact bA.kept (aN _ (w.heap.size+1) 1 g) (.inr (bq bA a9 (by decide)).symm)
   have c5:X (aP w ((wr.setCell ⟨w.heap.size+1,0,K⟩ (.int .i64 (b.length:Int))).setCell ⟨w.heap.size+1,1,K⟩ g)):=dj (dj d.dh d.dh.size (by omega) _ _) (by simpa using d.dh.size) (by omega) _ _;have e2:wr.cell? ⟨w.heap.size+1,0,K⟩=I (.int .i64 0):=by have:=d.res;simp[Ut,this]
   have e3:wr.cell? ⟨w.heap.size+1,1,K⟩=I (.slice K 0 0):=by have:=d.res;simp[Ut,this]
   have eo:wr.frozen? ⟨w.heap.size+1,0,K⟩=T8:=by have:=d.res;simp[UR,this]
   have b3:wr.frozen? ⟨w.heap.size+1,1,K⟩=T8:=by have:=d.res;simp[UR,this]
   have ee:((wr.setCell ⟨w.heap.size+1,0,K⟩ (.int .i64 (b.length:Int))).setCell ⟨w.heap.size+1,1,K⟩ g).cell? ⟨w.heap.size+1,0,K⟩=I (.int .i64 (b.length:Int)):=by simp[Ut,ba]
   have ef:((wr.setCell ⟨w.heap.size+1,0,K⟩ (.int .i64 (b.length:Int))).setCell ⟨w.heap.size+1,1,K⟩ g).cell? ⟨w.heap.size+1,1,K⟩=I g:=by simp[Ut,ba]
   clear j a9 ba d T;subst d4;go_wp2;simp[VS,UY,Tryz.results60,go_sem,ee,ef];exact⟨dk.o,c5.o⟩
end Ec
namespace Un
open Go.RowKit
section
variable {P:Ug}{ops:Array Vv}{Q:Exit->V7->F->Prop}{md:Region.Mode}{S:F->Prop}{u:Nat}
def Any (P:Ug)(md:Region.Mode)(ops:Array Vv)(Q:Exit->V7->F->Prop)(S:F->Prop)(u:Nat):Nat->Array Bool->V7->F->Prop
 |0,listed,a,b=>U0 md ops listed=[]/\Q .normal a b
 |n+1,listed,a,b=>(U0 md ops listed=[]->Q .normal a b)/\
  ∀c∈U0 md ops listed,wpOp P ops Q c (λe d=>((listed.setIfInBounds c Z).getD u Z=T8->S d)/\Any P md ops Q S u n (listed.setIfInBounds c Z) e d) a b
theorem Lv:∀(n:Nat) (listed:Array Bool) (a:V7) (w:F),Any P md ops Q S u n listed a w->wpAny P md ops Q n listed a w
 |0,_,_,_,b=>b
 |n+1,_,_,_,b=>⟨b.1,λe d=>wpOp_mono (λc f g=>Lv n _ c f g.2) (b.2 e d)⟩
def waits(md:Region.Mode)(ops:Array Vv)(u i:Nat):Bool:=
 match ops[u]? with
 |some b=>b.after.any λa=>Vo md a&&a.on==i
 |none=>T8
def uE{i:Nat}{listed:Array Bool}(d:waits md ops u i=Z)(e:listed.getD i Z=T8):u∉U0 md ops listed:=by
 intro k;obtain⟨-,l,j,g⟩:=mem_ready.1 k;unfold waits at d;rw[j] at d;obtain⟨f,h,c⟩:=Array.any_eq_true'.1 d;simp only[Ux,beq_iff_eq] at c;have a:=g f h c.1;rw[c.2] at a;rcases Vz i listed.size with b|b
 ·simp[b] at e a;rw[e] at a;cases a
 ·simp[Vm b] at a
def first{i:Nat}{h:Vv}{v:U}(A:ops[i]? =I h)(J:∀(j:Nat) (o:Vv) cs b,ops[j]? =I o->o.op≠.select cs b)(am:waits md ops u i=Z)(ab:u≠i)
 (O:∀c a w,Q (.panic c) (a.put h.dst v) w->Q (.panic c) a w):
 ∀(n:Nat) (listed:Array Bool) (a:V7) (w:F),
  (∀j k,ops[j]? =I k->j≠i->listed.getD j Z=T8->(∀e∈k.after,Vo md e=Z->e.on≠i)->h.apart ops k=Z)->
  i∈U0 md ops listed->listed.getD u Z=T8->YieldsIf P ops S h v a->S w->
  Any P md ops Q S u n (listed.setIfInBounds i Z) (a.put h.dst v) w->Any P md ops Q S u (n+1) listed a w:=by
 intro n
 induction n with
 |zero=>
  intro listed a w _ g C t p m;refine⟨λx=>(by rw[x] at g;cases g),λj q=>?_⟩;by_cases d:j=i
  ·subst d;exact t.wpOp A p ⟨λ_=>p,m⟩
  ·have:=ready_mono q d;rw[m.1] at this;cases this
 |succ n an=>
  intro listed a w D g C t p m;refine⟨λx=>(by rw[x] at g;cases g),λj q=>?_⟩;by_cases d:j=i
  ·subst d;exact t.wpOp A p ⟨λ_=>p,m⟩
  ·have z:=(mem_ready.1 g).1;have G:j≠u:=λe=>uE am z (e▸q);have f:=m.2 j (ready_mono q d);obtain⟨H,k,B,R⟩:=mem_ready.1 q;have ae:∀e∈k.after,Vo md e=Z->e.on≠i:=λe V T W=>by
    have f:=R e V T;rw[W] at f;rcases Vz i listed.size with y|y
    ·simp[y] at z f;rw[z] at f;cases f
    ·simp[Vm y] at f
   have N:=wpOp_putIf B (D j k B d H ae) (λcs b=>J i h cs b A) (λcs b=>J j k cs b B) O t f;have X:∀l r,ops[l]? =I r->l≠i->(listed.setIfInBounds j Z).getD l Z=T8->
    (∀e∈r.after,Vo md e=Z->e.on≠i)->h.apart ops r=Z:=λl r Y aa L ad=>by
    refine D l r Y aa ?_ ad;by_cases E:j=l
    ·subst E;exact H
    ·rw[XD Z E] at L;exact L
   have al:(listed.setIfInBounds j Z).getD u Z=T8:=by rw[XD Z G];exact C
   have K:((listed.setIfInBounds i Z).setIfInBounds j Z).getD u Z=T8:=by rw[XD Z G,XD Z ab.symm];exact C
   refine wpOp_mono (λM ao s=>⟨λ_=>s.2.1 K,an (listed.setIfInBounds j Z) M ao X (ready_mono g (Ne.symm d)) al s.1 (s.2.1 K) ?_⟩) N;rw[Array.setIfInBounds_comm _ _ d];exact s.2.2
def S7{i:Nat}{k:Vv}{v:U}(y:ops[i]? =I k)(H:∀(j:Nat) (o:Vv) cs b,ops[j]? =I o->o.op≠.select cs b)(z:u≠i)
 (N:∀c a w,Q (.panic c) (a.put k.dst v) w->Q (.panic c) a w):
 ∀(n:Nat) (listed:Array Bool) (a:V7) (w:F),
  (∀j l,ops[j]? =I l->j≠i->listed.getD j Z=T8->(∀e∈l.after,Vo md e=Z->e.on≠i)->k.apart ops l=Z)->
  i∈U0 md ops listed->(listed.getD u Z=T8->S w)->YieldsIf P ops (λ_=>True) k v a->
  Any P md ops Q S u n (listed.setIfInBounds i Z) (a.put k.dst v) w->Any P md ops Q S u (n+1) listed a w:=by
 intro n
 induction n with
 |zero=>
  intro listed a w _ h B t p;refine⟨λd=>(by rw[d] at h;cases h),λj s=>?_⟩;by_cases f:j=i
  ·subst f;exact t.wpOp y trivial ⟨λd=>B (by rw[XD Z z.symm] at d;exact d),p⟩
  ·have:=ready_mono s f;rw[p.1] at this;cases this
 |succ n ad=>
  intro listed a w D h B t p;refine⟨λd=>(by rw[d] at h;cases h),λj s=>?_⟩;by_cases f:j=i
  ·subst f;exact t.wpOp y trivial ⟨λd=>B (by rw[XD Z z.symm] at d;exact d),p⟩
  ·have C:=(mem_ready.1 h).1;have g:=p.2 j (ready_mono s f);obtain⟨G,l,A,O⟩:=mem_ready.1 s;have ab:∀e∈l.after,Vo md e=Z->e.on≠i:=λe T R V=>by
    have g:=O e T R;rw[V] at g;rcases Vz i listed.size with x|x
    ·simp[x] at C g;rw[C] at g;cases g
    ·simp[Vm x] at g
   have M:=wpOp_putIf A (D j l A f G ab) (λcs b=>H i k cs b y) (λcs b=>H j l cs b A) N t g;have W:∀m q,ops[m]? =I q->m≠i->(listed.setIfInBounds j Z).getD m Z=T8->
    (∀e∈q.after,Vo md e=Z->e.on≠i)->k.apart ops q=Z:=λm q X Y K aa=>by
    refine D m q X Y ?_ aa;by_cases E:j=m
    ·subst E;exact G
    ·rw[XD Z E] at K;exact K
   have J:((listed.setIfInBounds i Z).setIfInBounds j Z).getD u Z=(listed.setIfInBounds j Z).getD u Z:=by
    rw[Array.setIfInBounds_comm _ _ (Ne.symm f),XD Z z.symm]
   refine wpOp_mono (λL ae r=>⟨λd=>r.2.1 (J.trans d),ad (listed.setIfInBounds j Z) L ae W (ready_mono h (Ne.symm f)) (λd=>r.2.1 (J.trans d)) r.1 ?_⟩) M;rw[Array.setIfInBounds_comm _ _ f];exact r.2.2
def take{i:Nat}{b:Vv}{v:U}{n:Nat}{listed:Array Bool}{a:V7}{w:F}(d:ops[i]? =I b)
 (l:Region.noSelect ops=Z) (g:Region.free md ops listed i=Z) (k:(U0 md ops listed).contains i=Z) (o:waits md ops u i=Z) (j:(u==i)=T8) (m:listed.getD u Z=T8)
 (e:∀c a w,Q (.panic c) (a.put b.dst v) w->Q (.panic c) a w) (p:YieldsIf P ops S b v a) (f:S w)
 (h:Any P md ops Q S u n (listed.setIfInBounds i Z) (a.put b.dst v) w):Any P md ops Q S u (n+1) listed a w:=
 first d (Region.noSelect_spec l) o (by simpa using j) e n listed a w (Region.free_spec d g) (by simpa using k) m p f h
def pick{i:Nat}{b:Vv}{v:U}{n:Nat}{listed:Array Bool}{a:V7}{w:F}(d:ops[i]? =I b)
 (l:Region.noSelect ops=Z) (g:Region.free md ops listed i=Z) (k:(U0 md ops listed).contains i=Z) (j:(u==i)=T8)
 (e:∀c a w,Q (.panic c) (a.put b.dst v) w->Q (.panic c) a w) (m:YieldsIf P ops (λ_=>True) b v a) (f:S w)
 (h:Any P md ops Q S u n (listed.setIfInBounds i Z) (a.put b.dst v) w):Any P md ops Q S u (n+1) listed a w:=
 S7 d (Region.noSelect_spec l) (by simpa using j) e n listed a w (Region.free_spec d g) (by simpa using k) (λ_=>f) m h
def one{i:Nat}{o:Vv}{n:Nat}{listed:Array Bool}{a:V7}{w:F}(e:U0 md ops listed=[i])(k:ops[i]? =I o)
 (h:∀b:V7->F->Prop,X (∀a' w',((listed.setIfInBounds i Z).getD u Z=T8->S w')->Any P md ops Q S u n (listed.setIfInBounds i Z) a' w'->b a' w')->if UG o (Vk ops a.tmps)=Z then Oper.wp P o a w b Q else b (a.put o.dst Vl) w):
 Any P md ops Q S u (n+1) listed a w:=by
 refine⟨λd=>(by rw[e] at d;cases d),λl c=>?_⟩;rw[e] at c;simp at c;subst c;exact wpOp_step k λb j=>h b (λa' w' f g=>j a' w' ⟨f,g⟩)
def pair{i j:Nat}{o o':Vv}{n:Nat}{listed:Array Bool}{a:V7}{w:F}(k:U0 md ops listed=[i,j])(m:ops[i]? =I o)(p:ops[j]? =I o')
 (h:∀b:V7->F->Prop,X (∀a' w',((listed.setIfInBounds i Z).getD u Z=T8->S w')->Any P md ops Q S u n (listed.setIfInBounds i Z) a' w'->b a' w')->if UG o (Vk ops a.tmps)=Z then Oper.wp P o a w b Q else b (a.put o.dst Vl) w)
 (l:∀b:V7->F->Prop,X (∀a' w',((listed.setIfInBounds j Z).getD u Z=T8->S w')->Any P md ops Q S u n (listed.setIfInBounds j Z) a' w'->b a' w')->if UG o' (Vk ops a.tmps)=Z then Oper.wp P o' a w b Q else b (a.put o'.dst Vl) w):
 Any P md ops Q S u (n+1) listed a w:=by
 refine⟨λg=>(by rw[k] at g;cases g),λq f=>?_⟩;rw[k] at f;simp at f;rcases f with rfl|rfl
 ·exact wpOp_step m λb e=>h b (λa' w' c d=>e a' w' ⟨c,d⟩)
 ·exact wpOp_step p λb e=>l b (λa' w' c d=>e a' w' ⟨c,d⟩)
theorem done{listed:Array Bool}{a:V7}{w:F}(b:U0 md ops listed=[])(h:Q .normal a w):∀n,Any P md ops Q S u n listed a w
 |0=>⟨b,h⟩
 |_+1=>⟨λ_=>h,by rw[b];simp⟩
def QW{id:Nat}{a:V7}{w:F}(S:F->Prop)(u:Nat)(b:P.follows .mixedOrders=Z)
 (h:Any P .any ops Q S u ops.size (U4 ops.size T8) a w.drew):(Code.region id ops Z).wp P Q a w:=
 wp_region_any b (Lv _ _ _ _ h)
def Hj (md:Region.Mode)(ops:Array Vv)(L:List Nat)(i:Nat):Bool:=L.all λa=>waits md ops a i||L.any λb=>waits md ops a b
def Q9{L:List Nat}{i:Nat}{l:Vv}{v:U}(E:ops[i]? =I l)(R:∀(j:Nat) (o:Vv) cs b,ops[j]? =I o->o.op≠.select cs b)(a1:Hj md ops L i=Z)(G:u∈L)(av:i∉L)
 (ab:∀c a w,Q (.panic c) (a.put l.dst v) w->Q (.panic c) a w):
 ∀(n:Nat) (listed:Array Bool) (a:V7) (w:F),
  (∀j m,ops[j]? =I m->j≠i->listed.getD j Z=T8->(∀e∈m.after,Vo md e=Z->e.on≠i)->l.apart ops m=Z)->
  i∈U0 md ops listed->(∀g∈L,listed.getD g Z=T8)->YieldsIf P ops S l v a->S w->
  Any P md ops Q S u n (listed.setIfInBounds i Z) (a.put l.dst v) w->Any P md ops Q S u (n+1) listed a w:=by
 intro n
 induction n with
 |zero=>
  intro listed a w _ k y z r q;refine⟨λA=>(by rw[A] at k;cases k),λj p=>?_⟩;by_cases d:j=i
  ·subst d;exact z.wpOp E r ⟨λ_=>r,q⟩
  ·have:=ready_mono p d;rw[q.1] at this;cases this
 |succ n a2=>
  intro listed a w K k y z r q;refine⟨λA=>(by rw[A] at k;cases k),λj p=>?_⟩;by_cases d:j=i
  ·subst d;exact z.wpOp E r ⟨λ_=>r,q⟩
  ·have C:=(mem_ready.1 k).1;have ao:j∉L:=λap=>by
    have Y:=UA.1 a1 j ap;rcases Bool.or_eq_true_iff.1 Y with D|D
    ·exact uE D C p
    ·obtain⟨f,H,aa⟩:=List.any_eq_true.1 D;exact uE aa (y f H) p
   have N:∀g∈L,j≠g:=λg x e=>ao (e▸x);have h:=q.2 j (ready_mono p d);obtain⟨O,m,J,ad⟩:=mem_ready.1 p;have az:∀e∈m.after,Vo md e=Z->e.on≠i:=λe al ae am=>by
    have h:=ad e al ae;rw[am] at h;rcases Vz i listed.size with B|B
    ·simp[B] at C h;rw[C] at h;cases h
    ·simp[Vm B] at h
   have X:=wpOp_putIf J (K j m J d O az) (λcs b=>R i l cs b E) (λcs b=>R j m cs b J) ab z h;have an:∀f s,ops[f]? =I s->f≠i->(listed.setIfInBounds j Z).getD f Z=T8->
    (∀e∈s.after,Vo md e=Z->e.on≠i)->l.apart ops s=Z:=λf s H ar V aw=>by
    refine K f s H ar ?_ aw;by_cases M:j=f
    ·subst M;exact O
    ·rw[XD Z M] at V;exact V
   have a0:∀g∈L,(listed.setIfInBounds j Z).getD g Z=T8:=λg x=>by rw[XD Z (N g x)];exact y g x
   have T:((listed.setIfInBounds i Z).setIfInBounds j Z).getD u Z=T8:=by rw[XD Z (N u G),XD Z (show i≠u from λe=>av (e▸G))];exact y u G
   refine wpOp_mono (λW a3 t=>⟨λ_=>t.2.1 T,a2 (listed.setIfInBounds j Z) W a3 an (ready_mono k (Ne.symm d)) a0 t.1 (t.2.1 T) ?_⟩) X;rw[Array.setIfInBounds_comm _ _ d];exact t.2.2
def zS(L:List Nat){i:Nat}{b:Vv}{v:U}{n:Nat}{listed:Array Bool}{a:V7}{w:F}(d:ops[i]? =I b)
 (p:Region.noSelect ops=Z) (j:Region.free md ops listed i=Z) (o:(U0 md ops listed).contains i=Z) (r:Hj md ops L i=Z) (l:L.contains u=Z) (m:L.contains i=T8) (q:(L.all λg=>listed.getD g Z==T8)=Z)
 (e:∀c a w,Q (.panic c) (a.put b.dst v) w->Q (.panic c) a w) (s:YieldsIf P ops S b v a) (f:S w)
 (h:Any P md ops Q S u n (listed.setIfInBounds i Z) (a.put b.dst v) w):Any P md ops Q S u (n+1) listed a w:=
 Q9 d (Region.noSelect_spec p) r (by simpa using l) (by simpa using m) e n listed a w (Region.free_spec d j) (by simpa using o) (λg k=>by simpa using UA.1 q g k) s f h
def lO (md:Region.Mode)(ops:Array Vv)(u:Nat)(listed:Array Bool)(i:Nat)(t:Array U)(b:Bool):Bool:=
 Region.noSelect ops&&Region.free md ops listed i&&(U0 md ops listed).contains i && !(u==i)&&match ops[i]? with
  |some a=>UG a (Vk ops t)==b
  |none=>T8
def BS{i:Nat}{a:Vv}{listed:Array Bool}{t:Array U}{b:Bool}(c:ops[i]? =I a)(h:lO md ops u listed i t b=Z):Region.noSelect ops=Z/\Region.free md ops listed i=Z/\(U0 md ops listed).contains i=Z/\(u==i)=T8/\UG a (Vk ops t)=b:=by
 unfold lO at h;rw[c] at h;simp only[Ux,WR,beq_iff_eq] at h;exact⟨h.1.1.1.1,h.1.1.1.2,h.1.1.2,h.1.2,h.2⟩
def Cm(e:X (∀c a (d:Nat) v w,Q (.panic c) (a.put (I d) v) w->Q (.panic c) a w)){d:Option Nat}{v:U}:∀c a w,Q (.panic c) (a.put d v) w->Q (.panic c) a w:=λc a w b=>by
 cases d with
 |none=>exact b
 |some d=>exact e.o c a d v w b
def pk(i:Nat){b:Vv}{v:U}{n:Nat}{listed:Array Bool}{a:V7}{w:F}(h:Any P md ops Q S u n (listed.setIfInBounds i Z) (a.put b.dst v) w)(e:ops[i]? =I b:=by rfl)(hc:lO md ops u listed i a.tmps Z=Z:=by kernel_rfl)(f:X (∀c a (d:Nat) v w,Q (.panic c) (a.put (I d) v) w->Q (.panic c) a w):=by assumption)(g:S w:=by assumption)
 (j:∀w,(UI a.eval b).run P w= .ok (.value v) w:=by intro w;go_simp;try with_reducible rfl):Any P md ops Q S u (n+1) listed a w:=
 have c:=BS e hc
 pick e c.1 c.2.1 c.2.2.1 c.2.2.2.1 (Cm f) (.inl ⟨c.2.2.2.2,λw _=>j w⟩) g h
def sk(i:Nat){e:Vv}{n:Nat}{listed:Array Bool}{a:V7}{w:F}(h:Any P md ops Q S u n (listed.setIfInBounds i Z) (a.put e.dst Vl) w)(b:ops[i]? =I e:=by rfl)(hc:lO md ops u listed i a.tmps T8=Z:=by kernel_rfl)(f:X (∀c a (d:Nat) v w,Q (.panic c) (a.put (I d) v) w->Q (.panic c) a w):=by assumption)(g:S w:=by assumption):Any P md ops Q S u (n+1) listed a w:=
 have c:=BS b hc
 pick b c.1 c.2.1 c.2.2.1 c.2.2.2.1 (Cm f) (.inr ⟨c.2.2.2.2,rfl⟩) g h
def ld(L:List Nat)(i:Nat){e:Vv}{v:U}{n:Nat}{listed:Array Bool}{a:V7}{w:F}(h:Any P md ops Q S u n (listed.setIfInBounds i Z) (a.put e.dst v) w)(f:ops[i]? =I e:=by rfl)(hc:(lO md ops u listed i a.tmps Z&&Hj md ops L i&&L.contains u && !L.contains i&&L.all λg=>listed.getD g Z==T8)=Z:=by kernel_rfl)(j:X (∀c a (d:Nat) v w,Q (.panic c) (a.put (I d) v) w->Q (.panic c) a w):=by assumption)(k:S w:=by assumption)
 (l:∀w,S w->(UI a.eval e).run P w= .ok (.value v) w:=by intro w b;(try dsimp only at b);(repeat obtain⟨_,b⟩:=b);go_simp;try with_reducible rfl):Any P md ops Q S u (n+1) listed a w:=by
 simp only[Ux,WR] at hc;have c:=BS f hc.1.1.1.1;exact zS L f c.1 c.2.1 c.2.2.1 hc.1.1.1.2 hc.1.1.2 hc.1.2 hc.2 (Cm j) (.inl ⟨c.2.2.2.2,l⟩) k h
def on(i:Nat){o:Vv}{n:Nat}{listed:Array Bool}{a:V7}{w:F}
 (h:∀b:V7->F->Prop,X (∀a' w',((listed.setIfInBounds i Z).getD u Z=T8->S w')->Any P md ops Q S u n (listed.setIfInBounds i Z) a' w'->b a' w')->Oper.wp P o a w b Q) (e:U0 md ops listed=[i]:=by kernel_rfl) (d:ops[i]? =I o:=by rfl) (f:UG o (Vk ops a.tmps)=Z:=by kernel_rfl):Any P md ops Q S u (n+1) listed a w:=
 one e d λb c=>by rw[if_pos f];exact h b c
def open_{id:Nat}{a:V7}{w:F}(S:F->Prop)(u:Nat)(e:∀c a (d:Nat) v w,Q (.panic c) (a.put (I d) v) w->Q (.panic c) a w)
 (h:X (∀c a (d:Nat) v w,Q (.panic c) (a.put (I d) v) w->Q (.panic c) a w)->Any P .any ops Q S u ops.size (U4 ops.size T8) a w.drew) (b:P.follows .mixedOrders=Z:=by kernel_rfl):(Code.region id ops Z).wp P Q a w:=QW S u b (h e)
end
end Un
namespace Ec
open Go.RowKit Pk Pm
def I1(w:F)(o p q r:Xx):((((w.alloc o).alloc p).alloc q).alloc r).heap[w.heap.size+3]? =I r:=by
 have:=bh (((w.alloc o).alloc p).alloc q) r;rwa [show(((w.alloc o).alloc p).alloc q).heap.size=w.heap.size+3 by simp] at this
def ja.below{w w':F}{base:Nat}{v:U}{L:List (Bd×U)}(h:ja w base v L)(a:aP w w'):ja w' base v L:=
 ⟨aK h.own a,λc b=>aK (h.each c b) a⟩
def ja.put{w:F}{base:Nat}{v:U}{L:List (Bd×U)}(h:ja w base v L){g:Nat}{cs:Array U}{t:Ui}(a:w.heap[g]? =I (.cells cs t (0,0)))(h1:t≠139)(d:t≠143)(o:Nat)(u:U):ja (w.setCell ⟨g,o,K⟩ u) base v L:=
 ⟨h.own.kept (aN w g o u) (.inr (bq h.own a h1).symm),λc b=>(h.each c b).kept (aN w g o u) (.inr (bq (h.each c b) a d).symm)⟩
def ja.snoc{w d:F}{base:Nat}{v v1:U}{L:List (Bd×U)}(h:ja w base v L)(k:aO w d v v1){b:Bd}{c:U}(l:w.ownsRow base 143 8 c b.chunks.length (ek b.chunks))
 (m:d.ownsRow base 139 2 v1 (L++[(b,c)]).length (nI (L++[(b,c)]))):ja d base v1 (L++[(b,c)]):=by
 refine⟨m,λn a=>?_⟩;have f:∀{i:U} {g:Nat} {j:List U},w.ownsRow base 143 8 i g j->d.ownsRow base 143 8 i g j:=λe=>
  bE e k (dR e h.own (by decide))
 rcases U2.1 a with a|a
 ·exact f (h.each n a)
 ·simp at a;subst a;exact f l
def AD.sub{w:F}{ro:Option UK}{rb bg aM:Nat}{b:List (List aE)}(c:Dg w ro rb bg b)(hc:b.length<=aM)(a m:Nat)(i:a<b.length):
 AD w (.slice (I ⟨rb,bg+a,K⟩) ((b.drop a).take m).length (aM-a)) ((b.drop a).take m):=by
 refine⟨_,rb,bg+a,aM-a,rfl,by simp;omega,λ_=>rfl,λ_=>c.lt (by omega),λd g=>?_⟩;have h:a+d<b.length:=by simp at g;omega
 obtain⟨v,e,f⟩:=c.c (a+d) h;refine⟨v,by rw[U6];exact e,?_⟩;rw[VG,List.getElem_drop];exact f
structure nT(w W:F)(cv rv ev:U)(bd:Int)(bo:Bool)(bv:U)(L:List (Bd×U)):Prop where
 P7:W.heap[w.heap.size]? =I (.cells #[cv,rv] 46 (0,0))
 opt:W.heap[w.heap.size+1]? =I (.cells #[.int .i64 bd,ev,.bool bo] 48 (0,0))
 res:W.heap[w.heap.size+2]? =I (.cells #[.slice K 0 0,.slice K 0 0,.slice K 0 0] 105 (0,0))
 box:W.heap[w.heap.size+3]? =I (.cells #[cv,ev,bv] 105 (0,0))
 cg:ja W w.heap.size bv L
 dh:aP w W
def nT.below{w W b:F}{e g f:U}{c:Int}{bo:Bool}{d:U}{L:List (Bd×U)}(h:nT w W e g f c bo d L)(a:aP W b):nT w b e g f c bo d L:=
 ⟨(a.block _ (Uf h.P7)).trans h.P7,(a.block _ (Uf h.opt)).trans h.opt,(a.block _ (Uf h.res)).trans h.res,(a.block _ (Uf h.box)).trans h.box,h.cg.below a,h.dh.trans (a.mono h.dh.size)⟩
def nT.cells{w W:F}{b i c:U}{e:Int}{bo:Bool}{f:U}{L:List (Bd×U)}(h:nT w W b i c e bo f L):
 (W.cell? ⟨w.heap.size,0,K⟩=I b/\W.cell? ⟨w.heap.size,1,K⟩=I i)/\(W.cell? ⟨w.heap.size+1,0,K⟩=I (.int .i64 e)/\W.cell? ⟨w.heap.size+1,1,K⟩=I c/\W.cell? ⟨w.heap.size+1,2,K⟩=I (.bool bo))/\
 (W.cell? ⟨w.heap.size+3,0,K⟩=I b/\W.cell? ⟨w.heap.size+3,1,K⟩=I c/\W.cell? ⟨w.heap.size+3,2,K⟩=I f/\W.frozen? ⟨w.heap.size+3,2,K⟩=T8):=by
 have g:=h.P7;have d:=h.opt;have a:=h.box;exact⟨⟨by simp[Ut,g],by simp[Ut,g]⟩,⟨by simp[Ut,d],by simp[Ut,d],by simp[Ut,d]⟩,by simp[Ut,a],by simp[Ut,a],by simp[Ut,a],by simp[UR,a]⟩
def nT.kept{w W a:F}{f j g:U}{d:Int}{bo:Bool}{b e:U}{L:List (Bd×U)}(h:nT w W f j g d bo b L)(i:aO W a b e):
 a.cell? ⟨w.heap.size+3,2,K⟩=I b/\a.frozen? ⟨w.heap.size+3,2,K⟩=T8:=by
 have c:=(i.fP.block _ (Uf h.box) (bq h.cg.own h.box (by decide))).trans h.box;exact⟨by simp[Ut,c],by simp[UR,c]⟩
def nT.jQ{w W d:F}{i m j:U}{f:Int}{bo:Bool}{g c:U}{L:List (Bd×U)}(h:nT w W i m j f bo g L)(a:aO W d g c){b:Bd}{e:U}(s:W.ownsRow w.heap.size 143 8 e b.chunks.length (ek b.chunks))
 (t:d.ownsRow w.heap.size 139 2 c (L++[(b,e)]).length (nI (L++[(b,e)]))):nT w (d.setCell ⟨w.heap.size+3,2,K⟩ c) i m j f bo c (L++[(b,e)]):=by
 have o:=(a.fP.block _ (Uf h.P7) (bq h.cg.own h.P7 (by decide))).trans h.P7;have p:=(a.fP.block _ (Uf h.opt) (bq h.cg.own h.opt (by decide))).trans h.opt;have q:=(a.fP.block _ (Uf h.res) (bq h.cg.own h.res (by decide))).trans h.res;have k:=(a.fP.block _ (Uf h.box) (bq h.cg.own h.box (by decide))).trans h.box;have r:=Us d (w.heap.size+3) 2 _ _ c k;have l:=h.dh.trans (a.below (λn a=>(h.cg.own.lt n a).1) h.dh.size);refine⟨?_,?_,?_,r,(h.cg.snoc a s t).put k (by decide) (by decide) _ _,dj l l.size (by omega) _ _⟩
 ·rw[Uv _ _ _ _ (by simp)];exact o
 ·rw[Uv _ _ _ _ (by simp)];exact p
 ·rw[Uv _ _ _ _ (by simp)];exact q
def nT.Ty{w W a:F}{e j f:U}{c:Int}{bo:Bool}{d k:U}{L:List (Bd×U)}(h:nT w W e j f c bo d L)(i:aO W a d k):
 a.cell? ⟨w.heap.size,1,K⟩=I j/\a.cell? ⟨w.heap.size,0,K⟩=I e/\a.cell? ⟨w.heap.size+1,0,K⟩=I (.int .i64 c)/\a.cell? ⟨w.heap.size+1,1,K⟩=I f/\a.cell? ⟨w.heap.size+1,2,K⟩=I (.bool bo):=by
 have g:=(i.fP.block _ (Uf h.P7) (bq h.cg.own h.P7 (by decide))).trans h.P7;have b:=(i.fP.block _ (Uf h.opt) (bq h.cg.own h.opt (by decide))).trans h.opt;exact⟨by simp[Ut,g],by simp[Ut,g],by simp[Ut,b],by simp[Ut,b],by simp[Ut,b]⟩
def nT.Ny{w W:F}{c e d:U}{a:Int}{bo:Bool}{b:U}{L:List (Bd×U)}(h:nT w W c e d a bo b L):
 bU W (w.heap.size+3) 2 b/\bU W w.heap.size 1 e/\bU W w.heap.size 0 c/\bU W (w.heap.size+1) 0 (.int .i64 a)/\bU W (w.heap.size+1) 1 d/\bU W (w.heap.size+1) 2 (.bool bo):=by
 obtain⟨⟨k,l⟩,⟨g,i,j⟩,m,n,f,o⟩:=h.cells;exact⟨f,l,k,g,i,j⟩
def IK(w:F)(b:Bd)(a:U)(t:Ui):∀(j:Nat) (u:U),(n7 (b,a))[j]? =I u->(w.alloc (.cells (n7 (b,a)).toArray t)).cell? ((⟨w.heap.size,0,K⟩:UK).add j)=I u:=
 World.news_of_block (bh w _)
def ay.Ik:((aB T5).info? 139).map (λi=>(i.zero,i.size,i.bytes))=I (I (.agg #[.int .i64 0,aR]),2,32):=by kernel_rfl
def iu{b:List (List aE)}{a k:Nat}:(bZ b a k).length=min a (b.length-k*a):=by simp[bZ]
def F3{es:List Int}(bt:(∀e∈es,e=0)\/xF/\rT)(c:List (List aE))(cs:List bK)(a:Nat)(bo:Bool)(b6 v y:U)(w:F)(S:1<=a)(dk:a<=100)(du:c.length<=2000)(b3:∀r∈c,r.length=cs.length)(bB:∀r∈c,∀x∈r,rD x)(T:cs.length<=8)(bu:es.length=cs.length)
 (cu:AD w b6 c) (bs:vp w v cs) (bv:rB w y es):
 bG 43 #[.agg #[v,b6],.agg #[.int .i64 (a:Int),y,.bool bo]] w λe w'=>∃f L,e= .returned (.agg #[v,y,f])/\L.map Uy=bO c cs es bo a (b8 c.length a)/\ja w' w.heap.size f L/\aP w w':=by
 obtain⟨c2,cl,cR,c0,c1⟩:=Vg ay.Ik;have a3:X (vp w v cs):=bs;have a4:X (rB w y es):=bv;have Q:X (∀d b,aP w d->b*a<c.length->∀O,AD d O (bZ c a b)->bG 60 #[O,v,.agg #[.int .i64 (a:Int),y,.bool bo]] d λe w'=>∃q,e= .returned (.agg #[.int .i64 ((bZ c a b).length:Int),q])/\w'.ownsRow d.heap.size 143 8 q cs.length (ek (ew (bZ c a b) cs es bo cs.length))/\aP d w'):=λd b bm V O k=>
  Fx bt (bZ c a b) cs a bo O v y d (by rw[iu];omega) (λr ab=>b3 r (List.mem_of_mem_drop (V6 ab))) (λr ab=>bB r (List.mem_of_mem_drop (V6 ab))) T bu k (a3.o.below bm) (a4.o.lower bm)
 clear bt;obtain⟨B,l,bg,aM,rfl,cp,A⟩:=cu;obtain⟨g,da,bD,aJ,rfl,dl,-⟩:=bs;obtain⟨h,db,ji,bX,rfl,-,-,-⟩:=bv;have R:X (Dg w B l bg c):=A;clear b3 bB A a3 a4 bu;go_enter ay.func43,Tryz.ntmps43
 go_upto_region 2 with fail
 have bl:nT w ((((w.alloc (.cells #[.slice g cs.length aJ,.slice B c.length aM] 46)).alloc (.cells #[.int .i64 (a:Int),.slice h es.length bX,.bool bo] 48)).alloc (.cells #[.slice K 0 0,.slice K 0 0,.slice K 0 0] 105)).alloc (.cells #[.slice g cs.length aJ,.slice h es.length bX,.slice K 0 0] 105)) (.slice g cs.length aJ) (.slice B c.length aM) (.slice h es.length bX) a bo (.slice K 0 0) []:=by
  refine⟨alloc_old _ (by simp;omega) (alloc_old _ (by simp;omega) (alloc_old _ (by simp) (bh w _))),alloc_old _ (by simp) (alloc_old _ (by simp) (jI w _ _)),alloc_old _ (by simp) (AE w _ _ _),I1 w _ _ _ _,⟨Vq _ _ _ _,λdC co=>by simp at co⟩,?_⟩;exact((gB _ _).alloc (by simp;omega) _).alloc (by simp;omega) _
 generalize (((w.alloc (.cells #[.slice g cs.length aJ,.slice B c.length aM] 46)).alloc (.cells #[.int .i64 (a:Int),.slice h es.length bX,.bool bo] 48)).alloc (.cells #[.slice K 0 0,.slice K 0 0,.slice K 0 0] 105)).alloc (.cells #[.slice g cs.length aJ,.slice h es.length bX,.slice K 0 0] 105)=c8 at*
 go_wp2_with fail
 go_loopw [6] (λad wr=>∃(b:Nat) (f:U) (L:List (Bd×U)),b<=b8 c.length a/\ad= .int .i64 ((b*a:Nat):Int)/\L.map Uy=bO c cs es bo a b/\nT w wr (.slice g cs.length aJ) (.slice B c.length aM) (.slice h es.length bX) a bo f L) (λad _=>c.length+200-(UT ad).toNat)
 case atStart=>exact⟨0,_,[],UF _,by simp,rfl,bl⟩
 case round=>
  clear bl;obtain⟨b,f,L,V,rfl,bj,i⟩:=hrel;have a9:X (nT w wr (.slice g cs.length aJ) (.slice B c.length aM) (.slice h es.length bX) a bo f L):=i;have G:X (L.map Uy=bO c cs es bo a b):=bj;have a6:X (b<=b8 c.length a):=V;clear bj V;by_cases N:b*a<c.length
  ·have cc:X (b<b8 c.length a):=(mz (by omega) b).1 N;have ci:X ((b+1)*a=b*a+a):=Nat.succ_mul b a;have a2:X ((bZ c a b).length=min a (c.length-b*a)):=iu;have A:=R.o.below i.dh;obtain rfl:=A.addr (by omega);have bb:X (AD wr (.slice (I ⟨l,bg+b*a,K⟩) (bZ c a b).length (aM-b*a)) (bZ c a b)):=AD.sub A cp (b*a) a N;have a1:X (bG 60 #[.slice (I ⟨l,bg+b*a,K⟩) (bZ c a b).length (aM-b*a),.slice g cs.length aJ,.agg #[.int .i64 (a:Int),.slice h es.length bX,.bool bo]] wr.drew λe w'=>∃q,e= .returned (.agg #[.int .i64 ((bZ c a b).length:Int),q])/\w'.ownsRow wr.heap.size 143 8 q cs.length (ek (ew (bZ c a b) cs es bo cs.length))/\aP wr w'):=by
    refine(Q.o wr.drew b i.dh.drew N _ (bb.o.below (Uq _ _).drew)).mono ?_;rintro e w' ⟨q,z,k,J⟩;exact⟨q,z,k,(Uq _ _).drew.trans J⟩
   obtain⟨⟨an,ao⟩,⟨ae,al,am⟩,bc,bd,be,bi⟩:=i.cells;have cv:=i.dh.size;clear i A Q R;generalize b1:(bZ c a b).length=o at*;have cf:X ((bZ c a b).length=o):=b1;clear b1;generalize bx:b*a=n at*;have cb:X (b*a=n):=bx;clear bx;have T:=a2.o;have dq:((n:Nat):Int)<(c.length:Int):=by omega
   obtain⟨t,b4⟩:∃t:Nat,t=n+o:=⟨_,rfl⟩;have cx:min ((n:Int)+(a:Int)) (c.length:Int)=(t:Int):=by omega
   have z:((n:Nat):Int)<=(t:Int):=by omega
   have k:((t:Nat):Int)<=(aM:Int):=by omega
   have c7:X (t=n+o):=b4;have dp:t-n=o:=by omega
   have ds:¬aM=n:=by omega
   clear b4 T a2;have a8:X (L.length=b):=by
    show _=_;rw[<-UH (f:=Uy),G.o,je]
   have dr:b<=2000:=by have:=Nat.le_mul_of_pos_right b (show 0<a by omega);have:=cb.o;omega
   go_upto_region 6 with fail
   clear cx;refine Un.open_ (λd=>d.cell? ⟨w.heap.size+3,2,K⟩=I f/\d.cell? ⟨w.heap.size,1,K⟩=I (.slice (I ⟨l,bg,K⟩) c.length aM)/\d.cell? ⟨w.heap.size,0,K⟩=I (.slice g cs.length aJ)/\d.cell? ⟨w.heap.size+1,0,K⟩=I (.int .i64 (a:Int))/\d.cell? ⟨w.heap.size+1,1,K⟩=I (.slice h es.length bX)/\d.cell? ⟨w.heap.size+1,2,K⟩=I (.bool bo)) 14 (λ_ _ _ _ _ D=>D) λdt=>?_;have E:(λd=>d.cell? ⟨w.heap.size+3,2,K⟩=I f/\d.cell? ⟨w.heap.size,1,K⟩=I (.slice (I ⟨l,bg,K⟩) c.length aM)/\d.cell? ⟨w.heap.size,0,K⟩=I (.slice g cs.length aJ)/\d.cell? ⟨w.heap.size+1,0,K⟩=I (.int .i64 (a:Int))/\d.cell? ⟨w.heap.size+1,1,K⟩=I (.slice h es.length bX)/\d.cell? ⟨w.heap.size+1,2,K⟩=I (.bool bo)) wr.drew:=by go_keep
   refine Un.pk 0 ?_
   try simp only[UX,Ud,Um,Ul]
   refine Un.ld [14] 1 ?_
   try simp only[UX,Ud,Um,Ul]
   refine Un.pk 2 ?_
   try simp only[UX,Ud,Um,Ul]
   refine Un.ld [14] 3 ?_
   try simp only[UX,Ud,Um,Ul]
   refine Un.pk 4 ?_
   try simp only[UX,Ud,Um,Ul]
   refine Un.pk 5 ?_
   try simp only[UX,Ud,Um,Ul]
   refine Un.pk 6 ?_
   try simp only[UX,Ud,Um,Ul]
   refine Un.pk 7 ?_
   try simp only[UX,Ud,Um,Ul]
   refine Un.ld [14] 8 ?_
   try simp only[UX,Ud,Um,Ul]
   refine Un.ld [14] 9 ?_
   try simp only[UX,Ud,Um,Ul]
   refine Un.on 10 λs j=>?_;go_simp;go_at_call 60;refine a1.o.mono ?_;rintro e u ⟨q,rfl,W,S⟩;obtain⟨p,fG,rfl⟩:=bz W;have m:X (nT w u (.slice g cs.length aJ) (.slice (I ⟨l,bg,K⟩) c.length aM) (.slice h es.length bX) a bo f L):=a9.o.below S;have a7:X (u.ownsRow w.heap.size 143 8 (.slice p cs.length fG) cs.length (ek (ew (bZ c a b) cs es bo cs.length))):=bL W cv;refine j.o _ _ (λ_=>m.o.Ny) ?_;clear j s E W S a1 bb an ao ae al am bc bd be bi
   try simp only[UX,Ud,Um,Ul]
   have E:(λd=>d.cell? ⟨w.heap.size+3,2,K⟩=I f/\d.cell? ⟨w.heap.size,1,K⟩=I (.slice (I ⟨l,bg,K⟩) c.length aM)/\d.cell? ⟨w.heap.size,0,K⟩=I (.slice g cs.length aJ)/\d.cell? ⟨w.heap.size+1,0,K⟩=I (.int .i64 (a:Int))/\d.cell? ⟨w.heap.size+1,1,K⟩=I (.slice h es.length bX)/\d.cell? ⟨w.heap.size+1,2,K⟩=I (.bool bo)) u:=m.o.Ny;refine Un.on 11 λs j=>?_;go_simp;have ba:X (nT w (u.alloc (.cells (n7 (⟨o,ew (bZ c a b) cs es bo cs.length⟩,.slice p cs.length fG)).toArray 139)) (.slice g cs.length aJ) (.slice (I ⟨l,bg,K⟩) c.length aM) (.slice h es.length bX) a bo f L):=m.o.below ((Uq _ _).alloc (T9 _) _);refine j.o _ _ (λ_=>ba.o.Ny) ?_;clear j s E
   try simp only[UX,Ud,Um,Ul]
   refine Un.one (i:=12) (by kernel_rfl) Y (λs j=>?_);have Z:=m.o.cg.own;rw[a8.o] at Z;have dv:w.heap.size<=u.heap.size:=m.o.dh.size;refine step_append_lies _ (by rfl) _ _ 103 (by rfl) w.heap.size 139 c2 _ 2 32 ay.underlying103 cl cR c0 c1 Y (by decide) f b _ (by rfl) (Z.alloc _) ⟨u.heap.size,0,K⟩ 1 1 (n7 (⟨o,ew (bZ c a b) cs es bo cs.length⟩,.slice p cs.length fG)) (by rfl) Y (IK u _ _ _) (by intro d0 b5;simp[n7] at b5;rcases b5 with rfl|rfl<;>rfl) (by decide) (by unfold Ur;omega) (by omega) (by simp;omega) _ Y ?_;intro H C P aa bA br cn;have M:=aO.jm (n:=b+1) (cap:=C) bA br;have b2:P.ownsRow w.heap.size 139 2 (.slice (I ⟨H,0,K⟩) (b+1) C) (L++[((⟨o,ew (bZ c a b) cs es bo cs.length⟩:Bd),Vc p cs.length fG)]).length (nI (L++[((⟨o,ew (bZ c a b) cs es bo cs.length⟩:Bd),Vc p cs.length fG)])):=by
    unfold nI at aa ⊢;rw[Vj,Ve,Ub,a8.o];exact aa
   have a5:X (nT w (P.setCell ⟨w.heap.size+3,2,K⟩ (.slice (I ⟨H,0,K⟩) (b+1) C)) (.slice g cs.length aJ) (.slice (I ⟨l,bg,K⟩) c.length aM) (.slice h es.length bX) a bo (.slice (I ⟨H,0,K⟩) (b+1) C) (L++[((⟨o,ew (bZ c a b) cs es bo cs.length⟩:Bd),Vc p cs.length fG)])):=m.o.jQ M (by simpa [cU] using a7.o) b2;obtain⟨a0,c6⟩:=m.o.kept M;obtain⟨ap,ar,av,aw,az⟩:=m.o.Ty M;refine j.o _ _ (λ_=>⟨a0,ap,ar,av,aw,az⟩) ?_;clear j s Z aa bA br cn b2 M
   try simp only[UX,Ud,Um,Ul]
   have E:(λd=>d.cell? ⟨w.heap.size+3,2,K⟩=I f/\d.cell? ⟨w.heap.size,1,K⟩=I (.slice (I ⟨l,bg,K⟩) c.length aM)/\d.cell? ⟨w.heap.size,0,K⟩=I (.slice g cs.length aJ)/\d.cell? ⟨w.heap.size+1,0,K⟩=I (.int .i64 (a:Int))/\d.cell? ⟨w.heap.size+1,1,K⟩=I (.slice h es.length bX)/\d.cell? ⟨w.heap.size+1,2,K⟩=I (.bool bo)) P:=⟨a0,ap,ar,av,aw,az⟩;refine Un.pk 13 ?_
   try simp only[UX,Ud,Um,Ul]
   refine Un.on 14 λs j=>?_;go_simp;refine j.o _ _ (λD=>absurd D (by decide)) ?_;clear j s E ap ar av aw az a0 c6;refine Un.done (by kernel_rfl) ?_ _
   try simp only[UX,Ud,Um,Ul]
   clear m ba a7;generalize P.setCell ⟨w.heap.size+3,2,K⟩ (.slice (I ⟨H,0,K⟩) (b+1) C)=c9 at*;obtain⟨⟨an,ao⟩,⟨ae,al,am⟩,-⟩:=a5.o.cells
   go_wp2_with fail
   go_roundw
   case rel=>exact⟨b+1,_,_,cc.o,by rw[ci.o];go_num,by rw[U1,G.o,vu,Wq];simp[gM,cf.o],a5.o⟩
   case measure=>simp[UT];omega
  ·have b0:b=b8 c.length a:=by
    have:=λD=>N ((mz (show 0<a by omega) b (len:=c.length)).2 D);have k:=a6.o;exact Nat.le_antisymm k (Nat.le_of_not_lt this)
   obtain⟨p,fG,rfl⟩:=bz i.cg.own;generalize ck:Vc p L.length fG=f at i;obtain⟨⟨an,ao⟩,⟨ae,al,am⟩,bc,bd,be,bi⟩:=i.cells;have z:=Us wr (w.heap.size+2) 0 _ _ (.slice g cs.length aJ) i.res;have k:=Us _ (w.heap.size+2) 1 _ _ (.slice h es.length bX) z;have J:=Us _ (w.heap.size+2) 2 _ _ f k;have ch:X (ja (((wr.setCell ⟨w.heap.size+2,0,K⟩ (.slice g cs.length aJ)).setCell ⟨w.heap.size+2,1,K⟩ (.slice h es.length bX)).setCell ⟨w.heap.size+2,2,K⟩ f) w.heap.size f L):=
    ((i.cg.put i.res (by decide) (by decide) _ _).put z (by decide) (by decide) _ _).put k (by decide) (by decide) _ _
   have ca:X (aP w (((wr.setCell ⟨w.heap.size+2,0,K⟩ (.slice g cs.length aJ)).setCell ⟨w.heap.size+2,1,K⟩ (.slice h es.length bX)).setCell ⟨w.heap.size+2,2,K⟩ f)):=
    bT (bT (bT i.dh (T9 _) (by omega) _ _) (T9 _) (by omega) _ _) (T9 _) (by omega) _ _
   obtain⟨c3,c4,c5⟩:=cC (show _=I (Obj.cells #[.slice g cs.length aJ,.slice h es.length bX,f] 105 (0,0)) from J);obtain⟨dE,dO,dT⟩:=cC i.res;have dc:wr.frozen? ⟨w.heap.size+2,0,K⟩=T8:=by have:=i.res;simp[UR,this]
   have dd:wr.frozen? ⟨w.heap.size+2,1,K⟩=T8:=by have:=i.res;simp[UR,this]
   have df:wr.frozen? ⟨w.heap.size+2,2,K⟩=T8:=by have:=i.res;simp[UR,this]
   have cd:X (L.map Uy=bO c cs es bo a (b8 c.length a)):=by rw[<-b0];exact G.o
   clear z k J i a9 Q R G a6 b0;subst ck;generalize b*a=n at*;go_wp2;simp[VS,UY,Tryz.results43,go_sem,c3,c4,c5];exact⟨L,cd.o,ch.o,ca.o⟩
structure eN(w W:F)(g:Nat)(cv:U)(cs:List bK)(rv:U)(L:List (List aE×U))(bd:Int)(ev:U)(es:List Int)(bo:Bool):Prop where
 res:W.heap[w.heap.size]? =I (.cells #[.slice K 0 0,.slice K 0 0,.int .i64 0,.slice K 0 0,.bool T8] 50 (0,0))
 box:W.heap[g]? =I (.cells #[cv,rv,.int .i64 bd,ev,.bool bo] 50 (0,0))
 ah:W.ownsRow w.heap.size 63 2 cv cs.length (eI cs)
 rows:W.ownsRow w.heap.size 43 1 rv L.length (L.map VV)
 each:∀p∈L,W.ownsRow w.heap.size 59 3 p.2 p.1.length (aH p.1)
 eJ:W.ownsRow w.heap.size 3 1 ev es.length (bw es)
 dh:aP w W
 hg:w.heap.size<g
section
variable {w W W1:F}{g:Nat}{cv:U}{cs:List bK}{rv:U}{L:List (List aE×U)}{bd:Int}{ev:U}{es:List Int}{bo:Bool}{v':U}
def eN.below(h:eN w W g cv cs rv L bd ev es bo)(a:aP W W1):eN w W1 g cv cs rv L bd ev es bo:=
 ⟨(a.block _ (Uf h.res)).trans h.res,(a.block _ (Uf h.box)).trans h.box,aK h.ah a,aK h.rows a,λc b=>aK (h.each c b) a,aK h.eJ a,h.dh.trans (a.mono h.dh.size),h.hg⟩
def eN.cells(h:eN w W g cv cs rv L bd ev es bo):(W.cell? ⟨g,0,K⟩=I cv/\W.cell? ⟨g,1,K⟩=I rv/\W.cell? ⟨g,2,K⟩=I (.int .i64 bd)/\W.cell? ⟨g,3,K⟩=I ev/\W.cell? ⟨g,4,K⟩=I (.bool bo))/\∀i,W.frozen? ⟨g,i,K⟩=T8:=by
 have a:=h.box;exact⟨⟨by simp[Ut,a],by simp[Ut,a],by simp[Ut,a],by simp[Ut,a],by simp[Ut,a]⟩,λi=>by simp[UR,a]⟩
def fZ{base:Nat}{e:Ui}{a:Nat}{v:U}{n:Nat}{b:List U}{c:Array U}{t:Ui}(h:W1.ownsRow base e a v n b)(d:W1.heap[g]? =I (.cells c t (0,0)))(f:t≠e)(i:Nat)(u:U):(W1.setCell ⟨g,i,K⟩ u).ownsRow base e a v n b:=
 h.kept (aN W1 g i u) (.inr (bq h d f).symm)
def eN.QD(h:eN w W g cv cs rv L bd ev es bo)(a:aO W W1 cv v'){c:bK}(m:W1.ownsRow w.heap.size 63 2 v' (cs++[c]).length (eI (cs++[c]))):eN w (W1.setCell ⟨g,0,K⟩ v') g v' (cs++[c]) rv L bd ev es bo/\W1.cell? ⟨g,0,K⟩=I cv/\∀i,W1.frozen? ⟨g,i,K⟩=T8:=by
 have j:=(a.fP.block _ (Uf h.res) (bq h.ah h.res (by decide))).trans h.res;have b:=(a.fP.block _ (Uf h.box) (bq h.ah h.box (by decide))).trans h.box;have k:=Us W1 g 0 _ _ v' b;have d:=h.dh.trans (a.below (λg a=>(h.ah.lt g a).1) h.dh.size);have l:=h.hg;refine⟨⟨?_,k,fZ m b (by decide) _ _,fZ (bE h.rows a (dR h.rows h.ah (by decide))) b (by decide) _ _,λf e=>fZ (bE (h.each f e) a (dR (h.each f e) h.ah (by decide))) b (by decide) _ _,fZ (bE h.eJ a (dR h.eJ h.ah (by decide))) b (by decide) _ _,dj d d.size (by omega) _ _,l⟩,by simp[Ut,b],λi=>by simp[UR,b]⟩;rw[Uv _ _ _ _ (by simp;omega)];exact j
def eN.QE(h:eN w W g cv cs rv L bd ev es bo)(a:aO W W1 ev v'){c:Int}(m:W1.ownsRow w.heap.size 3 1 v' (es++[c]).length (bw (es++[c]))):eN w (W1.setCell ⟨g,3,K⟩ v') g cv cs rv L bd v' (es++[c]) bo/\W1.cell? ⟨g,3,K⟩=I ev/\∀i,W1.frozen? ⟨g,i,K⟩=T8:=by
 have j:=(a.fP.block _ (Uf h.res) (bq h.eJ h.res (by decide))).trans h.res;have b:=(a.fP.block _ (Uf h.box) (bq h.eJ h.box (by decide))).trans h.box;have k:=Us W1 g 3 _ _ v' b;have d:=h.dh.trans (a.below (λg a=>(h.eJ.lt g a).1) h.dh.size);have l:=h.hg;refine⟨⟨?_,k,fZ (bE h.ah a (dR h.ah h.eJ (by decide))) b (by decide) _ _,fZ (bE h.rows a (dR h.rows h.eJ (by decide))) b (by decide) _ _,λf e=>fZ (bE (h.each f e) a (dR (h.each f e) h.eJ (by decide))) b (by decide) _ _,fZ m b (by decide) _ _,dj d d.size (by omega) _ _,l⟩,by simp[Ut,b],λi=>by simp[UR,b]⟩;rw[Uv _ _ _ _ (by simp;omega)];exact j
def eN.So(h:eN w W g cv cs rv L bd ev es bo)(a:aO W W1 rv v'){x:List aE}{u:U}(n:W.ownsRow w.heap.size 59 3 u x.length (aH x))(m:W1.ownsRow w.heap.size 43 1 v' (L++[(x,u)]).length ((L++[(x,u)]).map VV)):eN w (W1.setCell ⟨g,1,K⟩ v') g cv cs v' (L++[(x,u)]) bd ev es bo/\W1.cell? ⟨g,1,K⟩=I rv/\∀i,W1.frozen? ⟨g,i,K⟩=T8:=by
 have j:=(a.fP.block _ (Uf h.res) (bq h.rows h.res (by decide))).trans h.res;have b:=(a.fP.block _ (Uf h.box) (bq h.rows h.box (by decide))).trans h.box;have k:=Us W1 g 1 _ _ v' b;have e:=h.dh.trans (a.below (λg a=>(h.rows.lt g a).1) h.dh.size);have l:=h.hg;refine⟨⟨?_,k,fZ (bE h.ah a (dR h.ah h.rows (by decide))) b (by decide) _ _,fZ m b (by decide) _ _,λd c=>?_,fZ (bE h.eJ a (dR h.eJ h.rows (by decide))) b (by decide) _ _,dj e e.size (by omega) _ _,l⟩,by simp[Ut,b],λi=>by simp[UR,b]⟩
 ·rw[Uv _ _ _ _ (by simp;omega)];exact j
 ·have f:W.ownsRow w.heap.size 59 3 d.2 d.1.length (aH d.1):=by
   rcases U2.1 c with c|c
   ·exact h.each d c
   ·simp at c;subst c;exact n
  exact fZ (bE f a (dR f h.rows (by decide))) b (by decide) _ _
end
end Ec
namespace Ec
open Go.RowKit Pk
def uO{w:F}{g:Nat}{C:Array U}{t:Ui}(h:w.heap[g]? =I (.cells C t (0,0))):w.rangeAt g 0 C.toList:=by
 intro b v a;rw[UU];simp only[Ut,h];simpa using a
def Bg{w:F}{g:Nat}{C:Array U}{t:Ui}(h:w.heap[g]? =I (.cells C t (0,0))):w.there g 0 C.size:=by
 intro b a;rw[UU];refine⟨?_,?_⟩
 ·simp[Ut,h,a]
 ·simp[UR,h]
theorem mA{g k:Nat}(h:k≠g):∀(vs:List U) (o:Nat) (w:F),(w.setCells g o vs).heap[k]? =w.heap[k]?
 | [],_,_=>rfl
 |v::a,o,w=>by
  rw[World.setCells,mA h a (o+1)];exact Uv _ _ _ _ (by simpa using h)
def A2{P:Ug}{fn:Func}{R:Ending->F->Prop}{a:V7}{w:F}{p:Tmp}{ty:Ui}{g:Nat}{cs:List U}{d:TypeDesc}(k:fn.results=#[.cell p ty])(c:a.defers=[])
 (i:a.tmps.getD p Vl=(bS g)) (hc:w.rangeAt g 0 cs) (l:P.underlying ty=I d) (e:d.isRow=Z) (f:(P.info? ty).map (·.size)=I cs.length) (h:R (.returned (.agg cs.toArray)) w):VS P fn R .ret a w:=by
 refine bodyPost_ret (v:=.agg cs.toArray) ?_ c h;have b:=run_loadVar_mid w g 0 ty cs d hc l e f;have j:a.tmps[p]?.getD Vl=(bS g):=by simpa using i
 simp[UY,k,j,asAddr,WK,Result.andThen,b]
end Ec
namespace Ec
open Go.RowKit Pk Pm
def rE(a b:List bK):eI (a++b)=eI a++eI b:=by simp[eI]
def AN(l:List bK)(j:Nat)(h:j<l.length):(eI l)[j*2]? =I (.string l[j].name)/\(eI l)[j*2+1]? =I (.int .i64 l[j].kind):=
 ⟨lR _ 2 (λ_=>rfl) l j h 0 _ Y,lR _ 2 (λ_=>rfl) l j h 1 _ Y⟩
def ay.Ga:((aB T5).info? 63).map (λi=>(i.zero,i.size,i.bytes))=I (I (.agg #[.string ⟨#[]⟩,.int .i64 0]),2,24):=by kernel_rfl
def ay.Mr:((aB T5).info? 43).map (λi=>(i.zero,i.size,i.bytes))=I (I aR,1,24):=by kernel_rfl
end Ec
end Go.Proofs.YtjidbonhhpkljaaGreat
