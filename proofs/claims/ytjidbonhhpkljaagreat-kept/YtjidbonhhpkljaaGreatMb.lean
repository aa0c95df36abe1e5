/- What the proof stands on, in short names. -/
import Derived.Test.YtjidbonhhpkljaaGreatMa
import Derived.Lib.AppendStr
import Derived.Lib.Strings
import Derived.Lib.Slices
import Derived.Lib.Small
import Derived.Lib.Walk
import Derived.Lib.BitFns
import Derived.Maps.OwnSet
import Derived.Maps.OwnOps
import Derived.DeepKeys4
import Derived.Lib.BufferWrite
import Derived.Lib.UnsafeStr
import Derived.Laws.MakeOwn
import Derived.WalkSpells
import Derived.Deep.CutBlock
import Derived.Deep.RegionHeld
import Derived.Lib.Bytealg
import Derived.Deep.RegionHeld3
import Derived.Deep.AppendLies
import Derived.OrdersHeld
import Derived.RegionTactic
import Derived.Outline
import Derived.Deep.MidRow
set_option linter.all false
open Array renaming getElem?_eq_none->Vl,length_toList->V9,replicate->U3
open BitVec renaming ofInt->Xb
open Bool renaming and_eq_true->Uw,false->T7,false_eq_true->UB,not_eq_true'->WO,true->Z
open Go renaming Act->V6,Addr->UJ,Obj->Xv,Oper->Vu,Program->Uf,TypeId->Uh,Value->U,World->F,bodyPost->VR,execOp->UH,getD_set_ne->XB,heap_alloc_new->V4,heap_setCell_other->Uu,heap_setCell_same->Ur,info_parts->Ve,lt_of_block->Ue,maxLen->Uq,results->UX,undef->Vk,wpList_append_fits->VH,wpList_make_own->Wb,yielded->Vj
open Go.Act renaming put->UW
open Go.Addr renaming add->Yr,add_lit->VL
open Go.Addr.mk renaming injEq->Wh
open Go.Builtin renaming append_->XX
open Go.ByteArray renaming toList_eq->XJ
open Go.Extern.BytealgCompare renaming compare->Xy
open Go.IntKind renaming bits->Yg,i64->XM,signed->XU,u64->Wl,u8->Yu,wrap_i64->WY
open Go.Lib renaming compareBytes->Vd,size_eq->X4
open Go.Maps.Keyed renaming of_law->Y3
open Go.Proofs.Tryz renaming prog->T4
open Go.Region renaming binds->Vn,ready->UZ,wanted->UF
open Go.RowKit renaming Below->XS,intOf->US,wrap64->Vb
open Go.RowKit.Below renaming heap_alloc->UN,refl->Up
open Go.Sem renaming run_bind->WJ
open Go.Value renaming bool->WN,int->VY,ownBlock->Vz,slice->Vg
open Go.Value.slice renaming injEq->VA
open Go.World renaming cell?->Us,frozen?->UQ,ownsRow_nil->Vp
open Go.World.grownBy renaming block->Wv
open List renaming all_eq_true->Uz,append_assoc->UC,cons_append->Wd,eq_nil_of_length_eq_zero->Vh,flatMap_append->Vi,flatMap_singleton->Vc,getD->Yw,getD_eq_getElem?_getD->Ui,getElem?_append_left->Vw,getElem?_append_right->Vo,getElem?_eq_getElem->Um,getElem?_eq_some_iff->UA,getElem_mem->Uj,getElem_of_mem->Vv,getElem_take->VF,length_append->Ua,length_drop->Xa,length_eq_zero_iff->We,length_map->UG,length_take->Vs,map_append->U0,map_cons->Xw,map_singleton->Wp,mem_append->U1,mem_cons->VM,mem_map->U7,mem_of_mem_take->V5,range->UK,range_succ->XI,replicate->VE,setIfInBounds_toArray->Uc,set_cons_succ->Uk,set_cons_zero->Ul,take_length->Vf,take_of_length_le->UO,take_succ_eq_append_getElem->Uo
open List.cons renaming injEq->Xj
open Nat renaming add_assoc->U5,le_refl->T8,le_trans->Uy,lt_of_lt_of_le->Ud,lt_or_ge->Vy,mod_eq_of_lt->Xu,mul_comm->Xx,mul_le_mul->Ws,mul_le_mul_left->Xi,pow_add->Xk,pow_le_pow_right->VO,pow_succ->WL,zero_add->UT,zero_le->UE
open Option renaming bind_some->XR,getD_some->V2,none->K,some->I
open Option.some renaming injEq->U8
open Prod renaming fst->Ux,snd->VU
set_option maxRecDepth 100000
set_option maxHeartbeats 8000000
namespace Go.Proofs.YtjidbonhhpkljaaGreat
namespace Ec
open Go.RowKit Pk Pm
def ai (B:List Nat)(p:Nat)(a:List Nat):Prop:=a <+:B.drop p
def mT(B:List Nat)(p:Nat):ai B p []:=List.nil_prefix
def au{B:List Nat}{p:Nat}{a b:List Nat}:ai B p (a++b)↔ai B p a/\ai B (p+a.length) b:=by
 unfold ai;constructor
 ·rintro⟨e,c⟩;refine⟨⟨b++e,by rw[<-c];simp⟩,⟨e,?_⟩⟩;rw[<-List.drop_drop,<-c];simp
 ·rintro⟨⟨e,c⟩,⟨f,d⟩⟩;refine⟨f,?_⟩;rw[<-List.drop_drop,<-c] at d;simp at d;rw[<-c,UC,d]
def eW{B:List Nat}{p x:Nat}{r:List Nat}:ai B p (x::r)↔B[p]? =I x/\ai B (p+1) r:=by
 rw[show x::r=[x]++r from rfl,au];have:ai B p [x]↔B[p]? =I x:=by
  unfold ai;rw[<-List.head?_drop];cases B.drop p with
  |nil=>simp
  |cons b a=>simp[List.cons_prefix_cons];exact eq_comm
 rw[this];rfl
def dH{B:List Nat}{p x:Nat}:ai B p [x]↔B[p]? =I x:=by
 rw[eW];simp[mT]
def gJ{B:List Nat}{p:Nat}{a:List Nat}(h:ai B p a)(b:p<=B.length):p+a.length<=B.length:=by
 have:=h.length_le;rw[Xa] at this;omega
def CQ{B a:List Nat}(h:ai B 0 a)(b:¬ 0+a.length<B.length):a=B:=by
 unfold ai at h;rw[List.drop_zero] at h;exact h.eq_of_length_le (by omega)
def eO{B a:List Nat}(h:a=B):ai B 0 a:=by
 subst h;unfold ai;exact List.prefix_refl _
def iE{B:List Nat}{p:Nat}{a b:List Nat}(c:ai B p a)(d:ai B p b)(e:a.length=b.length):a=b:=
 (List.prefix_of_prefix_length_le c d (by omega)).eq_of_length e
def qy{B:List Nat}{p f c x:Nat}(hc:B[p]? =I c)(h:128<=c)(a:ai B p (ju (f+1) x)):128<=x/\x%128+128=c/\ai B (p+1) (ju f (x/128)):=by
 by_cases b:x<128
 ·rw[fL f x b,dH,hc] at a;simp at a;omega
 ·rw[iR f x b,eW,hc] at a;simp at a;exact⟨by omega,a.1.symm,a.2⟩
def mU{B:List Nat}{p f c x:Nat}(hc:B[p]? =I c)(h:c<128):ai B p (ju (f+1) x)↔x=c:=by
 by_cases a:x<128
 ·rw[fL f x a,dH,hc];simp;exact eq_comm
 ·rw[iR f x a,eW,hc];simp;omega
structure BF(B:List Nat)(p j acc:Nat):Prop where
 lt:acc<128^j
 all:∀v,v<18446744073709551616->(ai B p (aL v)↔∃x,v=acc+128^j*x/\(x≠0\/j=0)/\ai B (p+j) (ju (10-j) x))
 len:∀x,(x≠0\/j=0)->(aL (acc+128^j*x)).length=j+(ju (10-j) x).length
def BF.zero(B:List Nat)(p:Nat):BF B p 0 0:=
 ⟨by simp,λv _=>⟨λb=>⟨v,by simp,.inr Y,b⟩,fun⟨d,a,_,c⟩=>by simp at a;subst a;exact c⟩,λd _=>by simp[aL]⟩
def BF.more{B:List Nat}{p j b c:Nat}(h:BF B p j b)(r:j<10)(hc:B[p+j]? =I c)(h1:128<=c)(n:c<256):BF B p (j+1) (b+128^j*(c-128)):=by
 have t:=h.lt;have g:10-j=(10-(j+1))+1:=by omega
 have s:∀a,c-128+128*a=128*a+(c-128):=λa=>by omega
 have f:∀a,b+128^j*(c-128)+128^(j+1)*a=b+128^j*(c-128+128*a):=λa=>by
  rw[WL,Nat.mul_add,Nat.mul_assoc];omega
 refine⟨?_,?_,?_⟩
 ·have d:128^j*(c-128)<=128^j*127:=Xi _ (by omega);rw[WL];omega
 ·intro v m;rw[h.all v m];constructor
  ·rintro⟨a,d,k,e⟩;rw[g] at e;obtain⟨o,q,l⟩:=qy hc h1 e;refine⟨a/128,?_,.inl (by omega),by rw[<-U5];exact l⟩;rw[f,d];congr 2;omega
  ·rintro⟨a,d,k,e⟩;have i:a≠0:=by rcases k with h|h;exact h;omega
   refine⟨c-128+128*a,by rw[d,f],.inl (by omega),?_⟩;rw[g,iR _ _ (by omega),eW];refine⟨by rw[hc];congr 1;omega,?_⟩;rw[show(c-128+128*a)/128=a by omega,U5];exact e
 ·intro a i;have i:a≠0:=by rcases i with h|h;exact h;omega
  rw[f,h.len _ (.inl (by omega)),g,iR _ _ (by omega),show(c-128+128*a)/128=a by omega];simp;omega
def BF.fin{B:List Nat}{p j d c:Nat}(h:BF B p j d)(i:j<10)(hc:B[p+j]? =I c)(h1:c<128)(v:Nat)(g:v<18446744073709551616):
 ai B p (aL v)↔v=d+128^j*c/\(c≠0\/j=0):=by
 rw[h.all v g];have f:10-j=(10-(j+1))+1:=by omega
 constructor
 ·rintro⟨k,a,b,e⟩;rw[f,mU hc h1] at e;subst e;exact⟨a,b⟩
 ·rintro⟨a,b⟩;exact⟨c,a,b,by rw[f,mU hc h1]⟩
def BF.OS{B:List Nat}{p j a c:Nat}(h:BF B p j a)(b:j<10)(h1:c<128)(hc:c≠0\/j=0):(aL (a+128^j*c)).length=j+1:=by
 rw[h.len c hc,show 10-j=(10-(j+1))+1 by omega,fL _ _ h1];rfl
def BF.none{B:List Nat}{p j d:Nat}(h:BF B p j d)(k:j<10)(l:¬p+j<B.length)(v:Nat)(e:v<18446744073709551616):¬ai B p (aL v):=by
 rw[h.all v e];rintro⟨f,g,i,a⟩;rw[show 10-j=(10-(j+1))+1 by omega] at a;have b:B[p+j]? =K:=List.getElem?_eq_none (by omega);by_cases c:f<128
 ·rw[fL _ _ c,dH,b] at a;simp at a
 ·rw[iR _ _ c,eW,b] at a;simp at a
def BF.T1{B:List Nat}{p a:Nat}(h:BF B p 10 a)(v:Nat)(c:v<18446744073709551616):¬ai B p (aL v):=by
 rw[h.all v c];rintro⟨f,b,d,e⟩;have:(128:Nat)^10=1180591620717411303424:=by decide
 rw[this] at b;omega
def BF.top{B:List Nat}{p j a c:Nat}(h:BF B p j a)(f:j<9\/(j=9/\c<=1))(hc:c<128):a+128^j*c<18446744073709551616:=by
 have g:=h.lt;rcases f with d|⟨rfl,d⟩
 ·have e:128^(j+1)<=128^9:=VO (by omega) (by omega);have b:(128:Nat)^9=9223372036854775808:=by decide
  rw[WL] at e;have i:128^j*c<=128^j*127:=Xi _ (by omega);omega
 ·have b:(128:Nat)^9=9223372036854775808:=by decide
  rw[b] at g ⊢;omega
def BF.over{B:List Nat}{p a c:Nat}(h:1<c):¬a+128^9*c<18446744073709551616:=by
 have b:(128:Nat)^9=9223372036854775808:=by decide
 rw[b];omega
def cA{B:List Nat}{p a b:Nat}(e:a<18446744073709551616)(n:b<18446744073709551616)(h1:ai B p (aL a))(d:ai B p (aL b)):a=b:=by
 have j:∀f a b p,a<128^f->b<128^f->ai B p (ju f a)->ai B p (ju f b)->a=b:=by
  intro f
  induction f with
  |zero=>intro a b p h1 d;simp at h1 d;omega
  |succ f i=>
   intro a b p h1 d c g;by_cases e:a<128
   ·rw[fL f a e,dH] at c;exact((mU c e).1 g).symm
   ·rw[iR f a e,eW] at c;obtain⟨k,l,h⟩:=qy c.1 (by omega) g;have m:=i (a/128) (b/128) (p+1) (by rw[WL] at h1;omega) (by rw[WL] at d;omega) c.2 h;omega
 have c:(128:Nat)^10=1180591620717411303424:=by decide
 exact j 10 a b p (by omega) (by omega) h1 d
def nP (l:List Int):Prop:=∀a∈l,a=0\/a=1
def lJ(x:Int)(r:List Int):0<dG x (x::r):=by simp[dG]
def GD:∀(f:Nat) (l:List Int),l.length<=f->iD (f+1) l=iD f l:=by
 intro f
 induction f with
 |zero=>intro l c;cases l with
  |nil=>rfl
  |cons a b=>simp at c
 |succ f e=>
  intro l c;cases l with
  |nil=>rfl
  |cons a b=>
   have g:=lJ a b;have d:=e ((a::b).drop (dG a (a::b))) (by rw[Xa];simp at c ⊢;omega);rw[iD,iD];simp only[d]
def Ns(f:Nat)(l:List Int)(h:l.length<=f):iD f l=cy l:=by
 induction f with
 |zero=>
  have:l=[]:=We.1 (by omega);subst this;rfl
 |succ f b=>
  by_cases a:l.length<=f
  ·rw[GD f l a,b a]
  ·unfold cy;rw[show l.length=f+1 by omega]
def Kn:cy []=[]:=rfl
def zh(x:Int)(r:List Int):cy (x::r)=aL (dG x (x::r))++([byteOf x]++cy ((x::r).drop (dG x (x::r)))):=by
 have a:=lJ x r;rw[<-Ns r.length ((x::r).drop (dG x (x::r))) (by rw[Xa];simp;omega)];rfl
def GC(b:Int)(n:Nat)(m:List Int)(h:m.head? ≠I b):dG b (VE n b++m)=n:=by
 induction n with
 |zero=>
  cases m with
  |nil=>rfl
  |cons e d=>simp[dG];intro a;subst a;simp at h
 |succ n c=>rw[List.replicate_succ,Wd,dG,if_pos Y,c]
def Kq(b:Int)(n:Nat)(m:List Int)(e:n≠0)(h:m.head? ≠I b):cy (VE n b++m)=aL n++([byteOf b]++cy m):=by
 obtain⟨a,rfl⟩:∃a,n=a+1:=⟨n-1,by omega⟩;have c:VE (a+1) b++m=b::(VE a b++m):=by rw[List.replicate_succ];rfl
 have d:=GC b (a+1) m h;rw[c] at d ⊢;rw[zh,d,<-c];simp
def Cy(x:Int)(l:List Int):l=VE (dG x l) x++l.drop (dG x l):=by
 induction l with
 |nil=>rfl
 |cons d c b=>
  simp only[dG]
  split
  ·rename_i a;subst a;rw[List.replicate_succ,Wd,List.drop_succ_cons,<-b]
  ·simp
def Cx(x:Int)(l:List Int):(l.drop (dG x l)).head? ≠I x:=by
 intro a;rw[List.head?_drop] at a;obtain⟨b,c⟩:=UA.1 a;exact zg x l b c
structure Lc(B:List Nat)(p cn:Nat)(l:List Int)(R:List Nat):Prop where
 le:l.length<=cn
 bits:nP l
 st:ai B p R
 ext:∀m:List Int,(m=[]\/l=[]\/m.head? ≠l.getLast?)->cy (l++m)=R++cy m
 IM:∀L:List Int,L.length=cn->nP L->ai B p (cy L)->∃m,L=l++m/\(m=[]\/l=[]\/m.head? ≠l.getLast?)
def Lc.zero(B:List Nat)(p cn:Nat):Lc B p cn [] []:=
 ⟨UE _,λc b=>by simp at b,mT _ _,λm _=>rfl,λa _ _ _=>⟨a,rfl,.inr (.inl Y)⟩⟩
def kx{b:Int}(h:b=0\/b=1):byteOf b=b.toNat:=by rcases h with rfl|rfl<;>rfl
def Lc.next{B:List Nat}{p cn:Nat}{l:List Int}{R:List Nat}(h:Lc B p cn l R)(k:l.length<cn)(L:List Int)(hL:L.length=cn)(g:nP L)(e:ai B p (cy L)):
 ∃(n:Nat) (b:Int) (m:List Int),1<=n/\n<=cn-l.length/\(b=0\/b=1)/\(l=[]\/l.getLast? ≠I b)/\ai B (p+R.length) (aL n)/\ai B (p+R.length+(aL n).length) [b.toNat]/\
  L=(l++VE n b)++m/\m.head? ≠I b:=by
 obtain⟨m,rfl,i⟩:=h.IM L hL g e;rw[Ua] at hL;cases m with
 |nil=>simp at hL;omega
 |cons a c=>
  rw[h.ext _ i,au] at e;have f:=e.2;rw[zh,au,au] at f;have j:a=0\/a=1:=g a (by simp);refine⟨dG a (a::c),a,(a::c).drop (dG a (a::c)),lJ a c,?_,j,?_,f.1,?_,?_,Cx a (a::c)⟩
  ·have:=Bh a (a::c);omega
  ·rcases i with d|d|d
   ·simp at d
   ·exact .inl d
   ·right;simpa [eq_comm] using d
  ·rw[<-kx j];exact f.2.1
  ·rw[UC,<-Cy]
def Lc.more{B:List Nat}{p cn:Nat}{l:List Int}{R:List Nat}(h:Lc B p cn l R){n:Nat}{b:Int}(c:n≠0)(N:n<=cn-l.length)(D:n<18446744073709551616)(e:b=0\/b=1)(z:l=[]\/l.getLast? ≠I b)
 (j:ai B (p+R.length) (aL n)) (a:ai B (p+R.length+(aL n).length) [b.toNat]) (M:cn<=100) (A:l.length<cn):Lc B p cn (l++VE n b) (R++(aL n++[b.toNat])):=by
 have O:VE n b≠[]:=by simp;exact c
 have f:(l++VE n b).getLast?= I b:=by
  rw[List.getLast?_append,List.getLast?_replicate,if_neg c];rfl
 have y:∀m,(VE n b++m).head?= I b:=by
  intro m;obtain⟨i,rfl⟩:∃i,n=i+1:=⟨n-1,by omega⟩;rw[List.replicate_succ];rfl
 refine⟨by simp;omega,?_,?_,?_,?_⟩
 ·intro H F;rcases U1.1 F with h1|h1
  ·exact h.bits H h1
  ·rw[(List.mem_replicate.1 h1).2];exact e
 ·rw[au,au];exact⟨h.st,j,a⟩
 ·intro m g;rw[f] at g;have C:m.head? ≠I b:=by
   rcases g with h1|h1|h1
   ·subst h1;simp
   ·simp at h1;omega
   ·exact h1
  rw[UC,h.ext _ (by rw[y];rcases z with h1|h1;exact .inr (.inl h1);exact .inr (.inr (λq=>h1 q.symm))),Kq b n m c C,kx e];simp
 ·intro k w x E;obtain⟨G,o,m,h1,J,K,L,t,d,u,v⟩:=h.next A k w x E;have r:G=n:=cA (by omega) D t j;subst r;have s:o=b:=by
   rw[dH] at d a;rw[d] at a;simp at a;omega
  subst s;exact⟨m,u,.inr (.inr (by rw[f];exact v))⟩
def Lc.done{B:List Nat}{p cn:Nat}{l:List Int}{R:List Nat}(h:Lc B p cn l R)(e:¬l.length<cn):
 l.length=cn/\cy l=R/\(∀L:List Int,L.length=cn->nP L->ai B p (cy L)->L=l):=by
 have c:l.length=cn:=by have:=h.le;omega
 refine⟨c,?_,?_⟩
 ·have:=h.ext [] (.inl Y);simpa [Kn] using this
 ·intro L a b d;obtain⟨m,rfl,_⟩:=h.IM L a b d;rw[Ua] at a;have:m=[]:=We.1 (by omega);rw[this];simp
def sL(s:ByteArray)(p:Nat)(h:p<s.size):(bytesOf s)[p]? =I s[p].toNat:=by
 rw[Um (by rw[aj];exact h),vv s p h]
def QU(c:Nat)(h:c<256):bits .and .u8 (c:Int) 127=((c%128:Nat):Int):=by
 have:=bits_mask .u8 8 (by decide) wraps_u8 7 (by decide) (c:Int) (by omega) (by omega);rw[show(127:Int)=2^7-1 from by decide,this];omega
def vm(n:Int)(a:0<=n)(b:n<2^64):Wl.wrap n=n:=by rw[wrap_u64];omega
def dz(s:ByteArray)(p q:Nat):bytesOf (s.extract p q)=((bytesOf s).drop p).take (q-p):=by
 unfold bytesOf;rw[ByteArray.data_extract];simp only[Array.toList_extract,List.extract_eq_take_drop,List.map_take,List.map_drop]
def Bt(r p c:Nat)(s:ByteArray)(w:F)(b:s.size<=Uq)(hc:c<=2147483648)(l:¬p+c<=s.size)(m:p<=s.size)(h:w.heap[r]? =I (cg s p)):
 bH 128 #[.pointer (I ⟨r,0,K⟩),.int .i64 (c:Int)] w λe w'=>e= .panicked (eD p)/\∃n,w'=w.drewN n:=by
 obtain⟨d,f,g,i⟩:=kJ h;unfold Uq at b;have a:=af h;have k:decide ((c:Int)<0)=T7:=by simp
 have j:decide ((s.size:Int)-(p:Int)<(c:Int))=Z:=by simp;omega
 go_enter ay.func128,Tryz.ntmps128
 go_wp2_with fail
 go_quiet (fail)
 go_wp2_with (go_at_call 97;refine(b8 r p s _ (by exact a.o)).mono ?_;rintro e w' ⟨rfl,rfl⟩)
 exact⟨rfl,rfl,nq,rfl⟩
def E1(r p c:Nat)(s:ByteArray)(w:F)(a:s.size<=Uq)(k:p+c<=s.size)(h:w.heap[r]? =I (cg s p)):
 bH 128 #[.pointer (I ⟨r,0,K⟩),.int .i64 (c:Int)] w λe w'=>e= .returned (.string (s.extract p (p+c)))/\∃n,w'=(w.setCell ⟨r,1,K⟩ (.int .i64 ((p+c:Nat):Int))).drewN n:=by
 obtain⟨b,d,f,g⟩:=kJ h;unfold Uq at a;have j:decide ((c:Int)<0)=T7:=by simp
 have i:decide ((s.size:Int)-(p:Int)<(c:Int))=T7:=by simp;omega
 have l:(0:Int)<=(p:Int)+(c:Int):=by omega
 have o:(p:Int)+(c:Int)<=(s.size:Int):=by omega
 have q:(p:Int)<=(p:Int)+(c:Int):=by omega
 have t:((p:Int)+(c:Int)).toNat=p+c:=by omega
 go_enter ay.func128,Tryz.ntmps128
 go_wp2_with fail
 go_quiet (fail)
 generalize nq=m at*
 go_wp2_with fail
 go_quiet (fail)
 go_wp2;go_ret;exact⟨rfl,m+nq,DL _ _ _ _ _⟩
def BI(r p:Nat)(s:ByteArray)(w:F)(k:s.size<=Uq)(l:p<=s.size)(h:w.heap[r]? =I (cg s p)):
 bH 152 #[.pointer (I ⟨r,0,K⟩)] w λe w'=>Kp r w w'/\((∃b:Int,e= .returned (.int .i64 b)/\(b=0\/b=1)/\ai (bytesOf s) p [b.toNat]/\w'.heap[r]? =I (cg s (p+1))/\p+1<=s.size)\/
  (∃q,e= .panicked (eD q)/\∀b:Int,(b=0\/b=1)->¬ai (bytesOf s) p [b.toNat])):=by
 have c:=af h;by_cases g:p<s.size
 ·have m:=sL s p g;have j:X (∀w,w.heap[r]? =I (cg s p)->bH 129 #[.pointer (I ⟨r,0,K⟩)] w λe w'=>e= .returned (.int .u8 (s[p].toNat:Int))/\∃a,w'=(w.setCell ⟨r,1,K⟩ (.int .i64 ((p+1:Nat):Int))).drewN a):=
   λw u=>xf r p s w k g u
  have x:s[p].toNat<256:=s[p].toNat_lt;have i:=af m;generalize s[p].toNat=d at*;by_cases v:d<=1
  ·have o:decide ((1:Int)<(d:Int))=T7:=by simp;omega
   go_enter ay.func152,Tryz.ntmps152
   go_wp2_with (go_at_call 129;refine(j.o _ c.o).mono ?_;rintro e w' ⟨rfl,a,rfl⟩)
   go_ret;refine⟨(Kp.refl _ _).set _ _ a,.inl ⟨(d:Int),by first|rfl|(congr 2;omega),by omega,?_,lV c.o a,by omega⟩⟩;rw[dH,i.o];simp
  ·have o:decide ((1:Int)<(d:Int))=Z:=by simp;omega
   have f:X (∀b:Int,(b=0\/b=1)->¬ai (bytesOf s) p [b.toNat]):=by
    intro b n;rw[dH,i.o];simp;omega
   go_enter ay.func152,Tryz.ntmps152
   go_wp2_with first|(go_at_call 129;refine(j.o _ c.o).mono ?_;rintro e w' ⟨rfl,a,rfl⟩)|(go_at_call 97;refine(b8 r (p+1) s _ (by exact lV c.o _)).mono ?_;rintro e w' ⟨rfl,rfl⟩)
   exact⟨rfl,(Kp.refl _ _).set _ _ a,.inr ⟨_,rfl,f.o⟩⟩
 ·have f:X (∀b:Int,(b=0\/b=1)->¬ai (bytesOf s) p [b.toNat]):=by
   intro b n t;have:=gJ t (by rw[aj];exact l);rw[aj] at this;simp at this;omega
  go_enter ay.func152,Tryz.ntmps152
  go_wp2_with (go_at_call 129;refine(sM r p s _ k g l c.o).mono ?_;rintro e w' ⟨rfl,a,rfl⟩)
  exact⟨rfl,(Kp.refl _ _).drewN a,.inr ⟨_,rfl,f.o⟩⟩
def Rv(j:Nat):(128:Nat)^j=2^(7*j):=by rw[Nat.pow_mul]
def PA(b c j:Nat)(h:j<=9)(f:b<128^j)(hc:c<128):∃d:Nat,bits .or .u64 (b:Int) (Wl.wrap ((c:Int)*2^(7*j)))=(d:Int)/\d<18446744073709551616/\((j<=8\/c<=1)->d=b+128^j*c):=by
 have o:(128:Nat)^9=9223372036854775808:=by decide
 have l:128^j<=128^9:=VO (by omega) h;have g:(c:Int)*2^(7*j)=((2^(7*j)*c:Nat):Int):=by push_cast;rw[Int.mul_comm]
 have m:Wl.wrap ((c:Int)*2^(7*j))=((2^(7*j)*c%18446744073709551616:Nat):Int):=by rw[g,wrap_u64];omega
 have k:=(bits_nat .u64 64 (by decide) vm b (2^(7*j)*c%18446744073709551616) (by omega) (by omega)).2;rw[m];refine⟨_,k,?_,?_⟩
 ·exact Nat.or_lt_two_pow (n:=64) (by omega) (by omega)
 ·intro a;have i:2^(7*j)*c<18446744073709551616:=by
   rw[<-Rv];rcases a with a|a
   ·have e:128^j<=128^8:=VO (by omega) a;have n:(128:Nat)^8=72057594037927936:=by decide
    have:=Ws e (show c<=127 by omega);omega
   ·have:=Ws l a;omega
  rw[Xu i,Nat.or_comm,<-Nat.two_pow_add_eq_or_of_lt (by rw[<-Rv];exact f) c,Nat.add_comm,Rv]
def Bv(r p:Nat)(s:ByteArray)(w:F)(N:s.size<=Uq)(ae:p<=s.size)(h:w.heap[r]? =I (cg s p)):
 bH 130 #[.pointer (I ⟨r,0,K⟩)] w λe w'=>Kp r w w'/\((∃v:Nat,e= .returned (.int .u64 (v:Int))/\v<18446744073709551616/\ai (bytesOf s) p (aL v)/\w'.heap[r]? =I (cg s (p+(aL v).length)))\/
  (∃q,e= .panicked (eD q)/\∀v,v<18446744073709551616->¬ai (bytesOf s) p (aL v))):=by
 have z:=af h;clear h;go_enter ay.func130,Tryz.ntmps130
 go_wp2_with fail
 go_loopw [3,4] (λc sh wr=>∃(a o d:Nat),a<=10/\sh= .int .i64 ((7*a:Nat):Int)/\c= .int .u64 (d:Int)/\(a<=9->d=o)/\BF (bytesOf s) p a o/\p+a<=s.size/\wr.heap[r]? =I (cg s (p+a))/\Kp r w wr) (λ_ sh _=>71-(US sh).toNat)
 case atStart=>exact⟨0,0,0,by omega,rfl,rfl,λ_=>rfl,BF.zero _ _,by omega,z.o,Kp.refl _ _⟩
 case round=>
  clear z;obtain⟨a,o,d,ad,rfl,rfl,G,E,V,D,C⟩:=hrel;have i:=af E;have g:=af D;have j:=af C;clear E D C;by_cases M:a<=9
  ·obtain rfl:=G M;clear G;by_cases m:p+a<s.size
   ·have n:X (∀w,w.heap[r]? =I (cg s (p+a))->bH 129 #[.pointer (I ⟨r,0,K⟩)] w λe w'=>e= .returned (.int .u8 (s[p+a].toNat:Int))/\∃c,w'=(w.setCell ⟨r,1,K⟩ (.int .i64 ((p+a+1:Nat):Int))).drewN c):=
     λw Y=>xf r (p+a) s w N m Y
    have J:s[p+a].toNat<256:=s[p+a].toNat_lt;have x:=af (sL s (p+a) m);generalize s[p+a].toNat=b at*;have ab:bits .and .u8 (b:Int) 127=(b:Int)%128:=by rw[QU b J];omega
    obtain⟨l,t,aa,H⟩:=PA d (b%128) a M i.o.lt (by omega);rw[show((b%128:Nat):Int)=(b:Int)%128 from by omega] at t;have B:=af H;clear H;by_cases T:128<=b
    ·go_wp2_with (go_at_call 129;refine(n.o _ g.o).mono ?_;rintro e w' ⟨rfl,c,rfl⟩)
     refine⟨⟨a+1,d+128^a*(b-128),l,by omega,by go_num,by first|rfl|rw[t],?_,i.o.more (by omega) x.o T J,by omega,lV g.o c,j.o.set _ _ c⟩,by simp[US];omega⟩;intro Z;rw[B.o (.inl (by omega)),show b%128=b-128 by omega]
    ·have U:(b:Int)%128=(b:Int):=by omega
     rw[U] at t;have L:=λv f=>i.o.fin (v:=v) (by omega) x.o (by omega) f;have y:=af L;clear L;by_cases u:(b≠0\/a=0)/\(b<=1\/a<=8)
     ·have A:X (d+128^a*b<18446744073709551616):=i.o.top (by omega) (by omega);have O:X _:=i.o.OS (c:=b) (by omega) (by omega) u.1;have P:X (l=d+128^a*b):=by rw[show X (l=d+128^a*b)↔l=d+128^a*b from⟨λh=>h.o,λh=>h⟩,B.o (by omega),Xu (by omega)]
      go_wp2_with (go_at_call 129;refine(n.o _ g.o).mono ?_;rintro e w' ⟨rfl,c,rfl⟩)
      all_goals
       go_ret;exact⟨j.o.set _ _ c,.inl ⟨d+128^a*b,by rw[<-P.o];rfl,A.o,(y.o _ A.o).2 ⟨rfl,u.1⟩,by rw[O.o,<-U5];exact lV g.o c⟩⟩
     ·have k:X (∀v,v<18446744073709551616->¬ai (bytesOf s) p (aL v)):=by
       intro v f W;obtain⟨Q,R⟩:=(y.o v f).1 W;by_cases S:b<=1\/a<=8
       ·exact u ⟨R,S⟩
       ·obtain rfl:a=9:=by omega
        rw[Q] at f;exact BF.over (B:=bytesOf s) (p:=p) (by omega) f
      go_wp2_with first|(go_at_call 129;refine(n.o _ g.o).mono ?_;rintro e w' ⟨rfl,c,rfl⟩)|(go_at_call 97;refine(b8 r (p+a+1) s _ (by exact lV g.o _)).mono ?_;rintro e w' ⟨rfl,rfl⟩)
      all_goals exact⟨rfl,j.o.set _ _ c,.inr ⟨_,rfl,k.o⟩⟩
   ·have k:X (∀v,v<18446744073709551616->¬ai (bytesOf s) p (aL v)):=λv f=>i.o.none (by omega) (by rw[aj];exact m) v f
    go_wp2_with (go_at_call 129;refine(sM r (p+a) s _ N m V g.o).mono ?_;rintro e w' ⟨rfl,c,rfl⟩)
    exact⟨rfl,j.o.drewN c,.inr ⟨_,rfl,k.o⟩⟩
  ·obtain rfl:a=10:=by omega
   have k:X (∀v,v<18446744073709551616->¬ai (bytesOf s) p (aL v)):=λv f=>i.o.T1 v f
   go_wp2_with (go_at_call 97;refine(b8 r (p+10) s _ g.o).mono ?_;rintro e w' ⟨rfl,rfl⟩)
   exact⟨rfl,j.o,.inr ⟨_,rfl,k.o⟩⟩
def jK(r p:Nat)(s:ByteArray)(w:F)(y:s.size<=Uq)(j:p<=s.size)(h:w.heap[r]? =I (cg s p)):
 bH 95 #[.pointer (I ⟨r,0,K⟩)] w λe w'=>Kp r w w'/\((∃v:Nat,e= .returned (.int .i64 (v:Int))/\v<2147483648/\ai (bytesOf s) p (aL v)/\p+(aL v).length<=s.size/\w'.heap[r]? =I (cg s (p+(aL v).length)))\/
  (∃q,e= .panicked (eD q)/\∀v,v<2147483648->¬ai (bytesOf s) p (aL v))):=by
 have n:=af h;go_enter ay.func95,Tryz.ntmps95
 go_wp2_with fail
 refine(Bv r p s _ y j n.o).mono ?_;rintro e C ⟨i,⟨v,rfl,k,c,t⟩|⟨q,rfl,z⟩⟩
 ·have b:=af i;have g:=af c;have f:=af t;have l:X (p+(aL v).length<=s.size):=by have:=gJ c (by rw[aj];exact j);rwa [aj] at this
  have o:=af k;by_cases x:v<2147483648
  ·have m:=af x;have u:decide ((2147483648:Int)<=(v:Int))=T7:=by rw[decide_eq_false_iff_not];omega
   have B:Vb (v:Int)=(v:Int):=by unfold Vb;omega
   go_wp2;go_ret;exact⟨b.o,.inl ⟨v,by first|rfl|go_num,m.o,g.o,l.o,f.o⟩⟩
  ·have d:X (∀a,a<2147483648->¬ai (bytesOf s) p (aL a)):=by
    intro a A c;have:=cA (by omega) o.o c g.o;omega
   have u:decide ((2147483648:Int)<=(v:Int))=Z:=by rw[decide_eq_true_iff];omega
   go_wp2_with (go_at_call 97;refine(b8 r (p+(aL v).length) s _ f.o).mono ?_;rintro e w' ⟨rfl,rfl⟩)
   exact⟨rfl,b.o,.inr ⟨_,rfl,d.o⟩⟩
 ·have b:=af i;have d:X (∀a,a<2147483648->¬ai (bytesOf s) p (aL a)):=λv k=>z v (by omega);go_wp2;exact⟨rfl,b.o,.inr ⟨q,rfl,d.o⟩⟩
def aj(s:ByteArray):(bytesOf s).length=s.size:=by
 unfold bytesOf;simp
def j9(s:ByteArray):Lib.strCells s=aG (bytesOf s):=by
 unfold Lib.strCells aG bytesOf;simp
def jA(s:ByteArray):∀x∈bytesOf s,x<256:=by
 intro x a;unfold bytesOf at a;obtain⟨b,_,rfl⟩:=U7.1 a;exact b.toNat_lt
def ru{P:Uf}(w:F)(base:Nat)(t u ty e:Uh)(i:TypeInfo)(l:P.underlying t=I (.slice e))(m:P.underlying u=I .string)(g:P.info? e=I i)(y:i.zero=I (.int .u8 0))
 (k:i.size=1) (x:i.bytes=1) (v:U) (n:Nat) (f:List U) (h:w.ownsRow base e 1 v n f) (s:ByteArray)
 (r:n+s.size<=Uq) (A:n+s.size<=140737488355328) (H:base<=w.heap.size):
 ∃o w',(XX #[t,u] ty #[v,.string s]).run P w= .ok o w'/\w'.ownsRow base e 1 o (n+s.size) (f++Lib.strCells s)/\aR w w' v o:=by
 obtain⟨o,w',j,N,L,M⟩:=Lib.run_append_own_string (P:=P) w base t u ty e i l m g y k x v n f h s r A H;refine⟨o,w',j,N,L,?_⟩;unfold Uq at r;rcases h.2 with⟨rfl,rfl⟩|⟨d,b,p,rfl,S,C,W,V,B,X⟩
 ·by_cases Q:s.size=0
  ·rw[M.2 ⟨rfl,Q⟩];exact λ_ E=>.inl E
  ·have G:=Lib.run_append_own_string (P:=P) w w.heap.size t u ty e i l m g y k x _ 0 f ⟨h.1,.inl ⟨rfl,rfl⟩⟩ s r A (T8 _);obtain⟨Z,z,a,O,-,-⟩:=G;rw[j] at a;cases a;exact λq c=>.inr (O.lt q c).1
 ·by_cases D:n+s.size<=b
  ·by_cases T:0<b
   ·obtain⟨z,a,-,-⟩:∃z,(XX #[t,u] ty #[.slice (I ⟨d,0,K⟩) n b,.string s]).run P w= .ok (.slice (I ⟨d,0,K⟩) (n+s.size) b) z/\True/\True:=by
     have J:p.size=b:=by simpa using B
     exact⟨_,Lib.run_append_room_string (P:=P) w t u ty e i l m g k d n b p C s D (by omega),trivial,trivial⟩
    rw[j] at a;cases a;exact λq c=>.inl c
   ·have J:p.size=b:=by simpa using B
    have a:=Lib.run_append_room_string (P:=P) w t u ty e i l m g k d n b p C s D (by omega);rw[j] at a;cases a;exact λq c=>.inl c
  ·have R:f.length=n:=by simpa using h.1
   have a:=Lib.run_append_grow_string (P:=P) w t u ty e i (.int .u8 0) l m g y ⟨d,0,K⟩ n b f (by rw[k];simpa using R) (h.cells (g:=d) Y) s (by omega) (by omega) (by rw[x];exact growslice_fits (by omega) (by omega));rw[j] at a;cases a;intro q c;simp[Vz] at c;exact .inr (by omega)
def eP{P:Uf}(w:F){ops:Array Vu}{rest:List Vu}{o:Vu}{a:V6}{Q:Exit->V6->F->Prop}(p:o.guard=K)(sl x:Operand)(t u:Uh)
 (r:o.op= .call {callee:=.builtin .append,args:= #[sl,x],argTypes:= #[t,u]})
 (base:Nat) (e:Uh) (i:TypeInfo) (C:P.underlying t=I (.slice e)) (D:P.underlying u=I .string) (q:P.info? e=I i) (G:i.zero=I (.int .u8 0))
 (B:i.size=1) (l:i.bytes=1) (v:U) (n:Nat) (c:List U) (A:a.eval sl=v) (y:w.ownsRow base e 1 v n c) (s:ByteArray) (E:a.eval x= .string s)
 (g:n+s.size<=Uq) (m:n+s.size<=140737488355328) (k:base<=w.heap.size)
 (h:∀b w',w'.ownsRow base e 1 b (n+s.size) (c++Lib.strCells s)->aR w w' v b->wpList P ops Q rest (a.put o.dst b) w'):wpList P ops Q (o::rest) a w:=by
 refine wpList_plain p λH j=>?_;obtain⟨b,w',z,d,f⟩:=ru (P:=P) w base t u o.type e i C D q G B l v n c y s g m k;unfold Oper.wp UH;simp only[r,resolve,invoke,builtin,WJ,Sem.run_pure,Result.andThen_ok,List.map_toArray,Xw,List.map_nil,A,E,z];exact j _ _ (h b w' d f)
def bf (k:Int)(v:aE):List Nat:=if k=1 then aL (zz v.n) else if k=2 then[byteOf v.n] else aL v.s.size++bytesOf v.s
def gR(k:Int)(v:aE)(h:v.s.size<=32):(bf k v).length<=42:=by
 have a:=cm 10 (zz v.n);have b:=cm 10 v.s.size;unfold bf
 split
 ·unfold aL;omega
 ·split
  ·simp
  ·rw[Ua,aj];unfold aL;omega
structure pq(v:aE):Prop where
 lo: -9223372036854775808<=v.n
 hi:v.n<=9223372036854775807
 sz:v.s.size<=32
def aR.box{w a:F}{v v1:U}{o:Xv}(h:aR (w.alloc o) a v v1):aR w a v v1:=((aR.refl w v).alloc o).trans h
def ua{w a:F}{o:Xv}(h:XS (w.alloc o).heap.size (w.alloc o) a):aP w a:=
 ((Up _ _).alloc (T8 _) o).trans (h.mono (by simp))
def LB{w d:F}{u u1 a b c:U}{t:Uh}(e:u.ownBlock≠I w.heap.size)(h:aR (w.alloc (.cells #[a,b,c] t)) d u u1):aM d w.heap.size 2 c:=
 h.fO.cell (a:=⟨w.heap.size,2,K⟩) (v:=c) (by simp) (λh=>e h.symm)
def iI(u:U)(pre:List Nat)(v:aE)(k:Int)(base:Nat)(w:F)(A:k=1\/k=2\/k=3)(D:pq v)(R:pre.length<=4000000)(P:base<=w.heap.size)
 (f:w.ownsRow base 5 1 u pre.length (aG pre)):
 bH 122 #[u,.agg (gZ v),.int .i64 k] w λe w'=>∃j,e= .returned j/\w'.ownsRow base 5 1 j (pre++bf k v).length (aG (pre++bf k v))/\aR w w' u j:=by
 obtain⟨r,n,o,p,q⟩:=Ve ay.rG;obtain⟨l,m,O⟩:=D;rcases A with rfl|rfl|rfl
 ·rw[show bf 1 v=aL (zz v.n) from by simp[bf]];have t:=DI v.n l m;have g:X (∀a,bH 121 #[u,.int .u64 (zz v.n)] (w.alloc a) λe w'=>∃b,e= .returned b/\w'.ownsRow base 5 1 b (pre++aL (zz v.n)).length (aG (pre++aL (zz v.n)))/\aR (w.alloc a) w' u b):=λa=>
   nU u pre (zz v.n) base (w.alloc a) (BA _ l m) (by omega) (by simp;omega) (f.alloc a)
  go_enter ay.func122,Tryz.ntmps122
  go_wp2_with first
   |(go_at_call 140;refine(t _).mono ?_;rintro e s ⟨rfl,rfl⟩)
   |(go_at_call 121;refine(g.o _).mono ?_;rintro e s ⟨J,rfl,i,d⟩)
  go_ret;exact⟨_,rfl,i,d.box⟩
 ·rw[show bf 2 v=[byteOf v.n] from by simp[bf]];have E:Yu.wrap v.n=v.n%256:=by simp[IntKind.wrap,Yg,XU]
  rw[mA] at E;generalize byteOf v.n=N at*;go_enter ay.func122,Tryz.ntmps122
  go_wp2_with (at_builtin;refine aT _ Y _ _ 133 Y base 5 r (.int .u8 0) 1 1 ay.underlying133 n o p q Y (by decide) _ pre.length _ Y ((f.alloc _).alloc _) ⟨w.heap.size+1,0,K⟩ 1 1 [.int .u8 (N:Int)] Y (by decide) Y (by simpa using gS (w.alloc _) _ _) (jm _) (by unfold Uq;omega) (by omega) (by simp;omega) ?_;intro L M c h)
  go_ret;have z:=aR.box (aR.append h);rw[eR] at c;exact⟨_,rfl,by simpa using c,z⟩
 ·rw[show bf 3 v=aL v.s.size++bytesOf v.s from by simp[bf],<-UC];have T:=cm 10 v.s.size;have C:u.ownBlock≠I w.heap.size:=λx=>by have:=(f.lt _ x).2;omega
  have g:X (∀a,bH 84 #[u,.int .i64 (v.s.size:Int)] (w.alloc a) λe w'=>∃b,e= .returned b/\w'.ownsRow base 5 1 b (pre++aL v.s.size).length (aG (pre++aL v.s.size))/\aR (w.alloc a) w' u b):=λa=>
   cP u pre v.s.size base (w.alloc a) (by omega) (by omega) (by simp;omega) (f.alloc a)
  have S:(pre++aL v.s.size).length<=4000010:=by rw[Ua];unfold aL;omega
  generalize pre++aL v.s.size=H at*;have y:=aj v.s;have B:=j9 v.s;generalize bytesOf v.s=V at*;go_enter ay.func122,Tryz.ntmps122
  go_wp2_with first
   |(go_at_call 84;refine(g.o _).mono ?_;rintro e s ⟨J,rfl,i,d⟩;have Q:=LB C d;have G:=d.fO.size)
   |(at_builtin;refine eP _ Y _ _ 133 9 Y base 5 r ay.underlying133 ay.underlying9 n o p q _ H.length _ Y i v.s Y ?_ ?_ ?_ ?_;(unfold Uq;omega);omega;(simp at G;omega);intro L M c h)
  go_ret;rw[B] at c;refine⟨_,rfl,?_,(d.box).trans h⟩;rw[<-y] at c;simpa [aG] using c
def wid (n:Nat):Nat:=if n<=1 then 0 else if n<=2 then 1 else if n<=4 then 2 else if n<=8 then 3 else if n<=16 then 4 else if n<=32 then 5 else if n<=64 then 6 else 7
def vj(n:Nat):wid n<=7:=by
 unfold wid
 repeat' split
 all_goals omega
def IP:∀n,n<101->∀t,t<8->(2^t<n↔t<wid n):=by decide +kernel
def tL(n:Nat)(h:n<=100)(j:Nat)(c:j<n):j<2^wid n:=by
 have a:=vj n;have b:=(IP n (by omega) (wid n) (by omega));omega
def N9:∀x,x<128->Lib.bitLen x=wid (x+1):=by decide +kernel
def SJ(n:Nat)(p:n<=100)(w:F):bH 110 #[.int .i64 n] w λe w'=>e= .returned (.int .i64 (wid n))/\w'=w:=by
 have q:=vj n;have i:X (∀a,a<=7->(pw a<(n:Int)↔a<wid n)):=λa l=>by
  have:=IP n (by omega) a (by omega);unfold pw;omega
 generalize wid n=b at*;go_enter ay.func110,Tryz.ntmps110
 go_wp2_with fail
 go_loopw [3] (λc wr=>∃a:Nat,a<=b/\c= .int .i64 a/\wr=w) (λc _=>8-(US c).toNat)
 case atStart=>exact⟨0,UE _,rfl,rfl⟩
 case round=>
  obtain⟨a,l,rfl,rfl⟩:=hrel;have f:X (∀w,bH 135 #[.int .i64 a] w λe w'=>e= .returned (.int .i64 (pw a))/\w'=w):=λw=>J3 a (by omega) w;have d:=i.o a (by omega);generalize pw a=m at*;by_cases g:a<b
  ·have k:=d.2 g
   go_wp2_with (go_at_call 135;refine(f.o _).mono ?_;rintro e o ⟨rfl,rfl⟩)
   go_roundw
   case rel=>exact⟨a+1,by omega,by go_num,trivial⟩
   case measure=>simp[US];omega
  ·have k:¬m<(n:Int):=λj=>g (d.1 j);have h:X (a=b):=by show a=b;omega
   go_wp2_with (go_at_call 135;refine(f.o _).mono ?_;rintro e o ⟨rfl,rfl⟩)
   go_ret;exact⟨by rw[<-h.o];rfl,rfl⟩
def NT:∀y:Nat,y<128->∀h:y<Lib.len8tab.size,Lib.len8tab[y].toNat=Lib.bitLen y:=by decide +kernel
def JK(x:Int)(w:F)(a:0<=x)(h1:x<=127):bH 175 #[.int .u64 x] w λe w'=>e= .returned (.int .i64 (Lib.bitLen x.toNat))/\w'=w:=by
 go_enter ay.func175,Tryz.ntmps175;go_wp2
 all_goals (go_ret;refine⟨congrArg Ending.returned (congrArg (VY XM) ?_),rfl⟩)
 all_goals
  have b:=NT x.toNat (by omega) (by omega);have c:=Lib.bitLen_le8' x a (by omega);rw[b];unfold Vb;omega
def Pb(x:Int)(w:F)(a:0<=x)(h1:x<=127):bH 167 #[.int .u64 x] w λe w'=>e= .returned (.int .i64 (Lib.bitLen x.toNat))/\w'=w:=by
 go_enter ay.func167,Tryz.ntmps167
 go_wp2_with (go_at_call 175;refine(JK x _ a h1).mono ?_;rintro e w' ⟨rfl,rfl⟩)
 go_ret;exact⟨rfl,rfl⟩
def wm(n:Nat)(d:n<=100)(w:F):bH 158 #[.int .i64 n] w λe w'=>e= .returned (.int .i64 (wid n))/\w'=w:=by
 by_cases c:n<2
 ·rw[show wid n=0 from by unfold wid;rw[if_pos (by omega)]];go_enter ay.func158,Tryz.ntmps158;go_wp2;go_ret;exact⟨rfl,rfl⟩
 ·have b:X (∀w,bH 167 #[.int .u64 ((n:Int)-1)] w λe w'=>e= .returned (.int .i64 (wid n))/\w'=w):=λw=>by
   have a:=Pb ((n:Int)-1) w (by omega) (by omega);rw[N9 _ (by omega),show((n:Int)-1).toNat+1=n by omega] at a;exact a
  go_enter ay.func158,Tryz.ntmps158
  go_wp2_with (go_at_call 167;refine(b.o _).mono ?_;rintro e w' ⟨rfl,rfl⟩)
  go_ret;exact⟨rfl,rfl⟩
def Apart(u v:U):Prop:=u.ownBlock=K\/u.ownBlock≠v.ownBlock
def Apart.symm{u v:U}(h:Apart u v):Apart v u:=by
 rcases h with h|h
 ·cases a:v.ownBlock with
  |none=>exact .inl a
  |some c=>exact .inr (by rw[h,a];simp)
 ·exact .inr (λb=>h b.symm)
def bF{w w':F}{base e a n:Nat}{u v f:U}{b:List U}(h:w.ownsRow base e a u n b)(d:aR w w' v f)(c:Apart u v):w'.ownsRow base e a u n b:=
 h.kept d.fO c
def Apart.jP{w w':F}{base e j n:Nat}{u v f:U}{k:List U}(g:Apart u v)(h:w.ownsRow base e j u n k)(i:aR w w' v f):Apart u f:=by
 rcases g with a|a
 ·exact .inl a
 ·cases b:u.ownBlock with
  |none=>exact .inl b
  |some c=>
   right
   intro e;rw[b] at e a;have l:=(h.lt c b).2;rcases i.at_ c e.symm with d|d
   ·exact a d.symm
   ·omega
def Apart.new{w:F}{base B e g n:Nat}{a i f:Nat}{u v:U}{j k:List U}{w':F}(h:w.ownsRow base e g u n j)(d:w'.ownsRow w.heap.size a i v f k):Apart u v:=by
 cases b:u.ownBlock with
 |none=>exact .inl b
 |some c=>
  right
  intro a;rw[b] at a;have l:=(h.lt c b).2;have m:=(d.lt c a.symm).1;omega
def rY (w:F)(v:U)(l:List aE):Prop:=∃a b d c,v= .slice a l.length c/\sJ w a b d l
def rY.below{w w':F}{v:U}{l:List aE}(h:rY w v l)(d:aP w w'):rY w' v l:=by
 obtain⟨a,b,e,c,rfl,h⟩:=h;exact⟨a,b,e,c,rfl,h.below d⟩
def E6(x:aE)(r:List aE):aH (x::r)=[.bool x.null,.int .i64 x.n,.string x.s]++aH r:=by simp[aH]
def js(a b:List aE):aH (a++b)=aH a++aH b:=by simp[aH]
def mW(x:aE):aH [x]=[.bool x.null,.int .i64 x.n,.string x.s]:=by simp[aH]
def me(l:List aE):∀(j:Nat) (h:j<l.length),(aH l)[j*3]? =I (.bool l[j].null)/\(aH l)[j*3+1]? =I (.int .i64 l[j].n)/\(aH l)[j*3+2]? =I (.string l[j].s):=by
 induction l with
 |nil=>intro j h;simp at h
 |cons d c b=>
  intro j h;rw[E6];cases j with
  |zero=>simp
  |succ j=>
   have:=b j (by simpa using h);have a:(j+1)*3=j*3+3:=by omega
   rw[a,Vo (by simp),Vo (by simp),Vo (by simp)];simpa [show j*3+3+1-3=j*3+1 by omega,show j*3+3+2-3=j*3+2 by omega] using this
def rY.bO{w:F}{base:Nat}{v:U}{l:List aE}(h:w.ownsRow base 59 3 v l.length (aH l)):rY w v l:=by
 rcases h.2 with⟨rfl,f⟩|⟨c,e,g,rfl,i,m,n,j,k,o⟩
 ·have:l=[]:=Vh f;subst this;exact⟨K,0,0,0,rfl,⟨λh=>by simp at h,λh=>by simp at h,λa h=>by simp at h,λa h=>by simp at h,λa h=>by simp at h⟩⟩
 ·have d:=h.cells (g:=c) Y;refine⟨I ⟨c,0,K⟩,c,0,e,rfl,⟨λ_=>rfl,λ_=>(h.lt c Y).2,?_,?_,?_⟩⟩
  ·intro a b;have:=d _ _ (me l a b).1;simpa [VL] using this
  ·intro a b;have:=d _ _ (me l a b).2.1;simpa [VL] using this
  ·intro a b;have:=d _ _ (me l a b).2.2;simpa [VL] using this
def idx:List aE->aE->Nat
 | [],_=>0
 |y::b,a=>if Fi y a then 0 else idx b a+1
def Re(l:List aE)(x:aE):idx l x<=l.length:=by
 induction l with
 |nil=>simp[idx]
 |cons c b a=>simp only[idx];split<;>simp<;>omega
def F8(l:List aE)(x:aE):∀j,(h:j<l.length)->j<idx l x->Fi l[j] x=T7:=by
 induction l with
 |nil=>intro j h;simp at h
 |cons e d c=>
  intro j h a;simp only[idx] at a
  split at a
  ·omega
  ·rename_i b;cases j with
   |zero=>simpa using b
   |succ j=>exact c j (by simpa using h) (by omega)
def F7(l:List aE)(x:aE)(h:idx l x<l.length):l[idx l x]=x:=by
 induction l with
 |nil=>simp at h
 |cons c d b=>
  simp only[idx] at h ⊢;by_cases a:Fi c x=Z
  ·simp only[a,if_true];exact nB.1 a
  ·simp only[a] at h ⊢;exact b (by simpa using h)
def aX (k:Int)(l:List aE):List Nat:=l.flatMap (bf k)
def Cj(k:Int)(l:List aE)(i:Nat)(h:i<l.length):aX k (l.take (i+1))=aX k (l.take i)++bf k l[i]:=by
 rw[Uo h];unfold aX;rw[Vi,Vc]
def gb(k:Int)(l:List aE)(h:∀x∈l,pq x):(aX k l).length<=42*l.length:=by
 induction l with
 |nil=>simp[aX]
 |cons x f c=>
  have a:=c (λd b=>h d (by simp[b]));have e:=gR k x (h x (by simp)).sz;unfold aX at a ⊢;simp at a ⊢;omega
def lH(u r:U)(pre:List Nat)(l:List aE)(k:Int)(base:Nat)(w:F)(L:k=1\/k=2\/k=3)(N:∀x∈l,pq x)(aa:l.length<=100)(Z:pre.length<=50000)(W:base<=w.heap.size)
 (d:w.ownsRow base 5 1 u pre.length (aG pre)) (q:∀w' b,aR w w' u b->rY w' r l):
 bH 146 #[u,r,.int .i64 k] w λe w'=>∃b,e= .returned b/\w'.ownsRow base 5 1 b (pre++aX k l).length (aG (pre++aX k l))/\aR w w' u b:=by
 obtain⟨D,o,s,T,rfl,f⟩:=q w u (aR.refl _ _);have v:X (∀w' b,aR w w' u b->∃o s,sJ w' D o s l):=λw' b I=>by
  obtain⟨R,E,Q,V,H,G⟩:=q w' b I;cases H;exact⟨E,Q,G⟩
 have n:=af N;go_enter ay.func146,Tryz.ntmps146
 go_wp2_with fail
 go_loopw [0,11] (λp i wr=>∃(a:Nat),a<=l.length/\i= .int .i64 a/\wr.ownsRow base 5 1 p (pre++aX k (l.take a)).length (aG (pre++aX k (l.take a)))/\aR w wr u p) (λ_ i _=>l.length-(US i).toNat)
 case atStart=>exact⟨0,UE _,rfl,by simpa [aX] using d,aR.refl _ _⟩
 case round=>
  obtain⟨a,Y,rfl,d,h⟩:=hrel;have m:=af h;have ae:w.heap.size<=wr.heap.size:=h.fO.size;by_cases c:a<l.length
  ·obtain⟨S,al,f⟩:=v.o wr u0 h;obtain rfl:=f.addr (by omega);have am:=f.c0 a c;have ao:=f.c1 a c;have ap:=f.c2 a c;have A:=Cj k l a c;have ab:(aX k (l.take a)).length<=4200:=by
    have:=gb k (l.take a) (λx P=>n.o x (V5 P));rw[Vs] at this;omega
   have C:=af (n.o _ (Uj c));have B:=af A;generalize l[a]=x at*;have ad:(pre++aX k (l.take a)).length<=60000:=by rw[Ua];omega
   generalize M:pre++aX k (l.take a)=j at*;have z:=af M;have t:X (∀g,bH 122 #[u0,.agg (gZ x),.int .i64 k] (wr.alloc g) λe w'=>∃b,e= .returned b/\w'.ownsRow base 5 1 b (j++bf k x).length (aG (j++bf k x))/\aR (wr.alloc g) w' u0 b):=λg=>
    iI u0 j x k base (wr.alloc g) L C.o (by omega) (by simp;omega) (d.alloc g)
   go_wp2_with (go_at_call 122;refine(t.o _).mono ?_;rintro e ar ⟨aq,rfl,O,J⟩)
   go_roundw
   case rel=>
    refine⟨a+1,by omega,by go_num,?_,m.o.trans J.box⟩;rw[B.o,<-UC,z.o];exact O
   case measure=>simp[US];omega
  ·have K:l.take a=l:=UO (by omega);rw[K] at d;have y:=af d;go_wp2;go_ret;exact⟨_,rfl,y.o,m.o⟩
def bS:Int->List aE->List Nat
 |_,[]=>[]
 |a,v::b=>aL (zz (Vb (v.n-a)))++bS v.n b
def eU:Int->List aE->Int
 |a,[]=>a
 |_,v::b=>eU v.n b
def vw(a:Int)(l:List aE)(x:aE):bS a (l++[x])=bS a l++aL (zz (Vb (x.n-eU a l))):=by
 induction l generalizing a with
 |nil=>simp[bS,eU]
 |cons d c b=>simp[bS,eU,b]
def yC(a:Int)(l:List aE)(x:aE):eU a (l++[x])=x.n:=by
 induction l generalizing a with
 |nil=>simp[eU]
 |cons d c b=>simp[eU,b]
def nI(a:Int)(l:List aE):(bS a l).length<=10*l.length:=by
 induction l generalizing a with
 |nil=>simp[bS]
 |cons b f c=>
  have d:=c b.n;have e:=cm 10 (zz (Vb (b.n-a)));simp only[bS,Ua,List.length_cons];unfold aL;omega
def MG(l:List aE)(h:∀x∈l,pq x)(a:Int)(c: -9223372036854775808<=a)(h1:a<=9223372036854775807): -9223372036854775808<=eU a l/\eU a l<=9223372036854775807:=by
 induction l generalizing a with
 |nil=>exact⟨c,h1⟩
 |cons b f e=>exact e (λx d=>h x (by simp[d])) b.n (h b (by simp)).lo (h b (by simp)).hi
def gK(x:Int): -9223372036854775808<=Vb x/\Vb x<=9223372036854775807:=by unfold Vb;omega
def Jb{w d:F}{u u1 a b c:U}{t:Uh}(e:u.ownBlock≠I w.heap.size)(h:aR (w.alloc (.cells #[a,b,c] t)) d u u1):aM d w.heap.size 1 b:=
 h.fO.cell (a:=⟨w.heap.size,1,K⟩) (v:=b) (by simp) (λh=>e h.symm)
def rS:Prop:=∀(e f:U) (pre:List Nat) (a:List aE) (base:Nat) (c:F) (n:∀h∈a,pq h) (l:a.length<=100) (k:pre.length<=50000) (i:base<=c.heap.size) (m:c.ownsRow base 5 1 e pre.length (aG pre)) (j:∀d b,aR c d e b->rY d f a),
 bH 143 #[e,f] c λg d=>∃b,g= .returned b/\d.ownsRow base 5 1 b (pre++bS 0 a).length (aG (pre++bS 0 a))/\aR c d e b
def wH:rS:=by
 intro o av pre b base k N ao al ab g v;obtain⟨D,r,w,Z,rfl,i⟩:=v k o (aR.refl _ _);have y:X (∀d c,aR k d o c->∃r w,sJ d D r w b):=λd c J=>by
  obtain⟨V,E,T,aa,H,G⟩:=v d c J;cases H;exact⟨E,T,G⟩
 have q:=af N;go_enter ay.func143,Tryz.ntmps143
 go_wp2_with fail
 go_loopw [0,5,10] (λs S m wr=>∃(a:Nat),a<=b.length/\m= .int .i64 a/\S= .int .i64 (eU 0 (b.take a))/\wr.ownsRow base 5 1 s (pre++bS 0 (b.take a)).length (aG (pre++bS 0 (b.take a)))/\aR k wr o s) (λ_ _ m _=>b.length-(US m).toNat)
 case atStart=>exact⟨0,UE _,rfl,rfl,by simpa [bS] using g,aR.refl _ _⟩
 case round=>
  obtain⟨a,ad,rfl,rfl,g,l⟩:=hrel;have p:=af l;have ar:k.heap.size<=wr.heap.size:=l.fO.size;by_cases f:a<b.length
  ·obtain⟨W,aw,i⟩:=y.o wr u0 l;obtain rfl:=i.addr (by omega);have az:=i.c0 a f;have a0:=i.c1 a f;have a1:=i.c2 a f;have ap:(bS 0 (b.take a)).length<=1000:=by
    have:=nI 0 (b.take a);rw[Vs] at this;omega
   have am:=(MG (b.take a) (λe R=>q.o e (V5 R)) 0 (by omega) (by omega));have U:=af (q.o _ (Uj f));have C:X (bS 0 (b.take (a+1))=bS 0 (b.take a)++aL (zz (Vb (b[a].n-eU 0 (b.take a))))):=by
    show _=_;rw[Uo f,vw]
   have z:X (eU 0 (b.take (a+1))=b[a].n):=by
    show _=_;rw[Uo f,yC]
   generalize b[a]=e at*;generalize eU 0 (b.take a)=h at*;have aq:(pre++bS 0 (b.take a)).length<=60000:=by rw[Ua];omega
   generalize L:pre++bS 0 (b.take a)=n at*;have B:=af L;have M:u0.ownBlock≠I wr.heap.size:=λF=>by have:=(g.lt _ F).2;omega
   obtain⟨O,Q⟩:=gK (e.n-h);have x:X (∀j,bH 122 #[u0,.agg #[.bool T7,.int .i64 (Vb (e.n-h)),.string ⟨#[]⟩],.int .i64 1] (wr.alloc j) λt d=>∃c,t= .returned c/\d.ownsRow base 5 1 c (n++aL (zz (Vb (e.n-h)))).length (aG (n++aL (zz (Vb (e.n-h)))))/\aR (wr.alloc j) d u0 c):=λj=>
    iI u0 n ⟨T7,Vb (e.n-h),⟨#[]⟩⟩ 1 base (wr.alloc j) (.inl Y) ⟨O,Q,(by decide:(⟨#[]⟩:ByteArray).size<=32)⟩ (by omega) (by simp;omega) (g.alloc j)
   go_wp2_with (go_at_call 122;refine(x.o _).mono ?_;rintro t a3 ⟨a2,rfl,P,u⟩;have ae:=Jb M u)
   go_roundw
   case rel=>
    refine⟨a+1,by omega,by go_num,by rw[z.o],?_,p.o.trans u.box⟩;rw[C.o,<-UC,B.o];exact P
   case measure=>simp[US];omega
  ·have K:b.take a=b:=UO (by omega);rw[K] at g;have A:=af g;go_wp2;go_ret;exact⟨_,rfl,A.o,p.o⟩
def p7(x:Int):∀u∈[VY .i64 x],u.oneCell'=Z:=by
 intro u a;simp at a;subst a;rfl
def Fz(p:U)(l:List aE)(w:F)(P:l.length<=100)(H:rY w p l):
 bH 145 #[p] w λe w'=>∃q,e= .returned q/\w'.ownsRow w.heap.size 3 1 q l.length (bz (l.map aE.n))/\aP w w':=by
 obtain⟨L,M,Q,N,rfl,b⟩:=H;obtain⟨o,i,k,m,n⟩:=Ve ay.vD;have s:=af b;go_enter ay.func145,Tryz.ntmps145
 go_wp2_with (at_make;refine Wb _ Y _ _ 22 Y w.heap.size 3 o (.int .i64 0) 1 ay.underlying22 i k m .i64 .i64 _ l.length Y Y Y (by rw[n];omega) (by unfold Uq;omega) (T8 _) ?_;intro I E B)
 have x:aP w I:=(Up _ _).grown B (T8 _) (by simp)
 go_loopw [3,11] (λu g wr=>∃(a:Nat),a<=l.length/\g= .int .i64 a/\wr.ownsRow w.heap.size 3 1 u a (bz ((l.take a).map aE.n))/\aP w wr) (λ_ g _=>l.length-(US g).toNat)
 case atStart=>exact⟨0,UE _,rfl,E,x⟩
 case round=>
  obtain⟨a,O,rfl,c,f⟩:=hrel;have h:=af f;have G:w.heap.size<=wr.heap.size:=f.size;by_cases d:a<l.length
  ·have b:=s.o.below f;obtain rfl:=b.addr (by omega);have R:=b.c0 a d;have S:=b.c1 a d;have T:=b.c2 a d;have t:X ((l.take (a+1)).map aE.n=(l.take a).map aE.n++[l[a].n]):=by
    show _=_;rw[Uo d,U0];rfl
   generalize l[a]=J at*
   go_wp2_with (at_builtin;refine aT _ Y _ _ 22 Y w.heap.size 3 o (.int .i64 0) 1 8 ay.underlying22 i k m n Y (by decide) _ a _ Y ((c.alloc _).alloc _) ⟨wr.heap.size+1,0,K⟩ 1 1 [.int .i64 J.n] Y (by decide) Y (by simpa using gS (wr.alloc _) _ _) (p7 _) (by unfold Uq;omega) (by omega) (by simp;omega) ?_;intro V W j A)
   go_roundw
   case rel=>
    have z:=aR.box (aR.append A);rw[eS] at j;refine⟨a+1,by omega,by go_num,by rw[t.o];exact j,h.o.trans (z.below (λv y=>(c.lt v y).1) G)⟩
   case measure=>simp[US];omega
  ·have C:l.take a=l:=UO (by omega);have D:a=l.length:=by omega
   rw[C] at c;have r:X (wr.ownsRow w.heap.size 3 1 u3 l.length (bz (l.map aE.n))):=by rw[D] at c;exact c
   go_wp2;go_ret;exact⟨_,rfl,r.o,h.o⟩
def rA (w:F)(v:U)(a:List Int):Prop:=∃d b e f,v= .slice d a.length f/\(0<a.length->d=I ⟨b,e,K⟩)/\(0<a.length->b<w.heap.size)/\∀c,c<a.length->aM w b (e+c) (.int .i64 (a.getD c 0))
def rA.bO{w:F}{base:Nat}{v:U}{a:List Int}(h:w.ownsRow base 3 1 v a.length (bz a)):rA w v a:=by
 rcases h.2 with⟨rfl,f⟩|⟨b,e,i,rfl,j,m,n,k,l,o⟩
 ·have:a=[]:=Vh f;subst this;exact⟨K,0,0,0,rfl,λh=>by simp at h,λh=>by simp at h,λd h=>by simp at h⟩
 ·have g:=h.cells (g:=b) Y;refine⟨I ⟨b,0,K⟩,b,0,e,rfl,λ_=>rfl,λ_=>(h.lt b Y).2,?_⟩;intro d c;have:=g _ _ (F6 a d c);rw[fh c];simpa [VL] using this
def zY(u aw:U)(pre l:List Nat)(d base:Nat)(w:F)(O:d<=16)(a7:l.length<=100)(a8:∀x∈l,x<2^d)(b1:pre.length<=60000)(bx:base<=w.heap.size)
 (bb:w.ownsRow base 5 1 u pre.length (aG pre)) (L:∀w' C,aR w w' u C->rA w' aw (l.map fun(n:Nat)=>(n:Int))):
 bH 157 #[u,aw,.int .i64 d] w λe w'=>∃(v:U) (a:List Nat),a.length=(l.length*d+7)/8/\(∀x∈a,x<256)/\V a=N d l/\
  e= .returned v/\w'.ownsRow base 5 1 v (pre++a).length (aG (pre++a))/\aR w w' u v:=by
 obtain⟨a0,H,Q,bt,am,-,-,-⟩:=L w u (aR.refl _ _);rw[UG] at am;subst am;have az:X (∀w' C,aR w w' u C->∃H Q,(0<l.length->a0=I ⟨H,Q,K⟩)/\∀z,(D:z<l.length)->aM w' H (Q+z) (.int .i64 ((l[z]:Nat):Int))):=λw' C a5=>by
  obtain⟨br,a1,bl,bu,ab,o,bv,a2⟩:=L w' C a5;rw[UG] at ab;cases ab;refine⟨a1,bl,by simpa using o,λz al=>?_⟩;rw[a2 z (by simpa using al),fh (by simpa using al)];simp
 clear L;obtain⟨av,ae,ap,aq,ar⟩:=Ve ay.rG;have b0:=Ws a7 O;go_enter ay.func157,Tryz.ntmps157
 go_wp2_with fail
 go_loopw [0,7,8,13] (λq D A P wr=>∃(c b f:Nat) (a:List Nat),c<=l.length/\P= .int .i64 c/\D= .int .i64 b/\A= .int .i64 f/\f<8/\b<2^f/\8*a.length+f=c*d/\(∀x∈a,x<256)/\V a+256^a.length*b=N d (l.take c)/\
  wr.ownsRow base 5 1 q (pre++a).length (aG (pre++a))/\aR w wr u q) (λ_ _ _ P _=>l.length-(US P).toNat)
 case atStart=>exact⟨0,0,0,[],UE _,rfl,rfl,rfl,by omega,by simp,by simp,by simp,by simp[V,N],by simpa using bb,aR.refl _ _⟩
 case round=>
  obtain⟨c,b,f,a,bA,rfl,rfl,rfl,b4,i,s,j,r,k,g⟩:=hrel;have h:=af s;have m:=af r;clear r s;by_cases M:c<l.length
  ·obtain⟨bs,b5,ao,aa⟩:=az.o _ _ g;obtain rfl:=ao (by omega);have a4:=aa c M;clear ao aa;have bj:=a8 _ (Uj M);have bi:(l[c]:Nat)<65536:=by have o:2^d<=2^16:=VO (by omega) O;omega
   have bB:(c+1)*d<=100*16:=Ws (by omega) O;have S:=af (QN a b _ f d c l M Y h.o m.o);have Z:=af (OZ _ _ _ _ h.o);have W:=af (Fu b _ f d i bj);have ba:=MZ b l[c] f (by omega) bi i;clear h m;generalize l[c]=x at*;generalize b+2^f*x=o at*
   go_wp2_with fail
   clear ba
   go_loopw [0,7,8] (λq D A wr=>∃(b E:Nat) (a:List Nat),D= .int .i64 b/\A= .int .i64 E/\E<24/\b<2^E/\8*a.length+E=(c+1)*d/\(∀x∈a,x<256)/\V a+256^a.length*b=N d (l.take (c+1))/\
    wr.ownsRow base 5 1 q (pre++a).length (aG (pre++a))/\aR w wr u q) (λ_ _ A _=>(US A).toNat)
   case atStart=>exact⟨o,f+d,a,rfl,by go_num,by omega,W.o,Z.o,j,S.o,k,g⟩
   case round=>
    clear k g j W Z S i a4;obtain⟨b,B,a,rfl,rfl,b3,i,s,j,r,k,g⟩:=hrel;have h:=af s;have m:=af r;have a9:a.length<=200:=by omega
    have ad:b<16777216:=by have o:2^B<=2^24:=VO (by omega) (by omega);omega
    clear r s;have p:=af g;have be:w.heap.size<=wr.heap.size:=g.fO.size;have bc:(pre++a).length<=60200:=by rw[Ua];omega
    clear g;by_cases a3:8<=B
    ·generalize y:pre++a=R at*;have G:=af y;clear y
     go_wp2_with (at_builtin;refine aT _ Y _ _ 133 Y base 5 av (.int .u8 0) 1 1 ay.underlying133 ae ap aq ar Y (by decide) _ R.length _ Y (k.alloc _) ⟨wr.heap.size,0,K⟩ 1 1 [.int .u8 ((b:Int)%256)] Y (by decide) Y (gS _ _ _) (jm _) (by unfold Uq;omega) (by omega) (by simp;omega) ?_;intro bm bo t J)
     rw[show(b:Int)%256=((b%256:Nat):Int) from by omega,eR] at t
     go_roundw
     case rel=>exact⟨b/256,B-8,a++[b%256],by go_num,by go_num,by omega,FV b B a3 i,by have:=h.o;simp;omega,IB a _ j (by omega),QR a b _ m.o,by rw[<-UC,G.o];simpa using t,p.o.trans (aR.append J)⟩
     case measure=>simp[US];omega
    ·go_wp2_with fail
     go_roundw
     case rel=>exact⟨c+1,b,B,a,by omega,by go_num,rfl,rfl,by omega,i,h.o,j,m.o,k,p.o⟩
     case measure=>simp[US];omega
  ·have a6:c=l.length:=by omega
   subst a6;have T:X (V a+256^a.length*b=N d l):=by have:=m.o;rwa [Vf] at this
   have a9:a.length<=200:=by have:=h.o;omega
   have ad:b<256:=by have o:2^f<=2^8:=VO (by omega) (by omega);omega
   have p:=af g;have be:w.heap.size<=wr.heap.size:=g.fO.size;have bc:(pre++a).length<=60200:=by rw[Ua];omega
   clear g;by_cases b2:0<f
   ·generalize y:pre++a=R at*;have G:=af y;clear y
    go_wp2_with (at_builtin;refine aT _ Y _ _ 133 Y base 5 av (.int .u8 0) 1 1 ay.underlying133 ae ap aq ar Y (by decide) _ R.length _ Y (k.alloc _) ⟨wr.heap.size,0,K⟩ 1 1 [.int .u8 (b:Int)] Y (by decide) Y (gS _ _ _) (jm _) (by unfold Uq;omega) (by omega) (by simp;omega) ?_;intro bm bo t J)
    rw[eR] at t;go_ret;exact⟨_,a++[b],by have:=h.o;simp;omega,IB a _ j ad,by rw[Di,<-T.o];simp[V],rfl,by rw[<-UC,G.o];simpa using t,p.o.trans (aR.append J)⟩
   ·have bd:f=0:=by omega
    subst bd;go_wp2;go_ret;exact⟨_,a,by have:=h.o;omega,j,by have:=T.o;simp at i;subst i;simpa using this,rfl,k,p.o⟩
def Sr:laidOutB (aB T4)=Z:=by kernel_rfl
def SG:(59:Uh)<(aB T4).types.size:=of_decide_eq_true (by kernel_rfl)
def TW:(aB T4).keyTypeAt 2 59=Z:=by kernel_rfl
def Gb:Maps.Keyed (aB T4) 59:=Y3 (deep_law_laid Sr (m:=2) (by omega) SG TW (by rw[ay.underlying59]))
def LK:(aB T4).cellsOf 59=3:=by kernel_rfl
def OA:(aB T4).cellsOf 4=1:=by kernel_rfl
def OB:(aB T4).cellsOf 3=1:=by kernel_rfl
def OC:(aB T4).cellsOf 9=1:=by kernel_rfl
def KC(n:Nat)(h:59<n):∃m,n=m+1:=⟨n-1,by omega⟩
def SI:∃m,(aB T4).types.size=m+1:=KC _ SG
def My:(aB T4).keyType 59=Z:=by kernel_rfl
def kl (x:aE):Lit:=.string (keyBytes [.bool x.null,.int .i64 x.n,.string x.s.data.toList])
def wf_i64(a:Int)(b: -9223372036854775808<=a)(h1:a<=9223372036854775807):(Lit.int .i64 a).wf=Z:=by
 simp[Lit.wf,IntKind.min,IntKind.max,XU,Yg];omega
def B7(x:aE)(h:pq x):keyOf (aB T4) 59 (.agg (gZ x))=I (kl x):=by
 obtain⟨m,b⟩:=SI;have d:=wf_i64 x.n h.lo h.hi;have c:x.s.size<=Uq:=by have:=h.sz;unfold Uq;omega
 have a:(Value.agg (gZ x)).formed (aB T4) 59=Z:=by simp[Value.formed,ay.underlying59,LK]
 unfold keyOf;simp only[ay.underlying59,My,a,Bool.and_self,if_true,b];unfold Program.keyLits;simp[ay.underlying59,LK,OA,OB,OC,Value.cells,Program.keyLits,ay.underlying4,ay.underlying3,ay.underlying9,d,c,kl]
def MA{x y:aE}(b:pq x)(c:pq y)(h:kl x=kl y):x=y:=by
 have a:=Gb.inj (B7 x b) (by rw[h];exact B7 y c);cases x;cases y;simp at a;simp[a]
def MB(x:aE):WideAt.IsKeyLit (kl x):=trivial
def ins (d:List aE)(v:aE):List aE:=if idx d v<d.length then d else d++[v]
def rF(d:List aE)(x:aE)(r:List aE)(h:idx d x<d.length):idx (d++r) x=idx d x:=by
 induction d with
 |nil=>simp at h
 |cons c e b=>
  simp only[idx,Wd] at h ⊢;by_cases a:Fi c x=Z
  ·simp[a]
  ·simp only[a] at h ⊢;have:=b (by simpa using h);simp[this]
def iz(d:List aE)(x:aE)(h:¬idx d x<d.length)(v:aE):idx (d++[v]) x=if Fi v x then d.length else d.length+1:=by
 induction d with
 |nil=>simp[idx]
 |cons c e b=>
  simp only[idx,Wd] at h ⊢;by_cases a:Fi c x=Z
  ·simp[a] at h
  ·simp only[a] at h ⊢;have:=b (by simpa using h);rw[if_neg (by simp),this]
   split<;>simp
def xp(d:List aE)(v:aE):idx (ins d v) v=idx d v/\idx (ins d v) v<(ins d v).length/\(¬idx d v<d.length->idx d v=d.length):=by
 have c:=Re d v;unfold ins;by_cases a:idx d v<d.length
 ·simp only[a,if_true];exact⟨trivial,trivial,λa=>absurd trivial a⟩
 ·have b:Fi v v=Z:=nB.2 Y;have:=iz d v a v;rw[b] at this;simp only[a,if_false];simp at this;rw[this];refine⟨by omega,by simp,λ_=>by omega⟩
def sO (s:List aE×List Nat)(v:aE):List aE×List Nat:=(ins s.1 v,s.2++[idx (ins s.1 v) v])
def dfold(l:List aE):List aE×List Nat:=l.foldl sO ([],[])
def dfold_succ(l:List aE)(k:Nat)(h:k<l.length):dfold (l.take (k+1))=sO (dfold (l.take k)) l[k]:=by
 unfold dfold;rw[Uo h,List.foldl_append];rfl
def Ga(d:List aE)(v:aE):(ins d v).length<=d.length+1/\d.length<=(ins d v).length:=by
 unfold ins;split<;>simp
def O1(d:List aE)(v x:aE)(h:x∈ins d v):x∈d\/x=v:=by
 unfold ins at h
 split at h
 ·exact .inl h
 ·rcases U1.1 h with h|h
  ·exact .inl h
  ·exact .inr (by simpa using h)
def pQ(l:List aE):∀k,k<=l.length->(dfold (l.take k)).1.length<=k/\(dfold (l.take k)).2.length=k/\(∀p∈(dfold (l.take k)).2,p<(dfold (l.take k)).1.length)/\(∀x∈(dfold (l.take k)).1,x∈l):=by
 intro k
 induction k with
 |zero=>intro _;simp[dfold]
 |succ k h=>
  intro b;obtain⟨i,c,d,e⟩:=h (by omega);rw[dfold_succ l k (by omega)];have j:=Ga (dfold (l.take k)).1 l[k];have g:=xp (dfold (l.take k)).1 l[k];unfold sO;refine⟨by simp only;omega,by simp[c],?_,?_⟩
  ·intro p a;simp only at a ⊢;rcases U1.1 a with a|a
   ·have:=d p a;omega
   ·simp at a;rw[a];exact g.2.1
  ·intro x f;rcases O1 _ _ _ f with b|b
   ·exact e x b
   ·rw[b];exact Uj _
structure Knows(D:DataW Unit)(d:List aE):Prop where
 map:Maps.IsMap D
 has:∀x,pq x->Maps.has D (kl x)=decide (idx d x<d.length)
 at_:∀x,pq x->idx d x<d.length->D.atKey (kl x) (.lit (.int .i64 0))= .lit (.int .i64 (idx d x:Int))
def Knows.empty:Knows (.map []) []:=⟨Maps.isMap_empty,λb _=>by simp[Maps.has_eq],λb _ a=>by simp at a⟩
def Knows.put{D:DataW Unit}{d:List aE}(h:Knows D d)(v:aE)(k:pq v)(j:¬idx d v<d.length):Knows (D.put (kl v) (.lit (.int .i64 (d.length:Int)))) (d++[v]):=by
 have l:Fi v v=Z:=nB.2 Y;refine⟨h.map.put _ _,?_,?_⟩
 ·intro a e;by_cases b:a=v
  ·subst b;rw[Maps.has_put_same h.map (MB a)];have:=iz d a j a;rw[l] at this;simp at this;simp[this]
  ·rw[Maps.has_put_other (λf=>b (MA e k f)),h.has a e];by_cases c:idx d a<d.length
   ·rw[rF d a [v] c];simp;omega
   ·rw[iz d a c v];have:Fi v a=T7:=by
     rw[Bool.eq_false_iff];intro g;exact b (nB.1 g).symm
    rw[this];simp;omega
 ·intro a e c;by_cases b:a=v
  ·subst b;rw[Maps.atKey_put_same h.map (MB a)];have:=iz d a j a;rw[l] at this;simp at this;rw[this]
  ·rw[Maps.atKey_put_other (λf=>b (MA e k f))];by_cases i:idx d a<d.length
   ·rw[rF d a [v] i];exact h.at_ a e i
   ·exfalso
    rw[iz d a i v] at c;have:Fi v a=T7:=by
     rw[Bool.eq_false_iff];intro g;exact b (nB.1 g).symm
    rw[this] at c;simp at c
def ay.mJ:((aB T4).info? 59).map (λi=>(i.zero,i.size,i.bytes))=I (I (.agg #[.bool T7,.int .i64 0,.string ⟨#[]⟩]),3,32):=by kernel_rfl
def IT(w:F):(zeroValue 3).run (aB T4) w= .ok (.int .i64 0) w:=by kernel_rfl
def uG{w:F}{base e b n:Nat}{v:U}{c:List U}(h:w.ownsRow base e b v n c):∃a cap,v= .slice a n cap:=by
 rcases h.2 with⟨rfl,rfl⟩|⟨f,cap,d,rfl,_⟩
 ·exact⟨K,0,rfl⟩
 ·exact⟨_,_,rfl⟩
def jr(w:F)(a b c:U)(t:Uh):∀(j:Nat) (u:U),[a,b,c][j]? =I u->(w.alloc (.cells #[a,b,c] t)).cell? ((⟨w.heap.size,0,K⟩:UJ).add j)=I u:=by
 intro j u d
 match j,d with
 |0,d=>simp at d;subst d;simp[Yr]
 |1,d=>simp at d;subst d;simp[VL]
 |2,d=>simp at d;subst d;simp[VL]
def fC(x:aE):∀u∈[WN x.null,.int .i64 x.n,.string x.s],u.oneCell'=Z:=by
 intro u a;simp at a;rcases a with rfl|rfl|rfl<;>rfl
def AE{w d:F}{a b c:U}{t:Uh}{g:Option Nat}(e:(w.alloc (.cells #[a,b,c] t)).grownBy d g)(f:I w.heap.size≠g):
 aM d w.heap.size 0 a/\aM d w.heap.size 1 b/\aM d w.heap.size 2 c:=
 ⟨e.cell (a:=⟨w.heap.size,0,K⟩) (by simp) f,e.cell (a:=⟨w.heap.size,1,K⟩) (by simp) f,e.cell (a:=⟨w.heap.size,2,K⟩) (by simp) f⟩
def aR.cr{w w':F}{u:U}(h:aP w w'):aR w w' u u:=⟨⟨h.1,h.2,h.3,h.4,λb a _=>h.block b a⟩,λ_ h=>.inl h⟩
def ey (k:Int)(l:List aE):List Nat:=aL (dfold l).1.length++(aX k (dfold l).1++cJ (wid (dfold l).1.length) (dfold l).2)
def ints (ps:List Nat):List Int:=ps.map fun(a:Nat)=>(a:Int)
def xE:Prop:=∀(d f:U) (pre:List Nat) (b:List aE) (a:Int) (base:Nat) (c:F) (k:a=1\/a=2\/a=3) (o:∀i∈b,pq i) (m:b.length<=100) (l:pre.length<=40000) (j:base<=c.heap.size) (n:c.ownsRow base 5 1 d pre.length (aG pre)) (p:rY c f b),
 bH 144 #[d,f,.int .i64 a] c λh g=>∃e,h= .returned e/\g.ownsRow base 5 1 e (pre++ey a b).length (aG (pre++ey a b))/\aR c g d e
def xL:xE:=by
 intro n eo pre c o base e c7 dt ea d8 d5 dl du;obtain⟨a2,ap,aw,az,a0⟩:=Ve ay.vD;obtain⟨d0,c4,dE,dO,dT⟩:=Ve ay.mJ;obtain⟨d2,d3,eq,d4,rfl,E⟩:=du;have ba:=af dt;have cc:=af E;have S:=af dl;have d9:= @run_makeMap (aB T4);have y:=World.ownsMap_made e (aB T4) 59 (plainElem (H:=Unit) (aB T4) 3);have b5:=af (pQ c);go_enter ay.func144,Tryz.ntmps144
 go_wp2_with (at_make;refine Wb _ Y _ _ 22 Y (e.heap.size+1) 3 a2 (.int .i64 0) 1 ay.underlying22 ap aw az .i64 .i64 _ c.length Y Y Y (by rw[a0];omega) (by unfold Uq;omega) (by simp) ?_;intro bA dp bo)
 have cx:aP e bA:=((Up _ _).alloc (T8 _) _).grown bo (by simp) (by simp);have dc:bA.ownsMap (aB T4) 59 (plainElem (H:=Unit) (aB T4) 3) e.heap.size 0 (.map []):=y.kept bo (by simp)
 go_loopw [7,9,20] (λV bx a1 wr=>∃(a s:Nat) (D:DataW Unit) (u:Option UJ) (bW:Nat),a<=c.length/\s<=a/\a1= .int .i64 a/\V= .slice u (dfold (c.take a)).1.length bW/\
  wr.ownsRow (e.heap.size+1) 59 3 V (dfold (c.take a)).1.length (aH (dfold (c.take a)).1)/\wr.ownsRow (e.heap.size+1) 3 1 bx a (bz (ints (dfold (c.take a)).2))/\Apart V bx/\
  wr.ownsMap (aB T4) 59 (plainElem (H:=Unit) (aB T4) 3) e.heap.size s D/\Knows D (dfold (c.take a)).1/\aP e wr) (λ_ _ a1 _=>c.length-(US a1).toNat)
 case atStart=>exact⟨0,0,.map [],K,0,UE _,T8 _,rfl,rfl,Vp _ _ _ _,by simpa [ints,bz,dfold] using dp,Or.inl Y,dc,Knows.empty,cx⟩
 case round=>
  obtain⟨a,s,D,u,bW,c6,eb,rfl,rfl,r,m,C,y,aq,ab⟩:=hrel;have L:=af ab;have bt:e.heap.size<=wr.heap.size:=ab.size;obtain⟨bi,ad,ae,bj⟩:=b5.o a c6;have el:e.heap.size+1<=wr.heap.size:=by have:=y.lt;omega
  by_cases G:a<c.length
  ·have E:=cc.o.below ab;obtain rfl:=E.addr (by omega);have er:=E.c0 a G;have es:=E.c1 a G;have et:=E.c2 a G;have M:=af (ba.o _ (Uj G));have a6:=af (dfold_succ c a G);have O:=B7 c[a] M.o;have a9:=af aq;have Q:=aq.has c[a] M.o;have b4:=af (aq.at_ c[a] M.o);have R:=xp (dfold (c.take a)).1 c[a];have a8:X (ins (dfold (c.take a)).1 c[a]=if idx (dfold (c.take a)).1 c[a]<(dfold (c.take a)).1.length then(dfold (c.take a)).1 else(dfold (c.take a)).1++[c[a]]):=rfl;generalize c[a]=g at*;generalize d6:dfold (c.take a)=T at*;obtain⟨b,l⟩:=T;simp only at bi ad ae bj r m C O Q R;have a7:=af R.1;have b6:=af R.2.2;by_cases x:idx b g<b.length
   ·rw[decide_eq_true x] at Q
    go_wp2_with (first
     |(at_lookup;refine wpList_lookup_own_ok_int _ Y _ _ 229 Y 59 3 .i64 Gb ay.underlying229 ay.underlying3 (IT _) e.heap.size s D Y (y.alloc _) _ _ Y O ?_;intro N bd dv)
     |(at_builtin;refine aT _ Y _ _ 22 Y (e.heap.size+1) 3 a2 (.int .i64 0) 1 8 ay.underlying22 ap aw az a0 Y (by decide) _ a _ Y ((m.alloc _).alloc _) ⟨wr.heap.size+1,0,K⟩ 1 1 [.int .i64 N] Y (by decide) Y (by simpa using gS (wr.alloc _) _ _) (p7 _) (by unfold Uq;omega) (by omega) (by simp;omega) ?_;intro a4 J z ao))
    have c0:N=(idx b g:Int):=by
     have:=b4.o x;rw[bd] at this;simpa using this
    have q:=aR.box (aR.append ao);have p:dfold (c.take (a+1))=(b,l++[idx b g]):=by
     rw[a6.o];unfold sO;simp only;rw[a7.o,a8.o,if_pos x]
    rw[eS] at z;refine⟨⟨a+1,s,D,u,bW,by omega,by omega,by simp,by rw[p],by rw[p];exact bF r q C,?_,C.jP r q,y.kept q.fO (λd=>by have:=(m.lt _ d.symm).1;omega),by rw[p];exact a9.o,L.o.trans (q.below (λk i=>by have:=(m.lt k i).1;omega) bt)⟩,by simp[US];omega⟩;rw[p];simp only;rw[show ints (l++[idx b g])=ints l++[N] from by rw[c0];simp[ints]];exact z
   ·rw[decide_eq_false x] at Q;have c8:I wr.heap.size≠I e.heap.size:=by simp;omega
    have bc:∀bu:Xv,(wr.alloc bu).heap.size=wr.heap.size+1:=λbu=>by simp
    have c1:Vz (.slice u b.length bW)=K\/Vz (.slice u b.length bW)≠I e.heap.size:=.inr (λd=>by have:=(r.lt _ d).1;omega);have dq:u9.ownBlock=K\/u9.ownBlock≠I e.heap.size:=.inr (λd=>by have:=(m.lt _ d).1;omega)
    go_wp2_with (first
     |(at_lookup;refine wpList_lookup_own_ok_int _ Y _ _ 229 Y 59 3 .i64 Gb ay.underlying229 ay.underlying3 (IT _) e.heap.size s D Y (y.alloc _) _ _ Y O ?_;intro N bd dv)
     |(at_mapUpdate;refine wpList_mapUpdate_own _ Y _ _ _ 229 Y 59 3 Gb ay.underlying229 _ e.heap.size s D Y (y.alloc _) ?_ _ _ _ Y Y O _ [] (plainElem_int ay.underlying3 (wf_i64 _ (by omega) (by omega))) ?_;(unfold Uq;omega);intro f dd F;have cR:=AE F c8;obtain⟨eQ,e0,e1⟩:=cR;have ds:=F.size;rw[bc] at ds;have al:=(r.alloc _).kept F c1;have bs:=(m.alloc _).kept F dq)
     |(at_builtin;refine aT _ Y _ _ 43 Y (e.heap.size+1) 59 d0 _ 3 32 ay.underlying43 c4 dE dO dT Y (by decide) _ b.length _ Y (al.alloc _) ⟨f.heap.size,0,K⟩ 1 1 [.bool g.null,.int .i64 g.n,.string g.s] Y (by decide) Y (jr _ _ _ _ _) (fC g) (by unfold Uq;omega) (by omega) (by simp;omega) ?_;intro a4 J z ao;have w:=aR.append ao;have av:=bF bs w C.symm;have eh:=w.fO.size)
     |(at_builtin;refine aT _ Y _ _ 22 Y (e.heap.size+1) 3 a2 (.int .i64 0) 1 8 ay.underlying22 ap aw az a0 Y (by decide) _ a _ Y (av.alloc _) ⟨J.heap.size,0,K⟩ 1 1 [.int .i64 (b.length:Int)] Y (by decide) Y (gS _ _ _) (p7 _) (by unfold Uq;omega) (by omega) (by simp;omega) ?_;intro e2 bB br c3))
    have q:=aR.append c3;have bb:Apart a4 u9:=(C.symm.jP bs w).symm;have p:dfold (c.take (a+1))=(b++[g],l++[b.length]):=by
     rw[a6.o];unfold sO;simp only;rw[a7.o,a8.o,if_neg x,b6.o x]
    have aa:aP e f:=(L.o.alloc bt _).grown F (by rw[bc];omega) (λk i=>by cases i;exact T8 _);have be:XS e.heap.size f J:=w.below (λk i=>by have:=(al.lt k i).1;omega) aa.size;have cv:XS e.heap.size J bB:=q.below (λk i=>by have:=(av.lt k i).1;omega) (aa.trans be).size;rw[eS] at br;rw[<-mW,<-js] at z;have df:=dd.kept w.fO (λd=>by have:=(al.lt _ d.symm).1;omega);have dk:=df.kept q.fO (λd=>by have:=(av.lt _ d.symm).1;omega);obtain⟨ck,cl,dr⟩:=uG z;refine⟨⟨a+1,s+1,_,ck,cl,by omega,by omega,by simp,by rw[p,dr];simp,by rw[p];simpa using bF z q bb,?_,bb.jP z q,dk,by rw[p];exact a9.o.put g M.o x,(aa.trans be).trans cv⟩,by simp[US];omega⟩;rw[p];simp only;rw[show ints (l++[b.length])=ints l++[(b.length:Int)] from by simp[ints]];exact br
  ·have d7:a=c.length:=by omega
   have c5:c.take a=c:=UO (by omega);have a5:X (ey o c=aL (dfold (c.take a)).1.length++(aX o (dfold (c.take a)).1++cJ (wid (dfold (c.take a)).1.length) (dfold (c.take a)).2)):=by show _=_;rw[c5];rfl
   have P:X (∀g∈(dfold (c.take a)).1,pq g):=λg dC=>ba.o g (bj g dC);generalize dfold (c.take a)=T at*;obtain⟨b,l⟩:=T;simp only at bi ad ae r m C a5 P;have ch:Apart (.slice u b.length bW) n:=by
    cases A:n.ownBlock with
    |none=>exact Apart.symm (u:=n) (Or.inl A)
    |some k=>
     refine .inr (λd=>?_);rw[A] at d;have W:=(r.lt k d).1;have Z:=(S.o.lt k A).2;omega
   have cf:Apart u9 n:=by
    cases A:n.ownBlock with
    |none=>exact Apart.symm (u:=n) (Or.inl A)
    |some k=>
     refine .inr (λd=>?_);rw[A] at d;have W:=(m.lt k d).1;have Z:=(S.o.lt k A).2;omega
   have cd:=af (aK S.o L.o);have ec:=gb o b P.o;have em:=cm 10 b.length;have en:=vj b.length;have b0:X (bH 84 #[n,.int .i64 (b.length:Int)] wr λd j=>∃a3,d= .returned a3/\j.ownsRow base 5 1 a3 (pre++aL b.length).length (aG (pre++aL b.length))/\aR wr j n a3):=
    cP n pre b.length base wr (by omega) (by omega) (by omega) cd.o
   have ee:(pre++aL b.length).length<=40010:=by rw[Ua];unfold aL;omega
   generalize cs:pre++aL b.length=t at*;have ca:=af cs;have ef:(t++aX o b).length<=45000:=by rw[Ua];omega
   have b1:X (∀f h,f.ownsRow base 5 1 h t.length (aG t)->aR wr f n h->bH 146 #[h,.slice u b.length bW,.int .i64 o] f λd j=>∃H,d= .returned H/\j.ownsRow base 5 1 H (t++aX o b).length (aG (t++aX o b))/\aR f j h H):=λf h ar i=>
    lH h _ t b o base f c7 P.o (by omega) (by omega) (by have:=i.fO.size;omega) ar (λj H am=>rY.bO (bF r (i.trans am) ch))
   generalize cu:t++aX o b=B at*;have cb:=af cu;have b2:X (∀f,bH 158 #[.int .i64 (b.length:Int)] f λd j=>d= .returned (.int .i64 (wid b.length))/\j=f):=λf=>wm b.length (by omega) f;have b3:X (∀f h,f.ownsRow base 5 1 h B.length (aG B)->aR wr f n h->bH 157 #[h,u9,.int .i64 (wid b.length:Nat)] f λd j=>∃(v:U),d= .returned v/\j.ownsRow base 5 1 v (B++cJ (wid b.length) l).length (aG (B++cJ (wid b.length) l))/\aR f j h v):=λf h ar i=>by
    refine(zY h u9 B l (wid b.length) base f (by omega) (by omega) (λbv m=>tL _ (by omega) bv (ae bv m)) (by omega) (by have:=i.fO.size;omega) ar (λj H am=>?_)).mono ?_
    ·refine rA.bO (base:=e.heap.size+1) ?_;have:=bF m (i.trans am) cf;rw[UG,ad];exact this
    ·rintro d j ⟨v,d1,W,Z,cn,rfl,co,cp⟩;have:=tj (wid b.length) l d1 W Z cn;subst this;exact⟨_,rfl,co,cp⟩
   go_wp2_with first
    |(go_at_call 84;refine b0.o.mono ?_;rintro d f ⟨h,rfl,c9,bl⟩)
    |(go_at_call 146;refine(b1.o _ _ c9 bl).mono ?_;rintro d J ⟨a4,rfl,da,w⟩;have bm:=bl.trans w)
    |(go_at_call 158;refine(b2.o _).mono ?_;rintro d bB ⟨rfl,rfl⟩)
    |(go_at_call 157;refine(b3.o _ _ da bm).mono ?_;rintro d e4 ⟨e3,rfl,db,c2⟩)
   go_ret;have ci:pre++ey o c=B++cJ (wid b.length) l:=by
    rw[a5.o,<-cb.o,<-ca.o];simp only[UC]
   refine⟨_,rfl,?_,(aR.cr L.o).trans (bm.trans c2)⟩;rw[ci];exact db
def nL (x:aE):Int:=if x.null then 0 else 1
def there(l:List aE):List aE:=l.filter λa=> !a.null
def dV (k e:Int)(l:List aE):List Nat:=if e=1 then bS 0 l else if e=2 then ey k l else if e=3 then cy (l.map aE.n) else aX k l
def bK (k e:Int)(l:List aE):List Nat:=cy (l.map nL)++dV k e (there l)
def u7{l:List aE}{x:aE}(h:x∈there l):x∈l:=(List.mem_filter.1 h).1
def lW(l:List aE):(there l).length<=l.length:=List.length_filter_le _ _
def G8(l:List aE)(j:Nat)(h:j<l.length):there (l.take (j+1))=if l[j].null then there (l.take j) else there (l.take j)++[l[j]]:=by
 unfold there;rw[Uo h,List.filter_append];cases a:l[j].null<;>simp[a]
def JN(l:List aE)(j:Nat)(h:j<l.length):(l.take (j+1)).map nL=(l.take j).map nL++[nL l[j]]:=by
 rw[Uo h,U0];rfl
def oK(l:List Int)(h:l.length<=100):(cy l).length<=1100:=by
 have:=oL l.length l;unfold cy;omega
def vq(u d:U)(pre:List Nat)(a:List Int)(base o:Nat)(w:F)(m:a.length<=100)(j:pre.length<=100000)(h:base<=w.heap.size)
 (l:w.ownsRow base 5 1 u pre.length (aG pre)) (k:w.ownsRow o 3 1 d a.length (bz a)) (v:Apart d u):
 bH 142 #[u,d] w λe w'=>∃f,e= .returned f/\w'.ownsRow base 5 1 f (pre++cy a).length (aG (pre++cy a))/\aR w w' u f:=by
 rcases k.2 with⟨rfl,r⟩|⟨q,p,C,rfl,D,H,J,E,G,L⟩
 ·rw[show(z)= .slice K a.length 0 from by rw[r]];exact pJ u pre a K 0 0 0 base w m j h (λb=>by omega) (λb=>by omega) (λb=>by omega) (λM b=>by omega) l
 ·obtain⟨A,n,y,B,i,g,s,t⟩:=rA.bO k;simp only[VA,true_and] at i;obtain⟨rfl,rfl⟩:=i;refine pJ u pre a (I ⟨q,0,K⟩) n y p base w m j h g s (λb=>?_) t l;have e:=g b;simp only[U8,Wh] at e;rw[<-e.1];intro x;rcases v with c|c
  ·simp[Vz] at c
  ·exact c (by rw[x];simp[Vz])
def tV{e:Int}(bi:e=0\/xE/\rS)(u b4:U)(pre:List Nat)(l:List aE)(k:Int)(base:Nat)(w:F)(ao:k=1\/k=2\/k=3)(bA:∀x∈l,pq x)(c6:l.length<=100)(c5:pre.length<=30000)(c3:base<=w.heap.size)
 (bs:w.ownsRow base 5 1 u pre.length (aG pre)) (cu:rY w b4 l):
 bH 124 #[u,b4,.int .i64 k,.int .i64 e] w λr w'=>∃h,r= .returned h/\w'.ownsRow base 5 1 h (pre++bK k e l).length (aG (pre++bK k e l))/\aR w w' u h:=by
 have a3:=af bi;clear bi;obtain⟨a2,am,aw,az,a0⟩:=Ve ay.vD;obtain⟨b2,bl,bB,b0,b1⟩:=Ve ay.mJ;obtain⟨cR,c0,da,c1,rfl,D⟩:=cu;have a6:=af bA;have cc:=af D;have V:=af bs;clear bA D bs;go_enter ay.func124,Tryz.ntmps124
 go_wp2_with (first
  |(at_make;refine Wb _ Y _ _ 22 Y w.heap.size 3 a2 (.int .i64 0) 1 ay.underlying22 am aw az .i64 .i64 _ l.length Y Y Y (by rw[a0];omega) (by unfold Uq;omega) (T8 _) ?_;intro cx aq ae;have ar:=ae.size)
  |(at_make;refine Wb _ Y _ _ 43 Y w.heap.size 59 b2 _ 3 ay.underlying43 bl bB b0 .i64 .i64 _ l.length Y Y Y (by rw[b1];omega) (by unfold Uq;omega) ar ?_;intro a bu al))
 have bd:Apart (.slice (I ⟨w.heap.size,0,K⟩) 0 l.length) (.slice (I ⟨cx.heap.size,0,K⟩) 0 l.length):=.inr (by
  have:=(aq.lt w.heap.size (by simp[Vz])).2;simp[Vz];omega)
 have bt:=aq.kept al (.inr (by simp[Vz]));have be:aP w a:=((Up _ _).grown ae (T8 _) (by simp)).grown al ar (by simp);clear aq ae al ar
 go_loopw [9,10,21] (λb3 b6 a1 wr=>∃(f:Nat),f<=l.length/\a1= .int .i64 f/\wr.ownsRow w.heap.size 3 1 b3 f (bz ((l.take f).map nL))/\wr.ownsRow w.heap.size 59 3 b6 (there (l.take f)).length (aH (there (l.take f)))/\Apart b3 b6/\aP w wr) (λ_ _ a1 _=>l.length-(US a1).toNat)
 case atStart=>exact⟨0,UE _,rfl,by simpa [bz] using bt,by simpa [there,aH] using bu,bd,be⟩
 case round=>
  clear bt bu bd be;obtain⟨f,c4,rfl,i,o,N,O⟩:=hrel;have B:=af O;have av:w.heap.size<=wr.heap.size:=O.size;have c8:(there (l.take f)).length<=f:=by have:=lW (l.take f);rw[Vs] at this;omega
  have co:I wr.heap.size≠u9.ownBlock:=λe=>by have:=(i.lt _ e.symm).2;omega
  by_cases R:f<l.length
  ·have D:=cc.o.below O;obtain rfl:=D.addr (by omega);have b5:=D.c0 f R;have db:=D.c1 f R;have dc:=D.c2 f R;have G:=G8 l f R;have a4:=af (JN l f R);clear D O;generalize l[f]=x at*;cases s:x.null
   ·rw[s] at b5 G;have ab:X (there (l.take (f+1))=there (l.take f)++[x]):=by show _=_;simpa using G
    have aa:X (nL x=1):=by show _=_;unfold nL;rw[s];rfl
    have ck:aH [x]=[.bool T7,.int .i64 x.n,.string x.s]:=by rw[mW,s]
    have cf:∀u∈[WN T7,.int .i64 x.n,.string x.s],u.oneCell'=Z:=by have:=fC x;rwa [s] at this
    clear G s
    go_wp2_with (first
     |(at_builtin;refine aT _ Y _ _ 22 Y w.heap.size 3 a2 (.int .i64 0) 1 8 ay.underlying22 am aw az a0 Y (by decide) _ f _ Y ((i.alloc _).alloc _) ⟨wr.heap.size+1,0,K⟩ 1 1 [.int .i64 1] Y (by decide) Y (by simpa using gS (wr.alloc _) _ _) (p7 _) (by unfold Uq;omega) (by omega) (by simp;omega) ?_;intro q j S ad;have bj:=aR.append ad;have ci:=AE bj.fO co;obtain⟨dd,df,dk⟩:=ci;have m:=bj.box;have bx:=bF o m N.symm;have cs:=m.fO.size)
     |(at_builtin;refine aT _ Y _ _ 43 Y w.heap.size 59 b2 _ 3 32 ay.underlying43 bl bB b0 b1 Y (by decide) _ _ _ Y (bx.alloc _) ⟨j.heap.size,0,K⟩ 1 1 [.bool T7,.int .i64 x.n,.string x.s] Y (by decide) Y (jr _ _ _ _ _) cf (by unfold Uq;omega) (by omega) (by simp;omega) ?_;intro cv ca bv cl))
    have Q:=aR.append cl;have a7:Apart q u10:=(N.symm.jP o m).symm;have W:=bF S Q a7;rw[eS] at W;rw[<-ck,<-js] at bv;have z:XS w.heap.size wr j:=m.below (λM d=>(i.lt M d).1) av;have ch:XS w.heap.size j ca:=Q.below (λM d=>(bx.lt M d).1) (Uy av cs);refine⟨⟨f+1,by omega,by simp,by rw[a4.o,aa.o];exact W,by rw[ab.o];simpa using bv,a7.jP S Q,(B.o.trans z).trans ch⟩,by simp[US];omega⟩
   ·rw[s] at b5 G;have ab:X (there (l.take (f+1))=there (l.take f)):=by show _=_;simpa using G
    have aa:X (nL x=0):=by show _=_;unfold nL;rw[s];rfl
    clear G s
    go_wp2_with (at_builtin;refine aT _ Y _ _ 22 Y w.heap.size 3 a2 (.int .i64 0) 1 8 ay.underlying22 am aw az a0 Y (by decide) _ f _ Y ((i.alloc _).alloc _) ⟨wr.heap.size+1,0,K⟩ 1 1 [.int .i64 0] Y (by decide) Y (by simpa using gS (wr.alloc _) _ _) (p7 _) (by unfold Uq;omega) (by omega) (by simp;omega) ?_;intro q j S ad)
    have m:=aR.box (aR.append ad);rw[eS] at S;have z:XS w.heap.size wr j:=m.below (λM d=>(i.lt M d).1) av;refine⟨⟨f+1,by omega,by simp,by rw[a4.o,aa.o];exact S,by rw[ab.o];exact bF o m N.symm,(N.symm.jP o m).symm,B.o.trans z⟩,by simp[US];omega⟩
  ·have bo:f=l.length:=by omega
   have bm:l.take f=l:=UO (by omega);rw[bm] at i o;have br:((l.map nL).length)=l.length:=UG _;have ap:wr.ownsRow w.heap.size 3 1 u9 (l.map nL).length (bz (l.map nL)):=by rw[br,<-bo];exact i
   have J:X (bK k e l=cy (l.map nL)++dV k e (there l)):=rfl;have T:X (∀x∈there l,pq x):=λx s=>a6.o x (u7 s);have c9:=lW l;have cp:=oK (l.map nL) (by omega);have a8:Apart u9 u:=(Apart.new (B:=0) V.o ap).symm;have E:Apart u10 u:=(Apart.new (B:=0) V.o o).symm;have a5:=af (aK V.o B.o);have H:X (bH 142 #[u,u9] wr λe w'=>∃t,e= .returned t/\w'.ownsRow base 5 1 t (pre++cy (l.map nL)).length (aG (pre++cy (l.map nL)))/\aR wr w' u t):=
    vq u u9 pre (l.map nL) base w.heap.size wr (by omega) (by omega) (by omega) a5.o ap a8
   have c7:(pre++cy (l.map nL)).length<=32000:=by rw[Ua];omega
   generalize cy (l.map nL)=cd at*;generalize bc:pre++cd=g at*;have L:=af bc;generalize there l=c at*;have C:X (∀a b,aR wr a u b->a.ownsRow w.heap.size 59 3 u10 c.length (aH c)/\Apart u10 b):=λa b d=>⟨bF o d E,E.jP o d⟩;clear bc cp br i ap a8 a5 N O bm bo a6 V;rcases BM e with rfl|rfl|rfl|rfl|⟨c2,a9,ba,bb⟩
   ·have y:X (dV k 0 c=aX k c):=rfl;have v:X (∀a b,a.ownsRow base 5 1 b g.length (aG g)->aR wr a u b->bH 146 #[b,u10,.int .i64 k] a λe w'=>∃h,e= .returned h/\w'.ownsRow base 5 1 h (g++aX k c).length (aG (g++aX k c))/\aR a w' b h):=λa b i d=>
     lH b _ g c k base a ao T.o (by omega) (by omega) (by have:=d.fO.size;omega) i (λw' h P=>rY.bO (bF (C.o a b d).1 P (C.o a b d).2))
    clear o E
    go_wp2_with first
     |(go_at_call 142;refine H.o.mono ?_;rintro e a ⟨b,rfl,A,n⟩)
     |(go_at_call 146;refine(v.o _ _ A n).mono ?_;rintro e j ⟨q,rfl,p,m⟩)
    go_ret;refine⟨_,rfl,?_,(aR.cr B.o).trans (n.trans m)⟩;rw[J.o,y.o,<-UC,L.o];exact p
   ·have y:X (dV k 1 c=bS 0 c):=rfl;have v:X (∀a b,a.ownsRow base 5 1 b g.length (aG g)->aR wr a u b->bH 143 #[b,u10] a λe w'=>∃h,e= .returned h/\w'.ownsRow base 5 1 h (g++bS 0 c).length (aG (g++bS 0 c))/\aR a w' b h):=λa b i d=>
     (a3.o.resolve_left (by decide)).2 b _ g c base a T.o (by omega) (by omega) (by have:=d.fO.size;omega) i (λw' h P=>rY.bO (bF (C.o a b d).1 P (C.o a b d).2))
    clear o E
    go_wp2_with first
     |(go_at_call 142;refine H.o.mono ?_;rintro e a ⟨b,rfl,A,n⟩)
     |(go_at_call 143;refine(v.o _ _ A n).mono ?_;rintro e j ⟨q,rfl,p,m⟩)
    go_ret;refine⟨_,rfl,?_,(aR.cr B.o).trans (n.trans m)⟩;rw[J.o,y.o,<-UC,L.o];exact p
   ·have y:X (dV k 2 c=ey k c):=rfl;have v:X (∀a b,a.ownsRow base 5 1 b g.length (aG g)->aR wr a u b->bH 144 #[b,u10,.int .i64 k] a λe w'=>∃h,e= .returned h/\w'.ownsRow base 5 1 h (g++ey k c).length (aG (g++ey k c))/\aR a w' b h):=λa b i d=>
     (a3.o.resolve_left (by decide)).1 b _ g c k base a ao T.o (by omega) (by omega) (by have:=d.fO.size;omega) i (rY.bO (C.o a b d).1)
    clear o E
    go_wp2_with first
     |(go_at_call 142;refine H.o.mono ?_;rintro e a ⟨b,rfl,A,n⟩)
     |(go_at_call 144;refine(v.o _ _ A n).mono ?_;rintro e j ⟨q,rfl,p,m⟩)
    go_ret;refine⟨_,rfl,?_,(aR.cr B.o).trans (n.trans m)⟩;rw[J.o,y.o,<-UC,L.o];exact p
   ·have y:X (dV k 3 c=cy (c.map aE.n)):=rfl;have cn:(c.map aE.n).length=c.length:=UG _;have v:X (∀a b,aR wr a u b->bH 145 #[u10] a λe w'=>∃t,e= .returned t/\w'.ownsRow a.heap.size 3 1 t c.length (bz (c.map aE.n))/\aP a w'):=λa b d=>
     Fz u10 c a (by omega) (rY.bO (C.o a b d).1)
    have cb:X (∀a j b q,a.ownsRow base 5 1 b g.length (aG g)->aR wr a u b->j.ownsRow a.heap.size 3 1 q c.length (bz (c.map aE.n))->aP a j->bH 142 #[b,q] j λe w'=>∃t,e= .returned t/\w'.ownsRow base 5 1 t (g++cy (c.map aE.n)).length (aG (g++cy (c.map aE.n)))/\aR j w' b t):=λa j b q i d p z=>
     vq b q g (c.map aE.n) base a.heap.size j (by omega) (by omega) (by have:=d.fO.size;have:=z.size;omega) (aK i z) (by rw[cn];exact p) (Apart.new (B:=0) i p).symm
    clear o E
    go_wp2_with fail
    refine H.o.mono ?_;rintro e a ⟨b,rfl,A,n⟩
    go_wp2_with first
     |(go_at_call 145;refine(v.o _ _ n).mono ?_;rintro e j ⟨q,rfl,p,z⟩)
     |(go_at_call 142;refine(cb.o _ _ _ _ A n p z).mono ?_;rintro e ca ⟨cv,rfl,W,Q⟩)
    go_ret;refine⟨_,rfl,?_,(aR.cr B.o).trans (n.trans ((aR.cr z).trans Q))⟩;rw[J.o,y.o,<-UC,L.o];exact W
   ·have y:X (dV k e c=aX k c):=by
     show _=_;simp at a9 ba bb;unfold dV;rw[if_neg a9,if_neg ba,if_neg bb]
    have v:X (∀a b,a.ownsRow base 5 1 b g.length (aG g)->aR wr a u b->bH 146 #[b,u10,.int .i64 k] a λe w'=>∃h,e= .returned h/\w'.ownsRow base 5 1 h (g++aX k c).length (aG (g++aX k c))/\aR a w' b h):=λa b i d=>
     lH b _ g c k base a ao T.o (by omega) (by omega) (by have:=d.fO.size;omega) i (λw' h P=>rY.bO (bF (C.o a b d).1 P (C.o a b d).2))
    clear o E
    go_wp2_with first
     |(go_at_call 142;refine H.o.mono ?_;rintro e a ⟨b,rfl,A,n⟩)
     |(go_at_call 146;refine(v.o _ _ A n).mono ?_;rintro e j ⟨q,rfl,p,m⟩)
    go_ret;refine⟨_,rfl,?_,(aR.cr B.o).trans (n.trans m)⟩;rw[J.o,y.o,<-UC,L.o];exact p
def z8(k e:Int)(l:List aE)(h:∀x∈l,pq x)(j:l.length<=100):(dV k e l).length<=100000:=by
 unfold dV
 split
 ·have:=nI 0 l;omega
 ·split
  ·unfold ey;have a:=pQ l l.length (T8 _);rw[Vf] at a;obtain⟨f,g,i,b⟩:=a;have n:=gb k (dfold l).1 (λx d=>h x (b x d));have o:=cm 10 (dfold l).1.length;have c:=vj (dfold l).1.length;have m:(dfold l).2.length*wid (dfold l).1.length<=100*7:=Ws (by omega) c;rw[Ua,Ua,eZ];unfold aL;omega
  ·split
   ·have:=oK (l.map aE.n) (by rw[UG];omega);omega
   ·have:=gb k l h;omega
structure rC(v:aE):Prop where
 lo: -9223372036854775808<=v.n
 hi:v.n<=9223372036854775807
def zm{s:ByteArray}(h:s.toList=[]):s.size=0:=by
 have a:=XJ s;rw[a] at h;show s.data.size=0;rw[<-V9,h];rfl
def zP{x:aE}{k:Int}(h:rC x)(a:fQ x k=Z):pq x:=by
 refine⟨h.lo,h.hi,?_⟩;unfold fQ at a
 split at a
 ·simp at a;have:=zm a.2;omega
 ·split at a
  ·simp at a;have:=zm a;omega
  ·split at a
   ·simp at a;have:=zm a.2;omega
   ·simp at a;omega
def jJ (l:List aE)(k e:Int):ByteArray×Int:=
 if 100<l.length then(⟨#[]⟩,6) else if bJ k e=T7 then(⟨#[]⟩,2) else if (l.all λa=>fQ a k)=T7 then(⟨#[]⟩,1) else(strOf (bK k e l),0)
def L6{l:List aE}{k e:Int}(h:100<l.length):jJ l k e=(⟨#[]⟩,6):=by unfold jJ;rw[if_pos h]
def OO{l:List aE}{k e:Int}(h:¬ 100<l.length)(a:bJ k e=T7):jJ l k e=(⟨#[]⟩,2):=by unfold jJ;rw[if_neg h,if_pos a]
def ON{l:List aE}{k e:Int}(h:¬ 100<l.length)(a:bJ k e=Z)(j:Nat)(c:j<l.length)(d:fQ l[j] k=T7):jJ l k e=(⟨#[]⟩,1):=by
 unfold jJ;rw[if_neg h,if_neg (by simp[a]),if_pos];rw[Bool.eq_false_iff];intro b;have:=Uz.1 b _ (Uj c);rw[d] at this;cases this
def L7{l:List aE}{k e:Int}(h:¬ 100<l.length)(c:bJ k e=Z)(d:∀j,(a:j<l.length)->fQ l[j] k=Z):jJ l k e=(strOf (bK k e l),0):=by
 unfold jJ;rw[if_neg h,if_neg (by simp[c]),if_neg];have:(l.all λb=>fQ b k)=Z:=by
  rw[Uz];intro b f;obtain⟨j,a,rfl⟩:=Vv f;exact d j a
 simp[this]
def AP{k e:Int}(h:bJ k e=Z):(k=1\/k=2\/k=3)/\(e=0\/e=1\/e=2\/e=3):=by
 constructor
 ·rcases BM k with rfl|rfl|rfl|rfl|⟨j,f,g,i⟩
  ·simp[bJ,fX] at h
  ·exact .inl Y
  ·exact .inr (.inl Y)
  ·exact .inr (.inr Y)
  ·rw[MT f g i] at h;cases h
 ·rcases BM e with rfl|rfl|rfl|rfl|⟨a,b,c,d⟩
  ·exact .inl Y
  ·exact .inr (.inl Y)
  ·exact .inr (.inr (.inl Y))
  ·exact .inr (.inr (.inr Y))
  ·rw[Pu a b c d] at h;cases h
def Dp{e:Int}(H:e=0\/xE/\rS)(J:U)(l:List aE)(k:Int)(w:F)(ae:l.length<=Uq)(ab:∀x∈l,rC x)(ao:rY w J l):
 bH 87 #[J,.int .i64 k,.int .i64 e] w λr w'=>r= .returned (.tuple #[.string (jJ l k e).1,.int .i64 (jJ l k e).2])/\aP w w':=by
 have M:=af H;obtain⟨t,T,aq,u,rfl,g⟩:=ao;unfold Uq at ae;have d:=o5 (l.length:Int) k e;by_cases m:100<l.length
 ·rw[L6 m];rw[show jC (l.length:Int) k e=6 from by unfold jC;rw[if_pos (by omega)]] at d;go_enter ay.func87,Tryz.ntmps87
  go_wp2_with (go_at_call 123;refine(d _).mono ?_;rintro e w' ⟨rfl,rfl⟩)
  all_goals go_ret2
  all_goals exact⟨rfl,Up _ _⟩
 cases f:bJ k e
 ·rw[OO m f];rw[show jC (l.length:Int) k e=2 from by unfold jC;rw[if_neg (by omega),f];rfl] at d;go_enter ay.func87,Tryz.ntmps87
  go_wp2_with (go_at_call 123;refine(d _).mono ?_;rintro e w' ⟨rfl,rfl⟩)
  all_goals go_ret2
  all_goals exact⟨rfl,Up _ _⟩
 rw[show jC (l.length:Int) k e=0 from by unfold jC;rw[if_neg (by omega),f];rfl] at d;obtain⟨ad,H⟩:=AP f;have C:=af f;have D:=af ad;have N:=af ab;have E:=af g;go_enter ay.func87,Tryz.ntmps87
 go_wp2_with (go_at_call 123;refine(d _).mono ?_;rintro e w' ⟨rfl,ap⟩;rw[ap])
 go_loopw [21] (λz wr=>∃a:Nat,a<=l.length/\z= .int .i64 a/\(∀b,(c:b<l.length)->b<a->fQ l[b] k=Z)/\aP w wr) (λz _=>l.length-(US z).toNat)
 case atStart=>exact⟨0,UE _,rfl,λb _ j=>by omega,Up _ _⟩
 case round=>
  obtain⟨a,aw,rfl,n,o⟩:=hrel;have B:=af n;have s:=af o;have y:=o.size;by_cases p:a<l.length
  ·have g:=E.o.below o;obtain rfl:=g.addr (by omega);have az:=g.c0 a p;have a0:=g.c1 a p;have a1:=g.c2 a p;have P:X (fQ l[a] k=T7->jJ l k e=(⟨#[]⟩,1)):=λj=>ON m C.o a p j;have R:X (fQ l[a] k=Z->∀b,(c:b<l.length)->b<a+1->fQ l[b] k=Z):=λj b c f=>by
    by_cases V:b=a
    ·subst V;exact j
    ·exact B.o b c (by omega)
   have h:X (∀i,bH 82 #[.agg #[.bool l[a].null,.int .i64 l[a].n,.string l[a].s],.int .i64 k] i λe w'=>e= .returned (.bool (fQ l[a] k))/\aP i w'):=λi=>qH l[a] k i D.o;generalize l[a]=x at*;cases q:fQ x k
   ·have Q:=af (P.o q);rw[q] at h
    go_wp2_with (go_at_call 82;refine(h.o _).mono ?_;rintro e K ⟨rfl,v⟩)
    go_ret2
    rw[Q.o];exact⟨rfl,s.o.trans ((ua v).mono y)⟩
   ·have S:=af (R.o q);rw[q] at h
    go_wp2_with (go_at_call 82;refine(h.o _).mono ?_;rintro e K ⟨rfl,v⟩)
    go_roundw
    case rel=>exact⟨a+1,by omega,by go_num,S.o,s.o.trans ((ua v).mono y)⟩
    case measure=>simp[US];omega
  ·have n:∀b,(c:b<l.length)->fQ l[b] k=Z:=λb c=>B.o b c (by omega);have O:=af (L7 m C.o n);have am:∀x∈l,pq x:=λx I=>by
    obtain⟨b,c,rfl⟩:=Vv I;exact zP (N.o _ I) (n b c)
   have L:X (bH 124 #[aO,.slice t l.length u,.int .i64 k,.int .i64 e] wr λr w'=>∃A,r= .returned A/\w'.ownsRow wr.heap.size 5 1 A (bK k e l).length (aG (bK k e l))/\aR wr w' aO A):=by
    have G:=tV M.o aO (.slice t l.length u) [] l k wr.heap.size wr D.o am (by omega) (by simp) (T8 _) (Vp _ _ _ _) ⟨t,T,aq,u,rfl,E.o.below o⟩;rw[List.nil_append] at G;exact G
   go_wp2_with (go_at_call 124;refine L.o.mono ?_;rintro e K ⟨u1,rfl,al,aa⟩;have av:=qi al Y)
   go_ret2
   rw[O.o];exact⟨rfl,s.o.trans ((aa.below (λar W=>by simp[Vz] at W) (T8 _)).mono y)⟩
structure AA{α:Type}(E:List α->List Nat)(ok:α->Prop)(B:List Nat)(p cn:Nat)(l:List α):Prop where
 le:l.length<=cn
 Rn:∀x∈l,ok x
 st:ai B p (E l)
 IM:∀L:List α,L.length=cn->(∀x∈L,ok x)->ai B p (E L)->∃m,L=l++m
def zn{α:Type}{E:List α->List Nat}{e:List α->α->List Nat}(b:∀l x,E (l++[x])=E l++e l x)(l m:List α):∃t,E (l++m)=E l++t:=by
 induction m generalizing l with
 |nil=>exact⟨[],by simp⟩
 |cons x a d=>
  obtain⟨t,c⟩:=d (l++[x]);refine⟨e l x++t,?_⟩;rw[show l++x::a=l++[x]++a by simp,c,b,UC]
def AA.zero{α:Type}{E:List α->List Nat}{ok:α->Prop}{B:List Nat}{p cn:Nat}(b:E []=[]):AA E ok B p cn []:=
 ⟨UE _,λd c=>by simp at c,by rw[b];exact mT _ _,λa _ _ _=>⟨a,rfl⟩⟩
def AA.next{α:Type}{E:List α->List Nat}{ok:α->Prop}{e:List α->α->List Nat}{B:List Nat}{p cn:Nat}{l:List α}(h:AA E ok B p cn l)(c:∀l x,E (l++[x])=E l++e l x)(g:l.length<cn)
 (L:List α) (hL:L.length=cn) (d:∀x∈L,ok x) (b:ai B p (E L)):∃x m,L=(l++[x])++m/\ok x/\ai B (p+(E l).length) (e l x):=by
 obtain⟨m,rfl⟩:=h.IM L hL d b;cases m with
 |nil=>simp at hL;omega
 |cons x a=>
  obtain⟨i,f⟩:=zn c (l++[x]) a;refine⟨x,a,by simp,d x (by simp),?_⟩;rw[show l++x::a=l++[x]++a by simp,f,c,UC,au,au] at b;exact b.2.1
def AA.more{α:Type}{E:List α->List Nat}{ok:α->Prop}{e:List α->α->List Nat}{B:List Nat}{p cn:Nat}{l:List α}(h:AA E ok B p cn l)(b:∀l x,E (l++[x])=E l++e l x)(i:l.length<cn)
 {x:α} (q:ok x) (k:ai B (p+(E l).length) (e l x)) (o:∀y,ok y->ai B (p+(E l).length) (e l y)->y=x):AA E ok B p cn (l++[x]):=by
 refine⟨by simp;omega,?_,by rw[b,au];exact⟨h.st,k⟩,?_⟩
 ·intro y r;rcases U1.1 r with a|a
  ·exact h.Rn y a
  ·simp at a;rw[a];exact q
 ·intro c g j n;obtain⟨y,m,a,d,f⟩:=h.next b i c g j n;rw[o y d f] at a;exact⟨m,a⟩
def AA.fail{α:Type}{E:List α->List Nat}{ok:α->Prop}{e:List α->α->List Nat}{B:List Nat}{p cn:Nat}{l:List α}(h:AA E ok B p cn l)(c:∀l x,E (l++[x])=E l++e l x)(d:l.length<cn)
 (i:∀y,ok y->¬ai B (p+(E l).length) (e l y)) (L:List α) (hL:L.length=cn) (f:∀x∈L,ok x):¬ai B p (E L):=by
 intro g;obtain⟨y,m,j,a,b⟩:=h.next c d L hL f g;exact i y a b
def AA.done{α:Type}{E:List α->List Nat}{ok:α->Prop}{B:List Nat}{p cn:Nat}{l:List α}(h:AA E ok B p cn l)(e:¬l.length<cn):
 l.length=cn/\(∀L:List α,L.length=cn->(∀x∈L,ok x)->ai B p (E L)->L=l):=by
 have c:l.length=cn:=by have:=h.le;omega
 refine⟨c,?_⟩;intro L a b d;obtain⟨m,rfl⟩:=h.IM L a b d;rw[Ua] at a;have:m=[]:=We.1 (by omega);rw[this];simp
def uz (m:Nat):Int:=if m%2=1 then -((m/2:Nat):Int)-1 else((m/2:Nat):Int)
def SN(m:Nat):zz (uz m)=m:=by
 unfold zz uz
 split<;>split<;>omega
def IN(n:Int):uz (zz n)=n:=by
 unfold zz uz
 split<;>split<;>omega
def N4(m:Nat)(h:m<18446744073709551616): -9223372036854775808<=uz m/\uz m<=9223372036854775807:=by
 unfold uz
 split<;>omega
structure VK(k:Int)(v:aE):Prop where
 there:v.null=T7
 lo: -9223372036854775808<=v.n
 hi:v.n<=9223372036854775807
 s1:k=1->v.s=⟨#[]⟩
 s2:k=2->(v.n=0\/v.n=1)/\v.s=⟨#[]⟩
 s3:k=3->v.n=0/\v.s.size<=32
def kP{s:ByteArray}(h:s.toList=[]):s=⟨#[]⟩:=by
 rw[XJ s] at h;apply ByteArray.ext;apply Array.ext';simpa using h
def KW{k:Int}{v:aE}(c:k=1\/k=2\/k=3)(b:v.null=T7)(h:rC v)(a:fQ v k=Z):VK k v:=by
 unfold fQ at a;rw[b] at a;refine⟨b,h.lo,h.hi,?_,?_,?_⟩
 ·rintro rfl;simp at a;exact kP a
 ·rintro rfl;simp at a;exact⟨a.1,kP a.2⟩
 ·rintro rfl;simp at a;exact⟨a.1,by omega⟩
def VK.ok{k:Int}{v:aE}(a:k=1\/k=2\/k=3)(h:VK k v):pq v:=by
 refine⟨h.lo,h.hi,?_⟩;rcases a with rfl|rfl|rfl
 ·rw[h.s1 Y];decide
 ·rw[(h.s2 Y).2];decide
 ·exact(h.s3 Y).2
def l7{k:Int}(i:k=1\/k=2\/k=3){B:List Nat}{p:Nat}{x y:aE}(b:VK k x)(c:VK k y)(h1:ai B p (bf k x))(a:ai B p (bf k y)):x=y:=by
 have e:x.n=y.n->x.s=y.s->x=y:=by
  intro f g;have h:=b.there.trans c.there.symm;cases x;cases y;simp at f g h;simp[f,g,h]
 rcases i with rfl|rfl|rfl
 ·have d:∀v,bf 1 v=aL (zz v.n):=λv=>rfl;rw[d] at h1 a;have:=cA (BA _ b.lo b.hi) (BA _ c.lo c.hi) h1 a;refine e ?_ (by rw[b.s1 Y,c.s1 Y]);rw[<-IN x.n,this,IN]
 ·have d:∀v,bf 2 v=[byteOf v.n]:=λv=>rfl;rw[d,dH] at h1 a;rw[h1] at a;simp at a;refine e ?_ (by rw[(b.s2 Y).2,(c.s2 Y).2]);rw[kx (b.s2 Y).1,kx (c.s2 Y).1] at a;have:=(b.s2 Y).1;have:=(c.s2 Y).1;omega
 ·have d:∀v,bf 3 v=aL v.s.size++bytesOf v.s:=λv=>rfl;rw[d,au] at h1 a;have j:=(b.s3 Y).2;have l:=(c.s3 Y).2;have:=cA (by omega) (by omega) h1.1 a.1;rw[this] at h1;refine e (by rw[(b.s3 Y).1,(c.s3 Y).1]) ?_;exact m9 (iE h1.2 a.2 (by rw[aj,aj,this]))
def lU(k:Int)(l:List aE)(x:aE):aX k (l++[x])=aX k l++bf k x:=by
 unfold aX;rw[Vi,Vc]
def wD(a n d:Int)(b: -9223372036854775808<=n)(c:n<=9223372036854775807)(h:Vb (n-a)=d):Vb (a+d)=n:=by
 unfold Vb at*;omega
def C4(a d:Int)(b: -9223372036854775808<=d)(c:d<=9223372036854775807):Vb (Vb (a+d)-a)=d:=by
 unfold Vb;omega
def Jr{a:Int}{B:List Nat}{p:Nat}{x y:aE}(b:VK 1 x)(c:VK 1 y)(h1:ai B p (aL (zz (Vb (x.n-a)))))(l:ai B p (aL (zz (Vb (y.n-a))))):x=y:=by
 have g:=gK (x.n-a);have h:=gK (y.n-a);have j:=cA (BA _ g.1 g.2) (BA _ h.1 h.2) h1 l;have k:Vb (x.n-a)=Vb (y.n-a):=by rw[<-IN (Vb (x.n-a)),j,IN]
 have d:=wD a x.n _ b.lo b.hi Y;have i:=wD a y.n _ c.lo c.hi Y;rw[k,i] at d;have e:=b.there.trans c.there.symm;have f:=(b.s1 Y).trans (c.s1 Y).symm;cases x;cases y;simp at d e f;simp[d,e,f]
def JG(x:Nat)(a:x<9223372036854775808):bits .xor .i64 (x:Int) 0=(x:Int):=by
 show XM.wrap (((Xb 64 (x:Int))^^^(Xb 64 0)).toNat:Int)=_;rw[BitVec.ofInt_natCast,show Xb 64 0=0#64 from rfl,BitVec.xor_zero,BitVec.toNat_ofNat,WY];omega
def JF(x:Nat)(a:x<9223372036854775808):bits .xor .i64 (x:Int) (-1)= -(x:Int)-1:=by
 show XM.wrap (((Xb 64 (x:Int))^^^(Xb 64 (-1))).toNat:Int)=_;rw[BitVec.ofInt_natCast,show Xb 64 (-1)=BitVec.allOnes 64 from by decide +kernel,BitVec.xor_allOnes,BitVec.toNat_not,BitVec.toNat_ofNat,WY];omega
def Oq(n:Nat)(a:n<18446744073709551616):bits .and .u64 (n:Int) 1=((n%2:Nat):Int):=by
 have:=bits_mask .u64 64 (by decide) vm 1 (by decide) (n:Int) (by omega) (by omega);rw[show(1:Int)=2^1-1 from by decide,this];omega
def N3(n:Nat)(b:n<18446744073709551616):bits .xor .i64 ((n:Int)/2) (-((n:Int)%2))=uz n:=by
 rw[show(n:Int)/2=((n/2:Nat):Int) from by omega];unfold uz;by_cases a:n%2=1
 ·rw[show -((n:Int)%2)= -1 from by omega,JF _ (by omega),if_pos a]
 ·rw[show -((n:Int)%2)=0 from by omega,JG _ (by omega),if_neg a]
def CY(n:Nat)(w:F)(a:n<18446744073709551616):bH 161 #[.int .u64 (n:Int)] w λe w'=>e= .returned (.int .i64 (uz n))/\w'=w:=by
 have c:=Oq n a;have d:Vb ((n:Int)/2)=((n/2:Nat):Int):=by unfold Vb;omega
 have b:=af a;go_enter ay.func161,Tryz.ntmps161;go_wp2;go_ret;exact⟨by rw[<-N3 n b.o];rfl,rfl⟩
def GJ(s:ByteArray)(w:F)(E:s.size<=32):bH 98 #[.string s] w λe w'=>e= .returned (.string s)/\aP w w':=by
 by_cases j:s.size=0
 ·obtain rfl:s=⟨#[]⟩:=ByteArray.ext (Array.eq_empty_of_size_eq_zero j);go_enter ay.func98,Tryz.ntmps98;go_wp2;go_ret;exact⟨rfl,Up _ _⟩
 ·obtain⟨m,g,x,h,y⟩:=Ve ay.rG;have u:((aB T4).info? 5).map (·.size)=I 1:=by rw[g];simp[h]
  have q:(aB T4).cellsOf 5=1:=by simp[Program.cellsOf,g,h]
  obtain⟨a,d⟩:∃a,a=madeCells (VY .u8 0).cells (((s.size:Nat):Int).toNat*m.size):=⟨_,rfl⟩;have A:a.size=s.size:=by rw[d,size_madeCells,h];simp
  have D:∀c:F,(Instr.makeSlice 133 (.int .i64 (s.size:Int)) (.int .i64 (s.size:Int))).run (aB T4) c= .ok (.slice (I ⟨c.heap.size,0,K⟩) s.size s.size) (c.alloc (.cells a 5)):=λc=>by
   have i:=run_make (P:=(aB T4)) c 133 5 m (.int .u8 0) ay.underlying133 g x .i64 .i64 (s.size:Int) (s.size:Int) (by omega) (by omega) (by rw[y];omega) (by omega);rw[<-d] at i;simpa using i
  clear d;have r:=Lib.run_copy_row_string (P:=(aB T4)) (w.alloc (.cells a 5)) 133 9 3 5 w.heap.size 0 s.size s.size s a 5 ay.underlying133 u (V4 w _) (T8 _) (by omega);obtain⟨b,f⟩:∃b,b=(a.toList.take 0++Lib.byteCells s.data.toList++a.toList.drop (0+s.size)).toArray:=⟨_,rfl⟩;rw[<-f] at r;have k:b.toList=Lib.byteCells s.data.toList:=by
   rw[f,List.toList_toArray,List.take_zero,List.nil_append,List.drop_of_length_le (by rw[V9];omega),List.append_nil]
  have B:b.size=s.size:=by rw[<-V9,k,Lib.byteCells_length,<-X4]
  have l:((w.alloc (.cells a 5)).setRow w.heap.size b).heap[w.heap.size]? =I (.cells b 5 (0,0)):=setRow_heap _ _ a _ 5 (0,0) (V4 w _);have t:s.data.toList≠[]:=λe=>j (by rw[X4,e];rfl);have n:=Lib.run_unsafeString_row (P:=(aB T4)) ((w.alloc (.cells a 5)).setRow w.heap.size b) 206 3 9 5 ay.underlying206 q w.heap.size b.size (by unfold World.shape?;rw[l]) s.data.toList t (by rw[<-X4];omega) (by rw[<-X4];omega)
   (λz H v=>Lib.cells_of_row l b.size z _ (by rw[UO (by rw[V9];exact T8 _),k];simp[Lib.byteCells,v]))
  rw[<-X4] at n;clear f;go_enter ay.func98,Tryz.ntmps98;go_wp2;go_ret;have o:aP w (w.alloc (.cells a 5)):=(Up _ w).alloc (T8 _) _;have p:XS w.heap.size (w.alloc (.cells a 5)) ((w.alloc (.cells a 5)).setRow w.heap.size b):=⟨rfl,rfl,rfl,by simp,λG C=>setRow_other _ _ _ _ (by omega)⟩;exact⟨rfl,Lib.below_freeze (o.trans p) (p:=⟨w.heap.size,0,K⟩) (T8 _) _⟩
def uq(s:ByteArray)(w:F)(b:s.size<=32):bH 66 #[.string s] w λe w'=>e= .returned (.string s)/\aP w w':=by
 go_enter ay.func66,Tryz.ntmps66
 go_wp2_with fail
 refine(GJ s _ b).mono ?_;rintro e w' ⟨rfl,a⟩;go_wp2;go_ret;exact⟨rfl,a⟩
def Ct(r p:Nat)(s:ByteArray)(w:F)(j:s.size<=Uq)(P:p<=s.size)(h:w.heap[r]? =I (cg s p)):
 bH 162 #[.pointer (I ⟨r,0,K⟩)] w λe w'=>Kp r w w'/\((∃t:ByteArray,e= .returned (.string t)/\t.size<=32/\ai (bytesOf s) p (aL t.size++bytesOf t)/\w'.heap[r]? =I (cg s (p+(aL t.size++bytesOf t).length)))\/
  (∃q,e= .panicked (eD q)/\∀t:ByteArray,t.size<=32->¬ai (bytesOf s) p (aL t.size++bytesOf t))):=by
 have T:=Ue h;have E:=af h;go_enter ay.func162,Tryz.ntmps162
 go_wp2_with fail
 refine(jK r p s _ j P E.o).mono ?_;rintro e V ⟨i,⟨a,rfl,N,Q,x,M⟩|⟨q,rfl,O⟩⟩
 ·have c:=af i;have g:=af Q;have f:=af M;have l:=af N;have U:=i.size;by_cases S:32<a
  ·have d:X (∀t:ByteArray,t.size<=32->¬ai (bytesOf s) p (aL t.size++bytesOf t)):=by
    intro t y b;rw[au] at b;have:=cA (by omega) (by have:=l.o;omega) b.1 g.o;omega
   go_wp2_with (go_at_call 97;refine(b8 r _ s _ f.o).mono ?_;rintro e w' ⟨rfl,rfl⟩)
   exact⟨rfl,c.o,.inr ⟨_,rfl,d.o⟩⟩
  ·by_cases v:p+(aL a).length+a<=s.size
   ·have z:(s.extract (p+(aL a).length) (p+(aL a).length+a)).size=a:=by rw[ByteArray.size_extract];omega
    have J:X (bytesOf (s.extract (p+(aL a).length) (p+(aL a).length+a))=((bytesOf s).drop (p+(aL a).length)).take a):=by
     show _=_;rw[dz,show p+(aL a).length+a-(p+(aL a).length)=a by omega]
    have H:X (∀w,w.heap[r]? =I (cg s (p+(aL a).length))->bH 128 #[.pointer (I ⟨r,0,K⟩),.int .i64 (a:Int)] w λe w'=>e= .returned (.string (s.extract (p+(aL a).length) (p+(aL a).length+a)))/\∃m,w'=(w.setCell ⟨r,1,K⟩ (.int .i64 ((p+(aL a).length+a:Nat):Int))).drewN m):=
     λw k=>E1 r _ a s w j v k
    generalize s.extract (p+(aL a).length) (p+(aL a).length+a)=B at*
    go_wp2_with (go_at_call 128;refine(H.o _ f.o).mono ?_;rintro e A ⟨rfl,k⟩;have o:=af k)
    have n:X (A.heap[r]? =I (cg s (p+(aL a).length+a))):=by
     obtain⟨m,rfl⟩:=o.o;exact lV f.o m
    have C:X (Kp r w A):=by
     obtain⟨m,rfl⟩:=o.o;exact c.o.set 1 _ m
    refine(uq B _ (by omega)).mono ?_;rintro e R ⟨rfl,u⟩;have D:=af (C.o.trans (Kp.cr u));have G:X (R.heap[r]? =I (cg s (p+(aL a).length+a))):=by
     show _=_;rw[u.block r (Ue n.o)];exact n.o
    go_wp2;go_ret;refine⟨D.o,.inl ⟨B,rfl,by omega,?_,?_⟩⟩
    ·rw[au,z];refine⟨g.o,?_⟩;rw[J.o];exact List.take_prefix _ _
    ·rw[Ua,aj,z,<-U5];exact G.o
   ·have d:X (∀t:ByteArray,t.size<=32->¬ai (bytesOf s) p (aL t.size++bytesOf t)):=by
     intro t y b;rw[au] at b;have:=cA (by omega) (by have:=l.o;omega) b.1 g.o;rw[this] at b;have L:=gJ b.2 (by rw[aj];exact x);rw[aj,aj] at L;omega
    go_wp2_with (go_at_call 128;refine(Bt r _ a s _ j (by omega) v x f.o).mono ?_;rintro e w' ⟨rfl,m,rfl⟩)
    exact⟨rfl,c.o.drewN m,.inr ⟨_,rfl,d.o⟩⟩
 ·have d:X (∀t:ByteArray,t.size<=32->¬ai (bytesOf s) p (aL t.size++bytesOf t)):=by
   intro t y b;rw[au] at b;exact O t.size (by omega) b.1
  have c:=af i;go_wp2;exact⟨rfl,c.o,.inr ⟨q,rfl,d.o⟩⟩
def lZ{w:F}{g:Nat}{a b c:U}{t:Uh}(h:w.heap[g]? =I (.cells #[a,b,c] t (0,0))):
 aM w g 0 a/\aM w g 1 b/\aM w g 2 c/\w.frozen? ⟨g,0,K⟩=T7/\w.frozen? ⟨g,1,K⟩=T7/\w.frozen? ⟨g,2,K⟩=T7:=by
 refine⟨?_,?_,?_,?_,?_,?_⟩<;>first|simp[Us,h]|simp[UQ,h]
def uc{d:F}{g:Nat}{a b c:U}(a' b' e:U){t:Uh}(h:d.heap[g]? =I (.cells #[a,b,c] t (0,0)))(r:Nat)(x:r≠g){w:F}(f:Kp r w d)(y:w.heap.size<=g):
 let W:=((d.setCell ⟨g,0,K⟩ a').setCell ⟨g,1,K⟩ b').setCell ⟨g,2,K⟩ e
 aM W g 0 a'/\aM W g 1 b'/\aM W g 2 e/\W.heap[r]? =d.heap[r]? /\Kp r w W:=by
 have p:(d.setCell ⟨g,0,K⟩ a').heap[g]? =I (.cells #[a',b,c] t (0,0)):=by rw[Ur d g 0 _ _ _ h];rfl
 have q:((d.setCell ⟨g,0,K⟩ a').setCell ⟨g,1,K⟩ b').heap[g]? =I (.cells #[a',b',c] t (0,0)):=by rw[Ur _ g 1 _ _ _ p];rfl
 have s:(((d.setCell ⟨g,0,K⟩ a').setCell ⟨g,1,K⟩ b').setCell ⟨g,2,K⟩ e).heap[g]? =I (.cells #[a',b',e] t (0,0)):=by rw[Ur _ g 2 _ _ _ q];rfl
 have k:∀i,i≠g->(((d.setCell ⟨g,0,K⟩ a').setCell ⟨g,1,K⟩ b').setCell ⟨g,2,K⟩ e).heap[i]? =d.heap[i]? :=by
  intro i j;rw[Uu _ _ _ _ (by simpa using j),Uu _ _ _ _ (by simpa using j),Uu _ _ _ _ (by simpa using j)]
 obtain⟨m,n,o,_⟩:=lZ s;refine⟨m,n,o,k r x,f.os,f.tape,f.output,?_,?_⟩
 ·simpa using f.size
 ·intro l u v;rw[k l (by omega)];exact Wv f l u v
def j4(k:Int)(ab:k=1\/k=2\/k=3)(r p:Nat)(s:ByteArray)(w:F)(L:s.size<=Uq)(G:p<=s.size)(h:w.heap[r]? =I (cg s p)):
 bH 153 #[.pointer (I ⟨r,0,K⟩),.int .i64 k] w λe w'=>Kp r w w'/\((∃v:aE,e= .returned (.agg (gZ v))/\VK k v/\ai (bytesOf s) p (bf k v)/\p+(bf k v).length<=s.size/\w'.heap[r]? =I (cg s (p+(bf k v).length)))\/
  (∃q,e= .panicked (eD q)/\∀v:aE,VK k v->¬ai (bytesOf s) p (bf k v))):=by
 have al:=Ue h;have ao:=af h;have H:X ((w.alloc (.cells #[.bool T7,.int .i64 0,.string ⟨#[]⟩] 59)).heap[r]? =I (cg s p)):=by
  show _=_;rw[UN _ _ r al];exact h
 have j:X (Kp r w (w.alloc (.cells #[.bool T7,.int .i64 0,.string ⟨#[]⟩] 59))):=(Kp.refl r w).alloc _;have ae:∀M,ai (bytesOf s) p M->p+M.length<=s.size:=λM B=>by have:=gJ B (by rw[aj];exact G);rwa [aj] at this
 have O:=af ae;rcases ab with rfl|rfl|rfl
 ·go_enter ay.func153,Tryz.ntmps153
  go_wp2_with fail
  refine(Bv r p s _ L G H.o).mono ?_;rintro e D ⟨c,⟨a,rfl,V,C,z⟩|⟨q,rfl,A⟩⟩
  ·have b:=af (j.o.trans c);have f:D.heap[w.heap.size]? =I (.cells #[.bool T7,.int .i64 0,.string ⟨#[]⟩] 59 (0,0)):=Kp.block c (V4 w _) (by omega);obtain⟨P,Q,R,S,T,U⟩:=lZ f;have l:=af f;have n:=af z;have g:=af C;have Z:=af V;have aa:X (∀w,bH 161 #[.int .u64 (a:Int)] w λe w'=>e= .returned (.int .i64 (uz a))/\w'=w):=λw=>CY a w V
   go_wp2_with (go_at_call 161;refine(aa.o _).mono ?_;rintro e w' ⟨rfl,rfl⟩)
   obtain⟨o,t,u,x,y⟩:=uc (.bool T7) (.int .i64 (uz a)) (.string ⟨#[]⟩) l.o r (by omega) b.o (T8 _);simp[VR,UX,Tryz.results153,go_sem,o,t,u];have d:bf 1 ⟨T7,uz a,⟨#[]⟩⟩=aL a:=by show aL (zz (uz a))=_;rw[SN]
   have W:=N4 a Z.o;refine⟨y,⟨T7,uz a,⟨#[]⟩⟩,⟨rfl,rfl,rfl⟩,⟨rfl,W.1,W.2,λ_=>rfl,λh=>by omega,λh=>by omega⟩,?_,?_,?_⟩
   ·rw[d];exact g.o
   ·rw[d];exact O.o _ g.o
   ·rw[d,x];exact n.o
  ·have m:X (∀v:aE,VK 1 v->¬ai (bytesOf s) p (bf 1 v)):=λv i=>A (zz v.n) (BA _ i.lo i.hi);have b:=af (j.o.trans c);go_wp2;exact⟨rfl,b.o,.inr ⟨q,rfl,m.o⟩⟩
 ·go_enter ay.func153,Tryz.ntmps153
  go_wp2_with fail
  refine(BI r p s _ L G H.o).mono ?_;rintro e D ⟨c,⟨a,rfl,J,C,z,ad⟩|⟨q,rfl,A⟩⟩
  ·have b:=af (j.o.trans c);have f:D.heap[w.heap.size]? =I (.cells #[.bool T7,.int .i64 0,.string ⟨#[]⟩] 59 (0,0)):=Kp.block c (V4 w _) (by omega);obtain⟨P,Q,R,S,T,U⟩:=lZ f;have l:=af f;have n:=af z;have g:=af C;have N:=af J;go_wp2;obtain⟨o,t,u,x,y⟩:=uc (.bool T7) (.int .i64 a) (.string ⟨#[]⟩) l.o r (by omega) b.o (T8 _);simp[VR,UX,Tryz.results153,go_sem,o,t,u];have d:bf 2 ⟨T7,a,⟨#[]⟩⟩=[a.toNat]:=by show[byteOf a]=_;rw[kx N.o]
   have J:=N.o;refine⟨y,⟨T7,a,⟨#[]⟩⟩,⟨rfl,rfl,rfl⟩,⟨rfl,by show _<=a;omega,by show a<=_;omega,λh=>by omega,λ_=>⟨J,rfl⟩,λh=>by omega⟩,?_,?_,?_⟩
   ·rw[d];exact g.o
   ·rw[d];exact ad
   ·rw[d,x];exact n.o
  ·have m:X (∀v:aE,VK 2 v->¬ai (bytesOf s) p (bf 2 v)):=λv i B=>A v.n (i.s2 Y).1 (by rw[<-kx (i.s2 Y).1];exact B);have b:=af (j.o.trans c);go_wp2;exact⟨rfl,b.o,.inr ⟨q,rfl,m.o⟩⟩
 ·go_enter ay.func153,Tryz.ntmps153
  go_wp2_with fail
  refine(Ct r p s _ L G H.o).mono ?_;rintro e D ⟨c,⟨E,rfl,am,C,z⟩|⟨q,rfl,A⟩⟩
  ·have b:=af (j.o.trans c);have f:D.heap[w.heap.size]? =I (.cells #[.bool T7,.int .i64 0,.string ⟨#[]⟩] 59 (0,0)):=Kp.block c (V4 w _) (by omega);obtain⟨P,Q,R,S,T,U⟩:=lZ f;have l:=af f;have n:=af z;have g:=af C;go_wp2;obtain⟨o,t,u,x,y⟩:=uc (.bool T7) (.int .i64 0) (.string E) l.o r (by omega) b.o (T8 _);simp[VR,UX,Tryz.results153,go_sem,o,t,u];have d:bf 3 ⟨T7,0,E⟩=aL E.size++bytesOf E:=rfl;refine⟨y,⟨T7,0,E⟩,⟨rfl,rfl,rfl⟩,⟨rfl,by show _<=(0:Int);omega,by show(0:Int)<=_;omega,λh=>by omega,λh=>by omega,λ_=>⟨rfl,am⟩⟩,?_,?_,?_⟩
   ·rw[d];exact g.o
   ·rw[d];exact O.o _ g.o
   ·rw[d,x];exact n.o
  ·have m:X (∀v:aE,VK 3 v->¬ai (bytesOf s) p (bf 3 v)):=λv i B=>A v.s (i.s3 Y).2 B;have b:=af (j.o.trans c);go_wp2;exact⟨rfl,b.o,.inr ⟨q,rfl,m.o⟩⟩
def It{w:F}{base g n cap:Nat}{b:List Int}(h:w.ownsRow base 3 1 (.slice (I ⟨g,0,K⟩) n cap) n (bz b))(k:b.length=n)(j:Nat)(i:j<n):aM w g j (.int .i64 (b.getD j 0)):=by
 subst k;obtain⟨l,m,q,o,c,d,p,e⟩:=rA.bO h;simp only[VA] at c;obtain⟨a,_,_⟩:=c;have f:=d (by omega);rw[f] at a;simp only[U8,Wh] at a;have:=e j i;rw[<-a.1,<-a.2.1,UT] at this;exact this
def sU{a:List Int}(h:0<a.length):a.getLast?= I (a.getD (a.length-1) 0):=by
 rw[List.getLast?_eq_getElem?,Yw,Um (by omega)];rfl
def Eu(a:List Int)(m:Nat)(b:Int):bz (a++VE m b)++[.int .i64 b]=bz (a++VE (m+1) b):=by
 rw[eS,UC,List.replicate_succ']
def tA(s:ByteArray)(r p cn:Nat)(w:F)(b2:s.size<=Uq)(cp:cn<=100)(c0:p<=s.size)(h:w.heap[r]? =I (cg s p)):
 bH 164 #[.pointer (I ⟨r,0,K⟩),.int .i64 cn] w λe w'=>Kp r w w'/\
  ((∃(a:List Int) (v:U),e= .returned v/\a.length=cn/\nP a/\ai (bytesOf s) p (cy a)/\(∀L:List Int,L.length=cn->nP L->ai (bytesOf s) p (cy L)->L=a)/\p+(cy a).length<=s.size/\
    w'.heap[r]? =I (cg s (p+(cy a).length))/\w'.ownsRow w.heap.size 3 1 v a.length (bz a))\/
   (∃q,e= .panicked (eD q)/\∀L:List Int,L.length=cn->nP L->¬ai (bytesOf s) p (cy L))):=by
 obtain⟨bc,a9,c3,bb,c4⟩:=Ve ay.vD;have ba:=Ue h;have bj:=af h;clear h;go_enter ay.func164,Tryz.ntmps164
 go_wp2_with (at_make;refine Wb _ Y _ _ 22 Y w.heap.size 3 bc (.int .i64 0) 1 ay.underlying22 a9 c3 bb .i64 .i64 _ cn Y Y Y (by rw[c4];omega) (by unfold Uq;omega) (T8 _) ?_;intro cd b6 a8)
 have be:X (Kp r w cd):=(Kp.refl r w).grown a8 (by simp);have bl:X (cd.heap[r]? =I (cg s p)):=by show _=_;rw[a8.block r ba (by simp)];exact bj.o
 clear bj a8
 go_loopw [5] (λD wr=>∃(a:List Int) (d:List Nat),D= .slice (I ⟨w.heap.size,0,K⟩) a.length cn/\Lc (bytesOf s) p cn a d/\p+d.length<=s.size/\wr.heap[r]? =I (cg s (p+d.length))/\
  wr.ownsRow w.heap.size 3 1 (.slice (I ⟨w.heap.size,0,K⟩) a.length cn) a.length (bz a)/\Kp r w wr) (λD _=>match D with| .slice _ b _=>cn-b|_=>0)
 case atStart=>exact⟨[],[],rfl,Lc.zero _ _ _,by simpa using c0,by simpa using bl.o,b6,be.o⟩
 case round=>
  clear b6 be bl;obtain⟨a,d,rfl,a6,ca,bv,b5,a5⟩:=hrel;have k:=af a6;have az:=af bv;have P:=af a5;have al:=af b5;have dl:w.heap.size<=wr.heap.size:=a5.size;have cu:=a6.le;clear a6 bv a5 b5;by_cases l:a.length<cn
  ·go_wp2_with fail
   refine(jK r (p+d.length) s _ b2 ca az.o).mono ?_;rintro e dp ⟨S,⟨b,rfl,b3,cb,b1,bx⟩|⟨q,rfl,Z⟩⟩
   ·have G:=af (P.o.trans S);have av:=af (S.own al.o ba);have am:=af cb;have bm:=af bx;have ae:=af b3;clear S cb bx b3 al P az
    go_wp2_with fail
    refine(BI r (p+d.length+(aL b).length) s _ b2 b1 bm.o).mono ?_;rintro e dq ⟨T,⟨c,rfl,f,cc,bA,dc⟩|⟨q,rfl,Z⟩⟩
    ·have j:=af (G.o.trans T);have H:=af (T.own av.o ba);have bo:=af cc;have J:=af bA;have bd:=af f;clear T cc bA G av bm f;by_cases co:b=0\/cn-a.length<b
     ·have o:X (∀L:List Int,L.length=cn->nP L->¬ai (bytesOf s) p (cy L)):=by
       intro L y f B;obtain⟨ap,Q,m,a0,a1,ao,i,u,N,a2,a3⟩:=k.o.next l L y f B;have:=cA (by omega) (by have:=ae.o;omega) u am.o;omega
      go_wp2_with (go_at_call 97;refine(b8 r _ s _ J.o).mono ?_;rintro e w' ⟨rfl,rfl⟩)
      all_goals exact⟨rfl,j.o,.inr ⟨_,rfl,o.o⟩⟩
     ·have cR:b≠0:=by omega
      have b4:b+a.length<=cn:=by omega
      have dk:((b:Int)==0)=T7:=by simp;omega
      clear co;by_cases g:0<a.length/\a.getD (a.length-1) 0=c
      ·have o:X (∀L:List Int,L.length=cn->nP L->¬ai (bytesOf s) p (cy L)):=by
        intro L y f B;obtain⟨ap,Q,m,a0,a1,ao,i,u,N,a2,a3⟩:=k.o.next l L y f B;have M:=cA (by omega) (by have:=ae.o;omega) u am.o;subst M;have bu:Q=c:=by
         have a4:=bo.o;rw[dH] at N a4;rw[N] at a4;simp at a4;have:=bd.o;omega
        rw[sU g.1,g.2,bu] at i;rcases i with i|i
        ·rw[i] at g;simp at g
        ·exact i Y
       obtain⟨O,cs⟩:∃O,a.length=O+1:=⟨a.length-1,by omega⟩;have b0:=It H.o Y O (by omega);have W:a.getD O 0=c:=by rw[<-g.2,cs];rfl
       rw[W] at b0;clear g W;have bt:decide ((cn:Int)-(a.length:Int)<(b:Int))=T7:=by simp;omega
       have M:Vb ((cn:Int)-(a.length:Int))=(cn:Int)-(a.length:Int):=by unfold Vb;omega
       have bu:Vb ((a.length:Int)-1)=(O:Int):=by unfold Vb;omega
       have c7:(O:Int)<(a.length:Int):=by omega
       go_wp2_with (go_at_call 97;refine(b8 r _ s _ J.o).mono ?_;rintro e w' ⟨rfl,rfl⟩)
       exact⟨rfl,j.o,.inr ⟨_,rfl,o.o⟩⟩
      ·have cf:X (a=[]\/a.getLast? ≠I c):=by
        by_cases R:0<a.length
        ·right
         rw[sU R];intro e;simp only[U8] at e;exact g ⟨R,e⟩
        ·left
         exact We.1 (by omega)
       have bi:X (Lc (bytesOf s) p cn (a++VE b c) (d++(aL b++[c.toNat]))):=k.o.more cR (by omega) (by have:=ae.o;omega) bd.o cf.o am.o bo.o cp l;have bt:decide ((cn:Int)-(a.length:Int)<(b:Int))=T7:=by simp;omega
       have M:Vb ((cn:Int)-(a.length:Int))=(cn:Int)-(a.length:Int):=by unfold Vb;omega
       have dd:b<=100:=by omega
       clear b1;by_cases R:0<a.length
       ·have b0:=It H.o Y (a.length-1) (by omega);have W:a.getD (a.length-1) 0≠c:=λe=>g ⟨R,e⟩;generalize a.getD (a.length-1) 0=c6 at*;have c8:(c6==c)=T7:=by simp;exact W
        clear g W
        go_wp2_with fail
        go_loopw [5,46] (λD C E=>∃m:Nat,m<=b/\C= .int .i64 (m:Int)/\D= .slice (I ⟨w.heap.size,0,K⟩) (a.length+m) cn/\E.heap[r]? =I (cg s (p+d.length+(aL b).length+1))/\
         E.ownsRow w.heap.size 3 1 (.slice (I ⟨w.heap.size,0,K⟩) (a.length+m) cn) (a.length+m) (bz (a++VE m c))/\Kp r w E) (λ_ C _=>b-(US C).toNat)
        case atStart=>exact⟨0,UE _,rfl,rfl,J.o,by simpa using H.o,j.o⟩
        case round=>
         clear J H j;obtain⟨m,cx,rfl,rfl,V,A,x⟩:=hrel;have t:=af V;have n:=af x;have c1:=x.size;clear V x;by_cases cv:m<b
         ·go_wp2_with (at_builtin;refine VH _ Y _ _ 22 Y w.heap.size 3 bc 1 ay.underlying22 a9 bb w.heap.size (a.length+m) cn _ Y (A.alloc _) ⟨wr.heap.size,0,K⟩ 1 1 [.int .i64 c] Y Y (by exact gS _ _ _) ?c2 (by omega) ?_)
          case c2=>intro c5 ab;simp at ab;subst ab;rfl
          intro ad aa z;have ar:X (Kp r w ad):=(n.o.alloc _).grown z (by intro cl a7;simp at a7;omega);have aw:X (ad.heap[r]? =I (cg s (p+d.length+(aL b).length+1))):=by
           show _=_;rw[z.block r (by simp;omega) (by simp;omega),UN wr _ r (by omega)];exact t.o
          rw[Eu] at aa;clear A z n t;go_wp2
          go_roundw
          case rel=>exact⟨m+1,by omega,by go_num,by first|rfl|(rw[U5]),aw.o,by rw[<-U5];exact aa,ar.o⟩
          case measure=>simp[US];omega
         ·obtain rfl:m=b:=by omega
          go_wp2
          go_roundw
          case rel=>exact⟨a++VE m c,d++(aL m++[c.toNat]),by simp,bi.o,by simp;omega,by rw[show p+(d++(aL m++[c.toNat])).length=p+d.length+(aL m).length+1 by simp;omega];exact t.o,by simpa using A,n.o⟩
          case measure=>simp;omega
       ·obtain rfl:a=[]:=We.1 (by omega);have df:b<=cn:=by simpa using b4
        have c9:decide (cn<b)=T7:=by simp;omega
        have da:decide ((cn:Int)<(b:Int))=T7:=by simp;omega
        have db:0<cn:=by simpa using l
        clear g R bt M b4 cu l
        go_wp2_with fail
        go_loopw [5,46] (λD C E=>∃m:Nat,m<=b/\C= .int .i64 (m:Int)/\D= .slice (I ⟨w.heap.size,0,K⟩) m cn/\E.heap[r]? =I (cg s (p+d.length+(aL b).length+1))/\
         E.ownsRow w.heap.size 3 1 (.slice (I ⟨w.heap.size,0,K⟩) m cn) m (bz (VE m c))/\Kp r w E) (λ_ C _=>b-(US C).toNat)
        case atStart=>exact⟨0,UE _,rfl,rfl,J.o,H.o,j.o⟩
        case round=>
         clear J H j;obtain⟨m,cx,rfl,rfl,V,A,x⟩:=hrel;have t:=af V;have n:=af x;have c1:=x.size;clear V x;by_cases cv:m<b
         ·go_wp2_with (at_builtin;refine VH _ Y _ _ 22 Y w.heap.size 3 bc 1 ay.underlying22 a9 bb w.heap.size m cn _ Y (A.alloc _) ⟨wr.heap.size,0,K⟩ 1 1 [.int .i64 c] Y Y (by exact gS _ _ _) ?c2 (by omega) ?_)
          case c2=>intro c5 ab;simp at ab;subst ab;rfl
          intro ad aa z;have ar:X (Kp r w ad):=(n.o.alloc _).grown z (by intro cl a7;simp at a7;omega);have aw:X (ad.heap[r]? =I (cg s (p+d.length+(aL b).length+1))):=by
           show _=_;rw[z.block r (by simp;omega) (by simp;omega),UN wr _ r (by omega)];exact t.o
          rw[show bz (VE m c)++[.int .i64 c]=bz (VE (m+1) c) from Eu [] m c] at aa;clear A z n t;go_wp2
          go_roundw
          case rel=>exact⟨m+1,by omega,by go_num,rfl,aw.o,aa,ar.o⟩
          case measure=>simp[US];omega
         ·obtain rfl:m=b:=by omega
          go_wp2
          go_roundw
          case rel=>exact⟨VE m c,d++(aL m++[c.toNat]),by simp,by simpa using bi.o,by simp;omega,by rw[show p+(d++(aL m++[c.toNat])).length=p+d.length+(aL m).length+1 by simp;omega];exact t.o,by simpa using A,n.o⟩
          case measure=>simp;omega
    ·have o:X (∀L:List Int,L.length=cn->nP L->¬ai (bytesOf s) p (cy L)):=by
      intro L y f B;obtain⟨ap,Q,m,a0,a1,ao,i,u,N,a2,a3⟩:=k.o.next l L y f B;have M:=cA (by omega) (by have:=ae.o;omega) u am.o;subst M;exact Z Q ao N
     have j:=af (G.o.trans T);clear Z T G av;go_wp2;exact⟨rfl,j.o,.inr ⟨q,rfl,o.o⟩⟩
   ·have o:X (∀L:List Int,L.length=cn->nP L->¬ai (bytesOf s) p (cy L)):=by
     intro L y f B;obtain⟨ap,Q,m,a0,a1,ao,i,u,N,a2,a3⟩:=k.o.next l L y f B;exact Z ap (by omega) u
    have G:=af (P.o.trans S);clear Z S P al;go_wp2;exact⟨rfl,G.o,.inr ⟨q,rfl,o.o⟩⟩
  ·obtain⟨ck,br,bs⟩:=k.o.done l;have aq:=af br;have ci:=af bs;have bB:ai (bytesOf s) p d:=k.o.st;have ch:=af bB;clear br bs bB;go_wp2;go_ret;exact⟨P.o,.inl ⟨a,_,rfl,ck,k.o.bits,by rw[aq.o];exact ch.o,ci.o,by rw[aq.o];exact ca,by rw[aq.o];exact az.o,al.o⟩⟩
end Ec
namespace Pk
open Go.RowKit Pm
def Od(a:Nat)(h:a<=16):Vb ((2:Int)^a)=pw a:=by
 have c:=Cm a;have d:=Iu a h;have b:(2:Int)^a=pw a:=by unfold pw;push_cast;rfl
 rw[b];unfold Vb;omega
end Pk
end Go.Proofs.YtjidbonhhpkljaaGreat
namespace Go.Proofs.YtjidbonhhpkljaaGreat.Pm
def D7(v a b c:Nat)(h:c<=b):v%2^(a+b)/2^a%2^c=v/2^a%2^c:=by
 rw[Xk,Nat.mod_mul_right_div_self,show b=c+(b-c) by omega,Xk,Nat.mod_mul_right_mod]
def eJ (v b a i:Nat):Nat:=v%2^(8*a)/2^(b*i)
def JB(v b a i q:Nat)(h:8*a=b*i+q):eJ v b a i<2^q:=by
 unfold eJ;rw[Nat.div_lt_iff_lt_mul (Nat.pow_pos (by omega)),<-Xk,show q+b*i=8*a by omega];exact Nat.mod_lt _ (Nat.pow_pos (by omega))
def DW(v b a i q:Nat)(h:8*a=b*i+q):eJ v b (a+1) i=eJ v b a i+2^q*(v/256^a%256):=by
 unfold eJ;rw[show 8*(a+1)=8*a+8 by omega,Xk,Nat.mod_mul,Ck,show(2:Nat)^8=256 by rfl]
 conv=>lhs;rw[h,Xk,Nat.mul_assoc]
 rw[Nat.add_mul_div_left _ _ (Nat.pow_pos (by omega)),h,Xk]
def F5(v a b i:Nat)(q:Nat)(h:8*b=a*i+q)(c:a<=q):eJ v a b i%2^a=v/2^(a*i)%2^a:=by
 unfold eJ;rw[h,D7 _ _ _ _ c]
def DX(v a b i:Nat):eJ v a b i/2^a=eJ v a b (i+1):=by
 unfold eJ;rw[Nat.div_div_eq_div_mul,<-Xk,Nat.mul_succ]
def DY(v a:Nat):eJ v a 0 0=0:=by simp[eJ,Nat.mod_one]
end Go.Proofs.YtjidbonhhpkljaaGreat.Pm
namespace Go.Proofs.YtjidbonhhpkljaaGreat.Pk
open Go.RowKit Go.Proofs.YtjidbonhhpkljaaGreat.Pm
def eG (s:ByteArray)(p:Nat):Nat:=V ((bytesOf s).drop p)
def Gw(s:ByteArray)(p a:Nat)(h:p+a<s.size):s[p+a].toNat=eG s p/256^a%256:=by
 unfold eG;have c:∀b∈(bytesOf s).drop p,b<256:=λb d=>jA s b (List.mem_of_mem_drop d);rw[<-Sg _ a c,List.getElem?_drop,Um (by rw[aj];exact h),V2,vv s _ h]
def sr (s:ByteArray)(p a cn:Nat):Prop:=p+(cn*a+7)/8<=s.size/\eJ (eG s p) a ((cn*a+7)/8) cn=0
def Lt(b a:Nat)(d:a<=16)(g:b<16777216):bits .and .i64 (b:Int) (Vb (pw a-1))=((b%2^a:Nat):Int):=by
 have e:=Cm a;have f:=Iu a d;rw[show Vb (pw a-1)=pw a-1 from by unfold Vb;omega];have c:pw a=(2:Int)^a:=by unfold pw;push_cast;rfl
 rw[c,bits_mask .i64 62 (by decide) By a (by omega) (b:Int) (by omega) (by omega)]
 push_cast;rfl
def RG(a b:Nat):(a:Int)/2^b=((a/2^b:Nat):Int):=by push_cast;rfl
def za(s:ByteArray)(r p a cn:Nat)(w:F)(S:s.size<=Uq)(u:a<=16)(bj:cn<=100)(bs:p<=s.size)(h:w.heap[r]? =I (cg s p)):
 bH 177 #[.pointer (I ⟨r,0,K⟩),.int .i64 a,.int .i64 cn] w λe w'=>Kp r w w'/\
  ((e= .returned (.slice (I ⟨w.heap.size,0,K⟩) cn cn)/\sr s p a cn/\w'.heap[r]? =I (cg s (p+(cn*a+7)/8))/\
    w'.ownsRow w.heap.size 3 1 (.slice (I ⟨w.heap.size,0,K⟩) cn cn) cn (bz (jU (D a (eG s p) cn))))\/
   (∃q,e= .panicked (eD q)/\¬sr s p a cn)):=by
 obtain⟨ad,R,a9,ab,ba⟩:=Ve ay.vD;have W:r<w.heap.size:=Ue h;have bt:=Cm a;have bu:=Iu a u;have bv:=Od a u;have L:=af h;clear h;go_enter ay.func177,Tryz.ntmps177
 go_wp2_with (at_make;refine Wb _ Y _ _ 22 Y w.heap.size 3 ad (.int .i64 0) 1 ay.underlying22 R a9 ab .i64 .i64 _ cn Y Y Y (by rw[ba];omega) (by unfold Uq;omega) (T8 _) ?_;intro ae U B)
 have O:Kp r w ae:=(Kp.refl _ _).grown B (by simp);have M:X (ae.heap[r]? =I (cg s (p+0))):=by show _=_;rw[B.block r W (by simp)];exact L.o
 clear L B
 go_loopw [7,8,9,13] (λbc h q E wr=>∃(c b d:Nat),c<=cn/\E= .int .i64 c/\bc= .slice (I ⟨w.heap.size,0,K⟩) c cn/\q= .int .i64 d/\d<8/\8*b=a*c+d/\p+b<=s.size/\
  h= .int .i64 ((eJ (eG s p) a b c:Nat):Int)/\wr.heap[r]? =I (cg s (p+b))/\
  wr.ownsRow w.heap.size 3 1 (.slice (I ⟨w.heap.size,0,K⟩) c cn) c (bz (jU (D a (eG s p) c)))/\Kp r w wr) (λ_ _ _ E _=>cn-(US E).toNat)
 case atStart=>exact⟨0,0,0,UE _,rfl,rfl,rfl,by omega,by simp,by omega,by rw[DY];rfl,M.o,U,O⟩
 case round=>
  clear U O M;obtain⟨c,b,d,bm,rfl,rfl,rfl,V,i,t,rfl,v,l,f⟩:=hrel;have j:=af i;have g:=af v;clear i v;by_cases a6:c<cn
  ·have bo:a*(c+1)<=16*100:=Ws u (by omega);have a1:a*(c+1)<=a*cn:=Xi _ a6
   go_wp2_with fail
   go_loopw [8,9] (λh q wr=>∃(b d:Nat),q= .int .i64 d/\d<a+8/\8*b=a*c+d/\p+b<=s.size/\h= .int .i64 ((eJ (eG s p) a b c:Nat):Int)/\wr.heap[r]? =I (cg s (p+b))/\
    wr.ownsRow w.heap.size 3 1 (.slice (I ⟨w.heap.size,0,K⟩) c cn) c (bz (jU (D a (eG s p) c)))/\Kp r w wr) (λ_ q _=>a+8-(US q).toNat)
   case atStart=>exact⟨b,d,rfl,by omega,j.o,t,rfl,g.o,l,f⟩
   case round=>
    clear l f g j t V;obtain⟨b,d,rfl,V,i,t,rfl,v,l,f⟩:=hrel;have a4:=JB (eG s p) a b c d i;have J:=af (DW (eG s p) a b c d i);have H:=af (F5 (eG s p) a b c d i);have G:=af (DX (eG s p) a b c);have j:=af i;have g:=af v;have a3:eJ (eG s p) a b c<16777216:=by have k:2^d<=2^24:=VO (by omega) (by omega);omega
    clear i v;generalize eJ (eG s p) a b c=n at*;by_cases bx:d<a
    ·by_cases C:p+b<s.size
     ·have P:=af (Gw s p b C);have bA:s[p+b].toNat<256:=s[p+b].toNat_lt;have a7:=MZ n s[p+b].toNat d (by omega) (by omega) a4;rw[show n+2^d*s[p+b].toNat=eJ (eG s p) a (b+1) c from by rw[J.o,P.o]] at a7;have am:X (∀w,w.heap[r]? =I (cg s (p+b))->bH 129 #[.pointer (I ⟨r,0,K⟩)] w λe w'=>e= .returned (.int .u8 (s[p+b].toNat:Int))/\∃m,w'=(w.setCell ⟨r,1,K⟩ (.int .i64 ((p+b+1:Nat):Int))).drewN m):=
       λw u=>xf r (p+b) s w S C u
      clear P J H G;have ap:X (∃k,k=eJ (eG s p) a (b+1) c):=⟨_,rfl⟩;generalize Q:eJ (eG s p) a (b+1) c=k at*;have aq:=af Q;clear Q ap;generalize s[p+b].toNat=bB at*
      go_wp2_with (go_at_call 129;refine(am.o _ g.o).mono ?_;rintro e w' ⟨rfl,m,rfl⟩)
      go_roundw
      case rel=>exact⟨b+1,d+8,by go_num,by omega,by have:=j.o;omega,by omega,by rw[aq.o],lV g.o m,rJ (ownsRow_setCell_below l (by exact W) _) m,f.set _ _ m⟩
      case measure=>simp[US];omega
     ·have av:X (¬sr s p a cn):=by
       rintro⟨az,_⟩;have k:=j.o;rw[Nat.mul_succ] at a1;rw[Xx cn a] at az;omega
      go_wp2_with (go_at_call 129;refine(sM r (p+b) s _ S C t g.o).mono ?_;rintro e w' ⟨rfl,m,rfl⟩)
      exact⟨rfl,f.drewN m,.inr ⟨_,rfl,av.o⟩⟩
    ·have N:=Lt n a u a3;rw[H.o (by omega)] at N;have a8:=RG n a;rw[G.o] at a8;have ao:X (D a (eG s p) (c+1)=D a (eG s p) c++[eG s p/2^(a*c)%2^a]):=rfl;generalize eG s p/2^(a*c)%2^a=be at*
     go_wp2_with (at_builtin;refine VH _ Y _ _ 22 Y w.heap.size 3 ad 1 ay.underlying22 R ab w.heap.size c cn _ Y (l.alloc _) ⟨wr.heap.size,0,K⟩ 1 1 [.int .i64 (be:Int)] Y Y ?c1 ?c2 (by omega) ?_)
     case c1=>
      intro bb bd y
      match bb,y with
      |0,y=>simp at y;subst y;simp[Yr]
     case c2=>intro bd aa;simp at aa;subst aa;rfl
     ·intro al T A;have a0:Kp r w al:=(f.alloc _).grown A (by intro bi a2;simp at a2;omega);have aw:X (al.heap[r]? =I (cg s (p+b))):=by
       show _=_;rw[A.block r (by have:=f.size;simp;omega) (by simp;omega),UN wr _ r (by have:=f.size;omega)];exact g.o
      rw[eS] at T;clear l A f g N;go_wp2
      go_roundw
      case rel=>exact⟨c+1,b,d-a,by omega,by go_num,rfl,by go_num,by omega,by have:=j.o;rw[Nat.mul_succ];omega,t,rfl,aw.o,by rw[ao.o];simpa [jU] using T,a0⟩
      case measure=>simp[US];omega
  ·have a5:c=cn:=by omega
   subst a5;have o:b=(c*a+7)/8:=by have:=j.o;rw[Xx a c] at this;omega
   by_cases x:eJ (eG s p) a b c=0
   ·have z:X (sr s p a c):=⟨by rw[<-o];exact t,by rw[<-o];exact x⟩;rw[x];have ar:=af o;clear x o;go_wp2;go_ret;exact⟨f,.inl ⟨rfl,z.o,by rw[<-ar.o];exact g.o,l⟩⟩
   ·have z:X (¬sr s p a c):=by rintro⟨_,k⟩;rw[<-o] at k;exact x k
    have bl:0<eJ (eG s p) a b c:=by omega
    clear x o;generalize eJ (eG s p) a b c=n at*;have br:((n:Int) !=0)=Z:=by simp;omega
    go_wp2_with (go_at_call 97;refine(b8 r (p+b) s _ g.o).mono ?_;rintro e w' ⟨rfl,rfl⟩)
    exact⟨rfl,f,.inr ⟨_,rfl,z.o⟩⟩
end Go.Proofs.YtjidbonhhpkljaaGreat.Pk
namespace Go.Proofs.YtjidbonhhpkljaaGreat
namespace Ec
open Go.RowKit Pk Pm
def Sb(w:Nat):∀(a b:List Nat),(∀x∈a,x<2^w)->(∀x∈b,x<2^w)->a.length=b.length->N w a=N w b->a=b:=by
 intro a
 induction a with
 |nil=>intro b _ _ c _;exact(We.1 (by simpa using c.symm)).symm
 |cons x p o=>
  intro b g h c f;cases b with
  |nil=>simp at c
  |cons j i=>
   simp only[N] at f;have m:=g x (by simp);have n:=h j (by simp);have k:x=j:=by
    have:=congrArg (· % 2^w) f;simpa [Nat.add_mul_mod_self_left,Xu m,Xu n] using this
   subst k;have l:N w p=N w i:=Nat.eq_of_mul_eq_mul_left (Nat.pow_pos (n:=w) (show 0<2 by omega)) (by omega);rw[o i (λe d=>g e (by simp[d])) (λe d=>h e (by simp[d])) (by simpa using c) l]
def Bc(s:ByteArray)(p a:Nat):V (((bytesOf s).drop p).take a)=eG s p%2^(8*a):=by
 rw[QS _ _ (λc b=>jA s c (List.mem_of_mem_drop b)),Ck];rfl
def AW(v a b cn:Nat):eJ v a b cn=0↔v%2^(8*b)<2^(a*cn):=by
 unfold eJ;rw[Nat.div_eq_zero_iff];have:=Nat.pow_pos (n:=a*cn) (show 0<2 by omega);omega
def B0(a cn:Nat):a*cn<=8*((cn*a+7)/8):=by rw[Xx a cn];omega
def Ap(s:ByteArray)(p a cn:Nat)(g:p<=s.size)(h:sr s p a cn):ai (bytesOf s) p (cJ a (D a (eG s p) cn)):=by
 obtain⟨f,b⟩:=h;rw[AW] at b;have c:(((bytesOf s).drop p).take ((cn*a+7)/8)).length=(cn*a+7)/8:=by
  rw[Vs,Xa,aj];omega
 have:=tj a (D a (eG s p) cn) (((bytesOf s).drop p).take ((cn*a+7)/8)) (by rw[c,pu]) (λe d=>jA s e (List.mem_of_mem_drop (V5 d))) (by
  rw[Bc,SO,<-Nat.mod_mod_of_dvd (eG s p) (Nat.pow_dvd_pow 2 (B0 a cn)),Xu b])
 rw[<-this];exact List.take_prefix _ _
def lT(s:ByteArray)(p a:Nat)(ps:List Nat)(i:p<=s.size)(f:∀x∈ps,x<2^a)(h:ai (bytesOf s) p (cJ a ps)):sr s p a ps.length/\D a (eG s p) ps.length=ps:=by
 have e:=gJ h (by rw[aj];exact i);rw[eZ,aj] at e;have d:((bytesOf s).drop p).take ((ps.length*a+7)/8)=cJ a ps:=by
  obtain⟨j,d⟩:=h;rw[<-d,<-eZ a ps];simp
 have b:=Bc s p ((ps.length*a+7)/8);rw[d] at b;have c:=S2 a ps f;have g:V (cJ a ps)=N a ps:=by
  rw[Lp,cJ,SO,Xu];exact Ud c (VO (by omega) (B0 a ps.length))
 rw[g] at b;refine⟨⟨e,?_⟩,?_⟩
 ·rw[AW,<-b];exact c
 ·refine Sb a _ _ (QJ _ _ _) f (pu _ _ _) ?_;rw[SO,<-Nat.mod_mod_of_dvd (eG s p) (Nat.pow_dvd_pow 2 (B0 a ps.length)),<-b,Xu c]
def lN:Nat->List Nat->Option Nat
 |s,[]=>I s
 |s,a::b=>if a<s then lN s b else if a=s then lN (s+1) b else K
def oy(s:Nat)(a b:List Nat):lN s (a++b)=(lN s a).bind (λt=>lN t b):=by
 induction a generalizing s with
 |nil=>rfl
 |cons d e c=>
  simp only[Wd,lN]
  split
  ·exact c s
  ·split
   ·exact c _
   ·rfl
def xU{s t:Nat}{l:List Nat}(h:lN s l=I t):s<=t:=by
 induction l generalizing s with
 |nil=>simp[lN] at h;omega
 |cons b c a=>
  simp only[lN] at h
  split at h
  ·exact a h
  ·split at h
   ·have:=a h;omega
   ·cases h
def uh{s t:Nat}{l:List Nat}(h:lN s l=I t):∀q∈l,q<t:=by
 induction l generalizing s with
 |nil=>simp
 |cons q e b=>
  intro c a;simp only[lN] at h
  split at h
  ·rename_i d;have:=xU h;rcases VM.1 a with rfl|a
   ·omega
   ·exact b h c a
  ·split at h
   ·have:=xU h;rcases VM.1 a with rfl|a
    ·omega
    ·exact b h c a
   ·cases h
def z5(l:List Nat)(k:Nat)(a:k<l.length){t:Nat}(h:lN 0 (l.take k)=I t):lN 0 (l.take (k+1))=if l[k]<t then I t else if l[k]=t then I (t+1) else K:=by
 rw[Uo a,oy,h];rfl
def uj(l:List Nat)(k:Nat):lN 0 l=(lN 0 (l.take k)).bind (λt=>lN t (l.drop k)):=by
 rw[<-oy,List.take_append_drop]
def sV(d:List aE)(v:aE):idx d v<d.length↔v∈d:=by
 constructor
 ·intro b;rw[<-F7 d v b];exact Uj b
 ·intro b;obtain⟨a,f,rfl⟩:=Vv b;have:=F8 d d[a] a f;have c:Fi d[a] d[a]=Z:=nB.2 Y;by_cases e:a<idx d d[a]
  ·rw[this e] at c;cases c
  ·omega
def uC{d:List aE}(f:d.Nodup){i j:Nat}(b:i<d.length)(c:j<d.length)(h:d[i]=d[j]):i=j:=by
 have e:=List.pairwise_iff_getElem.1 f;rcases Nat.lt_trichotomy i j with a|a|a
 ·exact absurd h (e i j b c a)
 ·exact a
 ·exact absurd h.symm (e j i c b a)
def JC(d:List aE)(c:d.Nodup)(j:Nat)(e:j<d.length):idx d d[j]=j:=by
 have a:=(sV d _).2 (Uj e);have b:=F7 d d[j] a;exact uC c _ _ b
def FU(l:List aE)(v:aE):dfold (l++[v])=sO (dfold l) v:=by
 unfold dfold;rw[List.foldl_append];rfl
def L3(d:List aE)(n:d.Nodup)(z:aE)(ps:List Nat):∀k t,k<=ps.length->lN 0 (ps.take k)=I t->t<=d.length->dfold ((ps.take k).map (λq=>d.getD q z))=(d.take t,ps.take k):=by
 intro k
 induction k with
 |zero=>intro t _ a _;simp[lN] at a;subst a;simp[dfold]
 |succ k s=>
  intro t x a v;have p:k<ps.length:=by omega
  rw[uj (ps.take (k+1)) k,List.take_take,Nat.min_eq_left (by omega)] at a;cases e:lN 0 (ps.take k) with
  |none=>rw[e] at a;cases a
  |some b=>
   rw[e] at a;have u:(ps.take (k+1)).drop k=[ps[k]]:=by
    rw[Uo p,List.drop_append_of_le_length (by rw[Vs];omega)];simp
   simp only[XR,u,lN] at a;rw[Uo p,U0,Wp,FU];by_cases m:ps[k]<b
   ·rw[if_pos m] at a;cases a;rw[s t (by omega) e v];have g:ps[k]<d.length:=by omega
    have i:d.getD ps[k] z=d[ps[k]]:=by simp[Yw,g]
    have f:idx (d.take t) d[ps[k]]=ps[k]:=by
     have j:ps[k]<(d.take t).length:=by rw[Vs];omega
     have:=JC (d.take t) (n.sublist (List.take_sublist _ _)) ps[k] j;rwa [VF] at this
    unfold sO ins;rw[i,f,if_pos (by rw[Vs];omega),f]
   ·rw[if_neg m] at a;by_cases c:ps[k]=b
    ·rw[if_pos c] at a;cases a;rw[s b (by omega) e (by omega)];have g:b<d.length:=by omega
     have i:d.getD ps[k] z=d[b]:=by simp[Yw,c,g]
     have j:(d.take b).length=b:=by rw[Vs];omega
     have r:¬idx (d.take b) d[b]<(d.take b).length:=by
      rw[sV];intro f;obtain⟨y,w,l⟩:=Vv f;rw[VF] at l;have:=uC n _ _ l;omega
     have o:ins (d.take b) d[b]=d.take (b+1):=by
      unfold ins;rw[if_neg r,Uo g]
     have h:=xp (d.take b) d[b];unfold sO;simp only;rw[i,o];rw[o] at h;rw[h.1,h.2.2 r,j,c]
    ·rw[if_neg c] at a;cases a
def vz(l:List aE)(z:aE):(dfold l).1.Nodup/\lN 0 (dfold l).2=I (dfold l).1.length/\(dfold l).2.map (λq=>(dfold l).1.getD q z)=l:=by
 have r:∀a,a<=l.length->(dfold (l.take a)).1.Nodup/\lN 0 (dfold (l.take a)).2=I (dfold (l.take a)).1.length/\(dfold (l.take a)).2.map (λq=>(dfold (l.take a)).1.getD q z)=l.take a:=by
  intro a
  induction a with
  |zero=>intro _;simp[dfold,lN]
  |succ a p=>
   intro u;obtain⟨h,d,i⟩:=p (by omega);have g:a<l.length:=by omega
   have n:=uh d;rw[dfold_succ l a g];generalize dfold (l.take a)=b at*;have e:=xp b.1 l[a];unfold sO;by_cases c:idx b.1 l[a]<b.1.length
   ·have f:ins b.1 l[a]=b.1:=by unfold ins;rw[if_pos c]
    rw[f];refine⟨h,?_,?_⟩
    ·rw[oy,d];simp[lN,c]
    ·rw[U0,i,Uo g];congr 1;simp[Yw,c,F7 b.1 l[a] c]
   ·have f:ins b.1 l[a]=b.1++[l[a]]:=by unfold ins;rw[if_neg c]
    rw[f] at e ⊢;rw[e.1,e.2.2 c];refine⟨?_,?_,?_⟩
    ·rw[List.nodup_append];refine⟨h,by simp,?_⟩;intro s m t j k;simp at j;subst j;subst k;exact c ((sV _ _).2 m)
    ·rw[oy,d];simp[lN]
    ·rw[U0,Uo g];congr 1
     ·rw[<-i];apply List.map_congr_left;intro q o;have:=n q o;simp[Yw,Vw this]
     ·simp
 have:=r l.length (T8 _);rwa [Vf] at this
def Jt{k:Int}(T:k=1\/k=2\/k=3){s:ByteArray}{p cn n:Nat}{d:List aE}{ps:List Nat}(z:aE)(S:cn<=100)(U:n<=cn)(J:d.length=n)(H:∀x∈d,VK k x)(G:d.Nodup)(u:ps.length=cn)
 (hc:lN 0 ps=I n) (y:ai (bytesOf s) p (aL n)) (O:ai (bytesOf s) (p+(aL n).length) (aX k d)) (A:ai (bytesOf s) (p+(aL n).length+(aX k d).length) (cJ (wid n) ps))
 (u2:∀D:List aE,D.length=n->(∀x∈D,VK k x)->ai (bytesOf s) (p+(aL n).length) (aX k D)->D=d) (t:p+(aL n).length+(aX k d).length<=s.size):
 (ps.map λq=>d.getD q z).length=cn/\(∀x∈ps.map λq=>d.getD q z,VK k x)/\ey k (ps.map λq=>d.getD q z)=aL n++(aX k d++cJ (wid n) ps)/\ai (bytesOf s) p (ey k (ps.map λq=>d.getD q z))/\
   ∀L:List aE,L.length=cn->(∀x∈L,VK k x)->ai (bytesOf s) p (ey k L)->L=ps.map λq=>d.getD q z:=by
 have K:dfold (ps.map λq=>d.getD q z)=(d,ps):=by
  have:=L3 d G z ps ps.length n (T8 _) (by rw[Vf];exact hc) (by omega);rw[Vf,UO (by omega:d.length<=n)] at this;exact this
 have o:ey k (ps.map λq=>d.getD q z)=aL n++(aX k d++cJ (wid n) ps):=by
  unfold ey;rw[K,J]
 refine⟨by simp[u],?_,o,?_,?_⟩
 ·intro x a;obtain⟨q,N,rfl⟩:=U7.1 a;have V:=uh hc q N;have v:q<d.length:=by omega
  simp only[Yw,v,Um,V2];exact H _ (Uj v)
 ·rw[o,au,au];exact⟨y,O,A⟩
 ·intro L F M b;obtain⟨Q,R,i⟩:=vz L z;obtain⟨C,j,l,m⟩:=pQ L L.length (T8 _);rw[Vf] at C j l m;unfold ey at b;rw[au,au] at b;obtain⟨P,B,f⟩:=b;have g:(dfold L).1.length=n:=cA (by omega) (by omega) P y;rw[g] at B f;have h:(dfold L).1=d:=u2 _ g (λx a=>M x (m x a)) B;rw[h] at f;have r:∀(c:List Nat),(∀x∈c,x<n)->∀x∈c,x<2^wid n:=λc E x a=>tL n (by omega) x (E x a);have e:=(lT s _ (wid n) (dfold L).2 t (r _ (λx a=>by have:=l x a;omega)) f).2;have w:=(lT s _ (wid n) ps t (r _ (λx a=>uh hc x a)) A).2;rw[j,F] at e;rw[u] at w;rw[w] at e;rw[h,<-e] at i;exact i.symm
def VC (k:Int)(v:aE):Prop:=(v.null=Z/\v.n=0/\v.s=⟨#[]⟩)\/VK k v
def KV{k:Int}{v:aE}(c:k=1\/k=2\/k=3)(h:rC v)(a:fQ v k=Z):VC k v:=by
 cases b:v.null with
 |true=>
  unfold fQ at a;rw[b] at a;simp at a;exact .inl ⟨b,a.1,kP a.2⟩
 |false=>exact .inr (KW c b h a)
def E2{k:Int}{l:List aE}(h:∀x∈l,VC k x):∀x∈there l,VK k x:=by
 intro x a;unfold there at a;rw[List.mem_filter] at a;rcases h x a.1 with⟨b,_⟩|h
 ·rw[b] at a;simp at a
 ·exact h
def Pr{k:Int}:∀(a b:List aE),(∀x∈a,VC k x)->(∀x∈b,VC k x)->a.map nL=b.map nL->there a=there b->a=b:=by
 intro a
 induction a with
 |nil=>intro b _ _ f _;simp at f;exact f.symm
 |cons x y z=>
  intro b t u g s;cases b with
  |nil=>simp at g
  |cons e j=>
   simp only[Xw,Xj] at g;have w:x.null=e.null:=by
    have:=g.1;unfold nL at this;cases c:x.null<;>cases d:e.null<;>simp[c,d] at this<;>rfl
   have v:=λf=>z j (λl i=>t l (by simp[i])) (λl i=>u l (by simp[i])) g.2 f;cases c:x.null with
   |true=>
    have d:e.null=Z:=by rw[<-w];exact c
    have h:there y=there j:=by simpa [there,c,d] using s
    rw[v h];congr 1;rcases t x (by simp) with⟨m,n,o⟩|a
    ·rcases u e (by simp) with⟨p,q,r⟩|b
     ·cases x;cases e;simp at m n o p q r;simp[m,n,o,p,q,r]
     ·rw[b.there] at d;cases d
    ·rw[a.there] at c;cases c
   |false=>
    have d:e.null=T7:=by rw[<-w];exact c
    have h:x=e/\there y=there j:=by simpa [there,c,d] using s
    rw[h.1,v h.2]
def mL (b:List Int):Nat:=(b.filter λa=>a !=0).length
def zI(l:List aE):(there l).length=mL (l.map nL):=by
 unfold there mL
 induction l with
 |nil=>rfl
 |cons c d b=>
  cases a:c.null with
  |true=>simp[a,nL];simpa [nL] using b
  |false=>simp[a,nL];simpa [nL] using b
def yD(l:List aE):nP (l.map nL):=by
 intro c a;obtain⟨b,_,rfl⟩:=U7.1 a;unfold nL
 split
 ·exact .inl Y
 ·exact .inr Y
def Dz{k e:Int}{s:ByteArray}{p cn:Nat}{l:List aE}(j:l.length=cn)(g:∀x∈l,VC k x)
 (h:ai (bytesOf s) p (cy (l.map nL))) (u1:∀L:List Int,L.length=cn->nP L->ai (bytesOf s) p (cy L)->L=l.map nL)
 (i:ai (bytesOf s) (p+(cy (l.map nL)).length) (dV k e (there l))) (u2:∀L:List aE,L.length=mL (l.map nL)->(∀x∈L,VK k x)->ai (bytesOf s) (p+(cy (l.map nL)).length) (dV k e L)->L=there l):
 ai (bytesOf s) p (bK k e l)/\∀L:List aE,L.length=cn->(∀x∈L,VC k x)->ai (bytesOf s) p (bK k e L)->L=l:=by
 refine⟨by unfold bK;rw[au];exact⟨h,i⟩,?_⟩;intro L f c a;unfold bK at a;rw[au] at a;have b:=u1 (L.map nL) (by simpa using f) (yD L) a.1;rw[b] at a;have d:=u2 (there L) (by rw[zI,b]) (E2 c) a.2;exact Pr L l c g b d
def eX(l:List aE)(x:aE):aH l++[.bool x.null,.int .i64 x.n,.string x.s]=aH (l++[x]):=by rw[js,mW]
def rL(k:Int)(z:k=1\/k=2\/k=3)(s:ByteArray)(r p cn:Nat)(w:F)(ar:s.size<=Uq)(a9:cn<=100)(a2:p<=s.size)(h:w.heap[r]? =I (cg s p)):
 bH 173 #[.pointer (I ⟨r,0,K⟩),.int .i64 k,.int .i64 cn] w λe w'=>Kp r w w'/\
  ((∃(l:List aE) (v:U),e= .returned v/\l.length=cn/\(∀x∈l,VK k x)/\ai (bytesOf s) p (aX k l)/\(∀L:List aE,L.length=cn->(∀x∈L,VK k x)->ai (bytesOf s) p (aX k L)->L=l)/\p+(aX k l).length<=s.size/\
    w'.heap[r]? =I (cg s (p+(aX k l).length))/\w'.ownsRow w.heap.size 59 3 v l.length (aH l))\/
   (∃q,e= .panicked (eD q)/\∀L:List aE,L.length=cn->(∀x∈L,VK k x)->¬ai (bytesOf s) p (aX k L))):=by
 obtain⟨H,y,a5,G,a6⟩:=Ve ay.mJ;have C:=Ue h;have T:=af h;go_enter ay.func173,Tryz.ntmps173
 go_wp2_with (at_make;refine Wb _ Y _ _ 43 Y w.heap.size 59 H _ 3 ay.underlying43 y a5 G .i64 .i64 _ cn Y Y Y (by rw[a6];omega) (by unfold Uq;omega) (T8 _) ?_;intro J a0 t)
 have O:X (Kp r w J):=(Kp.refl r w).grown t (by simp);have V:X (J.heap[r]? =I (cg s p)):=by show _=_;rw[t.block r C (by simp)];exact T.o
 go_loopw [7,11] (λa7 g wr=>∃l:List aE,g= .int .i64 (l.length:Int)/\a7= .slice (I ⟨w.heap.size,0,K⟩) l.length cn/\AA (aX k) (VK k) (bytesOf s) p cn l/\p+(aX k l).length<=s.size/\wr.heap[r]? =I (cg s (p+(aX k l).length))/\
  wr.ownsRow w.heap.size 59 3 (.slice (I ⟨w.heap.size,0,K⟩) l.length cn) l.length (aH l)/\Kp r w wr) (λ_ g _=>cn-(US g).toNat)
 case atStart=>exact⟨[],rfl,rfl,AA.zero Y,by simpa [aX] using a2,by simpa [aX] using V.o,a0,O.o⟩
 case round=>
  obtain⟨l,rfl,rfl,o,B,am,az,n⟩:=hrel;have a:=af o;have m:=af am;have c:=af n;have j:=af az;have bb:w.heap.size<=wr.heap.size:=n.size;have ba:=o.le;by_cases f:l.length<cn
  ·go_wp2_with fail
   refine(j4 k z r (p+(aX k l).length) s _ ar B m.o).mono ?_;rintro e i ⟨d,⟨x,rfl,E,D,aq,ao⟩|⟨q,rfl,av⟩⟩
   ·have b:=af (c.o.trans d);have a1:=d.own j.o C;have R:X (AA (aX k) (VK k) (bytesOf s) p cn (l++[x])):=a.o.more (e:=λ_ v=>bf k v) (lU k) f E D (λbd a4 a3=>l7 z a4 E a3 D);have W:X (i.heap[r]? =I (cg s (p+(aX k (l++[x])).length))):=by
     show _=_;rw[lU,Ua,<-U5];exact ao
    have Q:X (p+(aX k (l++[x])).length<=s.size):=by
     show _<=_;rw[lU,Ua,<-U5];exact aq
    have bc:=b.o.size
    go_wp2_with (at_builtin;refine VH _ Y _ _ 43 Y w.heap.size 59 H 3 ay.underlying43 y G w.heap.size l.length cn _ Y (a1.alloc _) ⟨i.heap.size,0,K⟩ 1 1 [.bool x.null,.int .i64 x.n,.string x.s] Y Y (by exact jr _ _ _ _ _) (fC x) (by omega) ?_;intro M A u)
    have P:X (Kp r w M):=(b.o.alloc _).grown u (by intro a8 ap;simp at ap;omega);have Z:X (M.heap[r]? =I (cg s (p+(aX k (l++[x])).length))):=by
     show _=_;rw[u.block r (by simp;omega) (by simp;omega),UN i _ r (by omega)];exact W.o
    rw[eX] at A;go_wp2
    go_roundw
    case rel=>exact⟨l++[x],by rw[Ua];rfl,by rw[Ua];rfl,R.o,Q.o,Z.o,by rw[Ua];exact A,P.o⟩
    case measure=>simp[US];omega
   ·have S:X (∀L:List aE,L.length=cn->(∀x∈L,VK k x)->¬ai (bytesOf s) p (aX k L)):=λL al aw=>a.o.fail (e:=λ_ v=>bf k v) (lU k) f av L al aw;have b:=af (c.o.trans d);go_wp2;exact⟨rfl,b.o,.inr ⟨q,rfl,S.o⟩⟩
  ·obtain⟨ad,ae⟩:=a.o.done f;have ab:=af ae;have aa:=af a.o.st;have N:=af ad;go_wp2;go_ret;exact⟨c.o,.inl ⟨l,_,rfl,N.o,a.o.Rn,aa.o,ab.o,B,m.o,j.o⟩⟩
def rR (a d:Int):aE:=⟨T7,Vb (a+d),⟨#[]⟩⟩
def EZ(a d:Int):VK 1 (rR a d):=⟨rfl,(gK _).1,(gK _).2,λ_=>rfl,λb=>by omega,λb=>by omega⟩
def KJ(a:Int)(v:aE)(b:VK 1 v):aL (zz (Vb ((rR a v.n).n-a)))=bf 1 v:=by
 show aL (zz (Vb (Vb (a+v.n)-a)))=aL (zz v.n);rw[C4 a v.n b.lo b.hi]
def Ar(s:ByteArray)(r p cn:Nat)(w:F)(bb:s.size<=Uq)(bo:cn<=100)(bd:p<=s.size)(h:w.heap[r]? =I (cg s p)):
 bH 170 #[.pointer (I ⟨r,0,K⟩),.int .i64 cn] w λe w'=>Kp r w w'/\
  ((∃(l:List aE) (v:U),e= .returned v/\l.length=cn/\(∀x∈l,VK 1 x)/\ai (bytesOf s) p (bS 0 l)/\(∀L:List aE,L.length=cn->(∀x∈L,VK 1 x)->ai (bytesOf s) p (bS 0 L)->L=l)/\p+(bS 0 l).length<=s.size/\
    w'.heap[r]? =I (cg s (p+(bS 0 l).length))/\w'.ownsRow w.heap.size 59 3 v l.length (aH l))\/
   (∃q,e= .panicked (eD q)/\∀L:List aE,L.length=cn->(∀x∈L,VK 1 x)->¬ai (bytesOf s) p (bS 0 L))):=by
 obtain⟨aq,T,bi,ap,bj⟩:=Ve ay.mJ;have al:r<w.heap.size:=Ue h;have G:=af h;have br:∀(a7 N a8:U) (w:F),(Instr.field 59 (.agg #[a7,N,a8]) 1).run (aB T4) w= .ok N w:=λ_ _ _ _=>by first|rfl|kernel_rfl
 have o:X (∀(l:List aE) (x:aE),bS 0 (l++[x])=bS 0 l++aL (zz (Vb (x.n-eU 0 l)))):=vw 0;clear h;go_enter ay.func170,Tryz.ntmps170
 go_wp2_with (at_make;refine Wb _ Y _ _ 43 Y w.heap.size 59 aq _ 3 ay.underlying43 T bi ap .i64 .i64 _ cn Y Y Y (by rw[bj];omega) (by unfold Uq;omega) (T8 _) ?_;intro ar aa y)
 have E:X (Kp r w ar):=(Kp.refl r w).grown y (by simp);have H:X (ar.heap[r]? =I (cg s p)):=by show _=_;rw[y.block r al (by simp)];exact G.o
 clear G y
 go_loopw [5,6,10] (λbl k D wr=>∃l:List aE,D= .int .i64 (l.length:Int)/\k= .int .i64 (eU 0 l)/\bl= .slice (I ⟨w.heap.size,0,K⟩) l.length cn/\AA (bS 0) (VK 1) (bytesOf s) p cn l/\p+(bS 0 l).length<=s.size/\wr.heap[r]? =I (cg s (p+(bS 0 l).length))/\
  wr.ownsRow w.heap.size 59 3 (.slice (I ⟨w.heap.size,0,K⟩) l.length cn) l.length (aH l)/\Kp r w wr) (λ_ _ D _=>cn-(US D).toNat)
 case atStart=>exact⟨[],rfl,rfl,rfl,AA.zero Y,by simpa [bS] using bd,by simpa [bS] using H.o,aa,E.o⟩
 case round=>
  clear aa E H;obtain⟨l,rfl,rfl,rfl,u,ae,R,Z,t⟩:=hrel;have a:=af u;have n:=af R;have c:=af t;have i:=af Z;have bt:w.heap.size<=wr.heap.size:=t.size;have bs:=u.le;clear u R t Z;by_cases A:l.length<cn
  ·go_wp2_with fail
   refine(j4 1 (.inl Y) r (p+(bS 0 l).length) s _ bb ae n.o).mono ?_;rintro e b ⟨f,⟨x,rfl,am,C,V,S⟩|⟨q,rfl,W⟩⟩
   ·have d:X (Kp r w b):=c.o.trans f;have ab:b.ownsRow w.heap.size 59 3 (.slice (I ⟨w.heap.size,0,K⟩) l.length cn) l.length (aH l):=f.own i.o al;have j:=KJ (eU 0 l) x am;have a2:X (AA (bS 0) (VK 1) (bytesOf s) p cn (l++[rR (eU 0 l) x.n])):=
     a.o.more (e:=λl v=>aL (zz (Vb (v.n-eU 0 l)))) o.o A (EZ _ _) (by show ai _ _ (aL (zz (Vb ((rR (eU 0 l) x.n).n-eU 0 l))));rw[j];exact C) (λg ao B=>Jr ao (EZ _ _) B (by rw[j];exact C))
    have m:X ((bS 0 (l++[rR (eU 0 l) x.n])).length=(bS 0 l).length+(bf 1 x).length):=by
     show _=_;rw[o.o,Ua,j]
    have J:X (b.heap[r]? =I (cg s (p+(bS 0 (l++[rR (eU 0 l) x.n])).length))):=by
     show _=_;rw[m.o,<-U5];exact S
    have a0:X (p+(bS 0 (l++[rR (eU 0 l) x.n])).length<=s.size):=by
     show _<=_;rw[m.o,<-U5];exact V
    have a1:X (eU 0 (l++[rR (eU 0 l) x.n])=Vb (eU 0 l+x.n)):=yC _ _ _;have M:X (∀v,v=[WN T7,.int .i64 (Vb (eU 0 l+x.n)),.string ⟨#[]⟩]->aH l++v=aH (l++[rR (eU 0 l) x.n])):=by
     intro v be;rw[be,<-eX];rfl
    have bu:=d.o.size;clear f C S V am i c n a j m;generalize rR (eU 0 l) x.n=g at*;generalize eU 0 l=k at*;generalize x.n=O at*
    go_wp2_with (at_builtin;refine VH _ Y _ _ 43 Y w.heap.size 59 aq 3 ay.underlying43 T ap w.heap.size l.length cn _ Y (ab.alloc _) ⟨b.heap.size,0,K⟩ 1 1 [.bool T7,.int .i64 (Vb (k+O)),.string ⟨#[]⟩] Y Y (by exact jr _ _ _ _ _) (fC ⟨T7,Vb (k+O),⟨#[]⟩⟩) (by omega) ?_;intro av ad z)
    have az:X (Kp r w av):=(d.o.alloc _).grown z (by intro bm ba;simp at ba;omega);have a4:X (av.heap[r]? =I (cg s (p+(bS 0 (l++[g])).length))):=by
     show _=_;rw[z.block r (by simp;omega) (by simp;omega),UN b _ r (by omega)];exact J.o
    rw[M.o _ Y] at ad;clear ab z d J M;go_wp2
    go_roundw
    case rel=>exact⟨l++[g],by rw[Ua];rfl,by rw[a1.o],by rw[Ua];rfl,a2.o,a0.o,a4.o,by rw[Ua];exact ad,az.o⟩
    case measure=>simp[US];omega
   ·have a3:X (∀L:List aE,L.length=cn->(∀x∈L,VK 1 x)->¬ai (bytesOf s) p (bS 0 L)):=λL a9 bc=>a.o.fail (e:=λl v=>aL (zz (Vb (v.n-eU 0 l)))) o.o A (λg ao B=>W ⟨T7,Vb (g.n-eU 0 l),⟨#[]⟩⟩ ⟨rfl,(gK _).1,(gK _).2,λ_=>rfl,λh=>by omega,λh=>by omega⟩ B) L a9 bc;have d:X (Kp r w b):=c.o.trans f;clear W f c i;go_wp2;exact⟨rfl,d.o,.inr ⟨q,rfl,a3.o⟩⟩
  ·obtain⟨P,Q⟩:=a.o.done A;have a6:=af Q;have a5:=af a.o.st;have aw:=af P;clear Q P;go_wp2;go_ret;exact⟨c.o,.inl ⟨l,_,rfl,aw.o,a.o.Rn,a5.o,a6.o,ae,n.o,i.o⟩⟩
def BH (z:Int):aE:=⟨T7,z,⟨#[]⟩⟩
def CZ(c:U)(b:List Int)(w:F)(S:b.length<=100)(G:rA w c b):
 bH 172 #[c] w λe w'=>aP w w'/\∃v,e= .returned v/\w'.ownsRow w.heap.size 59 3 v b.length (aH (b.map BH)):=by
 obtain⟨n,k,H,m,J⟩:=Ve ay.mJ;obtain⟨N,i,o,O,rfl,u,x,y⟩:=G;have q:=af y;go_enter ay.func172,Tryz.ntmps172
 go_wp2_with (at_make;refine Wb _ Y _ _ 43 Y w.heap.size 59 n _ 3 ay.underlying43 k H m .i64 .i64 _ b.length Y Y Y (by rw[J];omega) (by unfold Uq;omega) (T8 _) ?_;intro L D B)
 have r:X (aP w L):=(Up _ _).grown B (T8 _) (by simp)
 go_loopw [3,11] (λc h wr=>∃a:Nat,a<=b.length/\h= .int .i64 (a:Int)/\c= .slice (I ⟨w.heap.size,0,K⟩) a b.length/\wr.ownsRow w.heap.size 59 3 (.slice (I ⟨w.heap.size,0,K⟩) a b.length) a (aH ((b.take a).map BH))/\aP w wr) (λ_ h _=>b.length-(US h).toNat)
 case atStart=>exact⟨0,UE _,rfl,rfl,by simpa [aH] using D,r.o⟩
 case round=>
  obtain⟨a,R,rfl,rfl,g,j⟩:=hrel;have d:=af j;have E:=j.size;by_cases f:a<b.length
  ·obtain rfl:=u (by omega);have z:=x (by omega);have Q:aM wr i (o+a) (.int .i64 (b.getD a 0)):=(d.o.cell (p:=⟨i,o+a,K⟩) z).trans (q.o a f);have t:X (aH ((b.take a).map BH)++[.bool T7,.int .i64 (b.getD a 0),.string ⟨#[]⟩]=aH ((b.take (a+1)).map BH)):=by
    show _=_;rw[Uo f,U0,Wp,<-eX,fh f];rfl
   generalize b.getD a 0=p at*
   go_wp2_with (at_builtin;refine VH _ Y _ _ 43 Y w.heap.size 59 n 3 ay.underlying43 k m w.heap.size a b.length _ Y (g.alloc _) ⟨wr.heap.size,0,K⟩ 1 1 [.bool T7,.int .i64 p,.string ⟨#[]⟩] Y Y (by exact jr _ _ _ _ _) (fC ⟨T7,p,⟨#[]⟩⟩) (by omega) ?_;intro M l C)
   have s:X (aP w M):=(d.o.alloc E _).grown C (by simp;omega) (by intro P A;simp at A;omega);rw[t.o] at l;go_wp2
   go_roundw
   case rel=>exact⟨a+1,by omega,by go_num,rfl,l,s.o⟩
   case measure=>simp[US];omega
  ·obtain rfl:a=b.length:=by omega
   rw[Vf] at g;go_wp2;go_ret;exact⟨d.o,_,rfl,g⟩
def Ir(a:List Int):mL a<=a.length:=List.length_filter_le _ _
def qJ(a:List Int)(d:nP a)(k:Nat)(b:k<a.length):((mL (a.take (k+1)):Nat):Int)=(mL (a.take k):Nat)+a.getD k 0:=by
 rw[Uo b,fh b];unfold mL;rw[List.filter_append,Ua];rcases d _ (Uj b) with c|c<;>simp[c]
def Aa(k:U)(b:List Int)(w:F)(A:b.length<=100)(g:nP b)(r:rA w k b):
 bH 166 #[k] w λe w'=>e= .returned (.int .i64 ((mL b:Nat):Int))/\w'=w:=by
 obtain⟨s,t,C,u,rfl,p,v,f⟩:=r;have l:=af f;have m:X (∀a,a<b.length->((mL (b.take (a+1)):Nat):Int)=(mL (b.take a):Nat)+b.getD a 0):=λa h=>qJ b g a h;have d:X (∀a,mL (b.take a)<=a):=λa=>by have:=Ir (b.take a);rw[Vs] at this;omega
 clear f g;go_enter ay.func166,Tryz.ntmps166
 go_wp2_with fail
 go_loopw [3,8] (λo c wr=>∃a:Nat,a<=b.length/\c= .int .i64 (a:Int)/\o= .int .i64 ((mL (b.take a):Nat):Int)/\wr=w) (λ_ c _=>b.length-(US c).toNat)
 case atStart=>exact⟨0,UE _,rfl,by simp[mL],rfl⟩
 case round=>
  obtain⟨a,h,rfl,rfl,rfl⟩:=hrel;by_cases i:a<b.length
  ·obtain rfl:=p (by omega);have x:=l.o a i;have q:=m.o a i;have y:=d.o a;have z:=d.o (a+1);generalize b.getD a 0=E at*;generalize mL (b.take a)=B at*;generalize j:mL (b.take (a+1))=D at*;have n:=af j;clear j;go_wp2
   go_roundw
   case rel=>exact⟨a+1,by omega,by go_num,by rw[n.o,q],by trivial⟩
   case measure=>simp[US];omega
  ·obtain rfl:a=b.length:=by omega
   rw[Vf];go_wp2;go_ret;exact⟨rfl,rfl⟩
def Dx{ps:List Nat}{k:Nat}(h:lN 0 (ps.take k)=K):lN 0 ps=K:=by rw[uj ps k,h];rfl
def OD{ps:List Nat}{k t n:Nat}(h:lN 0 (ps.take k)=I t)(b:n<t):lN 0 ps≠I n:=by
 rw[uj ps k,h];intro a;have:=xU (show lN t (ps.drop k)=I n from a);omega
def wJ(s:ByteArray)(r p n:Nat)(z:U)(ps:List Nat)(w:F)(T:n<=100)(S:ps.length<=100)(D:∀q∈ps,q<65536)(H:rA w z (jU ps))(h:w.heap[r]? =I (cg s p)):
 bH 178 #[.pointer (I ⟨r,0,K⟩),z,.int .i64 n] w λe w'=>w'=w/\((e= .returned (.tuple #[])/\lN 0 ps=I n)\/(∃q,e= .panicked (eD q)/\lN 0 ps≠I n)):=by
 have v:=af h;obtain⟨M,B,J,N,rfl,x,C,y⟩:=H;have i:(jU ps).length=ps.length:=by simp[jU]
 rw[i] at x C ⊢;have A:X (∀f,(m:f<ps.length)->aM w B (J+f) (.int .i64 (ps[f]:Int))):=λf m=>by
  have:=y f (by rw[i];exact m);rw[fh (by rw[i];exact m)] at this;simpa [jU] using this
 clear y h i;go_enter ay.func178,Tryz.ntmps178
 go_wp2_with fail
 go_loopw [6,11] (λL t wr=>∃a b:Nat,a<=ps.length/\t= .int .i64 (a:Int)/\L= .int .i64 (b:Int)/\b<=n/\lN 0 (ps.take a)=I b/\wr=w) (λ_ t _=>ps.length-(US t).toNat)
 case atStart=>exact⟨0,0,UE _,rfl,rfl,UE _,rfl,rfl⟩
 case round=>
  obtain⟨a,b,R,rfl,rfl,G,d,rfl⟩:=hrel;have j:=af d;clear d;by_cases o:a<ps.length
  ·obtain rfl:=x (by omega);have Q:=A.o a o;have g:=af (z5 ps a o j.o);have W:=D _ (Uj o);generalize ps[a]=q at*;by_cases P:b<q\/n<=q
   ·have k:X (lN 0 ps≠I n):=by
     by_cases O:b<q
     ·have c:=g.o;rw[if_neg (by omega),if_neg (by omega)] at c;show _≠_;rw[Dx c];simp
     ·have c:=g.o;rw[if_neg (by omega),if_pos (by omega)] at c;exact OD c (by omega)
    go_wp2_with (go_at_call 97;refine(b8 r p s _ v.o).mono ?_;rintro e w' ⟨rfl,rfl⟩)
    all_goals exact⟨rfl,rfl,.inr ⟨_,rfl,k.o⟩⟩
   ·by_cases E:q=b
    ·subst E;have l:X (lN 0 (ps.take (a+1))=I (q+1)):=by
      have c:=g.o;rw[if_neg (by omega),if_pos Y] at c;exact c
     go_wp2
     go_roundw
     case rel=>exact⟨a+1,q+1,by omega,by go_num,by go_num,by omega,l.o,by trivial⟩
     case measure=>simp[US];omega
    ·have l:X (lN 0 (ps.take (a+1))=I b):=by
      have c:=g.o;rw[if_pos (by omega)] at c;exact c
     have V:((q:Int)==(b:Int))=T7:=by simp;omega
     go_wp2
     go_roundw
     case rel=>exact⟨a+1,b,by omega,by go_num,rfl,G,l.o,by trivial⟩
     case measure=>simp[US];omega
  ·obtain rfl:a=ps.length:=by omega
   have d:=j.o;rw[Vf] at d;have u:=af d;clear d j;by_cases Z:b<n
   ·have k:X (lN 0 ps≠I n):=by
     show _≠_;rw[u.o];simp;omega
    go_wp2_with (go_at_call 97;refine(b8 r p s _ v.o).mono ?_;rintro e w' ⟨rfl,rfl⟩)
    exact⟨rfl,rfl,.inr ⟨_,rfl,k.o⟩⟩
   ·obtain rfl:b=n:=by omega
    go_wp2
    go_end0
    exact⟨rfl,.inl ⟨rfl,u.o⟩⟩
def kB{k:Int}{s:ByteArray}{p cn:Nat}{L:List aE}(m:cn<=100)(hL:L.length=cn)(i:∀x∈L,VK k x)(a:ai (bytesOf s) p (ey k L)):
 ∃(d:List aE) (ps:List Nat),d.length<=cn/\(∀x∈d,VK k x)/\d.Nodup/\ps.length=cn/\lN 0 ps=I d.length/\ai (bytesOf s) p (aL d.length)/\ai (bytesOf s) (p+(aL d.length).length) (aX k d)/\
  ai (bytesOf s) (p+(aL d.length).length+(aX k d).length) (cJ (wid d.length) ps):=by
 obtain⟨c,e,l⟩:=vz L ⟨T7,0,⟨#[]⟩⟩;obtain⟨f,g,h,b⟩:=pQ L L.length (T8 _);rw[Vf] at f g h b;unfold ey at a;rw[au,au] at a;exact⟨(dfold L).1,(dfold L).2,by omega,λx j=>i x (b x j),c,by omega,e,a.1,a.2.1,a.2.2⟩
def wQ(k:Int)(a1:k=1\/k=2\/k=3)(s:ByteArray)(r p cn:Nat)(w:F)(a3:s.size<=Uq)(G:cn<=100)(b3:p<=s.size)(h:w.heap[r]? =I (cg s p)):
 bH 176 #[.pointer (I ⟨r,0,K⟩),.int .i64 k,.int .i64 cn] w λe w'=>Kp r w w'/\
  ((∃(d:List aE) (v:U),e= .returned v/\d.length<=cn/\(∀x∈d,VK k x)/\d.Nodup/\ai (bytesOf s) p (aL d.length)/\ai (bytesOf s) (p+(aL d.length).length) (aX k d)/\
    (∀D:List aE,D.length=d.length->(∀x∈D,VK k x)->ai (bytesOf s) (p+(aL d.length).length) (aX k D)->D=d)/\p+(aL d.length).length+(aX k d).length<=s.size/\
    w'.heap[r]? =I (cg s (p+(aL d.length).length+(aX k d).length))/\w'.ownsRow w.heap.size 59 3 v d.length (aH d))\/
   (∃q,e= .panicked (eD q)/\∀L:List aE,L.length=cn->(∀x∈L,VK k x)->¬ai (bytesOf s) p (ey k L))):=by
 have cx:=Ue h;have bb:=af h;have cu:= @run_makeMap (aB T4);go_enter ay.func176,Tryz.ntmps176
 go_wp2_with fail
 refine(jK r p s _ a3 b3 bb.o).mono ?_;rintro e c4 ⟨T,⟨b,rfl,b1,b4,bA,bj⟩|⟨q,rfl,Z⟩⟩
 ·have y:=af T;have C:=af b4;have al:=af bj;have M:=af b1;have a6:=T.size;by_cases cl:cn<b
  ·have f:X (∀L:List aE,L.length=cn->(∀x∈L,VK k x)->¬ai (bytesOf s) p (ey k L)):=by
    intro L j l m;obtain⟨d,aa,P,A,E,Q,R,g,i,S⟩:=kB G j l m;have:=cA (by omega) (by have:=M.o;omega) g C.o;omega
   go_wp2_with (go_at_call 97;refine(b8 r _ s _ al.o).mono ?_;rintro e w' ⟨rfl,rfl⟩)
   exact⟨rfl,y.o,.inr ⟨_,rfl,f.o⟩⟩
  ·go_wp2_with fail
   refine(rL k a1 s r (p+(aL b).length) b _ a3 (by omega) bA al.o).mono ?_;rintro e c ⟨az,⟨d,v,rfl,bu,bt,b5,b6,bB,bl,a4⟩|⟨q,rfl,Z⟩⟩
   ·subst bu;have ab:=af bt;have bc:=af b5;have aq:=af b6;have am:=af bl;have z:=af (y.o.trans az);have a9:=af (bM a4 a6);obtain⟨cd,cf,c0,ch,rfl,u⟩:=rY.bO a4;have bd:=af u;have t:=World.ownsMap_made c (aB T4) 59 (plainElem (H:=Unit) (aB T4) 3);have cR:=z.o.size
    go_wp2_with fail
    go_loopw [28] (λJ wr=>∃(a b:Nat) (D:DataW Unit),a<=d.length/\b<=a/\J= .int .i64 (a:Int)/\(d.take a).Nodup/\wr.ownsMap (aB T4) 59 (plainElem (H:=Unit) (aB T4) 3) c.heap.size b D/\Knows D (d.take a)/\aP c wr) (λJ _=>d.length-(US J).toNat)
    case atStart=>exact⟨0,0,.map [],UE _,T8 _,rfl,by simp,t,by simpa using Knows.empty,(Up _ _).alloc (T8 _) _⟩
    case round=>
     obtain⟨a,b,D,cp,cv,rfl,H,t,a2,V⟩:=hrel;have n:=af V;have a5:c.heap.size<=wr.heap.size:=V.size;have a6:c.heap.size+1<=wr.heap.size:=by have:=t.lt;omega
     have ae:X (d.take a).Nodup:=H;by_cases o:a<d.length
     ·have u:=bd.o.below V;obtain rfl:=u.addr (by omega);have c1:=u.c0 a o;have c2:=u.c1 a o;have c3:=u.c2 a o;have O:X (pq d[a]):=(ab.o _ (Uj o)).ok a1;have W:=B7 d[a] O.o;have a8:=af a2;have ad:=a2.has d[a] O.o;have ao:X ((d.take a).length=a):=by show _=_;rw[Vs];omega
      have ap:=af (Uo o);by_cases B:idx (d.take a) d[a]<(d.take a).length
      ·have f:X (∀L:List aE,L.length=cn->(∀x∈L,VK k x)->¬ai (bytesOf s) p (ey k L)):=by
        intro L j l m;obtain⟨be,aa,P,A,E,Q,R,g,i,S⟩:=kB G j l m;have av:=cA (by omega) (by have:=M.o;omega) g C.o;rw[av] at i;have bi:=aq.o be av A i;subst bi;have b0:=(sV _ _).1 B;obtain⟨J,co,aw⟩:=Vv b0;rw[VF] at aw;have ck:=ao.o;have:=uC E (by omega) o aw;omega
       rw[decide_eq_true B] at ad;generalize d[a]=x at*
       go_wp2_with (first
        |(at_lookup;refine wpList_lookup_own_ok_int _ Y _ _ 229 Y 59 3 .i64 Gb ay.underlying229 ay.underlying3 (IT _) c.heap.size b D Y (t.alloc _) _ _ Y W ?_;intro ar br ca)
        |(go_at_call 97;refine(b8 r _ s _ (by rw[UN _ _ r (by omega),n.o.block r (by omega)];exact am.o)).mono ?_;rintro e w' ⟨rfl,rfl⟩))
       exact⟨rfl,z.o.trans (Kp.cr (n.o.alloc a5 _)),.inr ⟨_,rfl,f.o⟩⟩
      ·rw[decide_eq_false B] at ad;have N:X (d.take (a+1)).Nodup:=by
        show List.Nodup _;rw[ap.o,List.nodup_append];refine⟨ae.o,by simp,?_⟩;intro cc bm ar a0 e;simp at a0;subst a0;subst e;exact B ((sV _ _).2 bm)
       have ba:X (Knows (D.put (kl d[a]) (.lit (.int .i64 (a:Int)))) (d.take (a+1))):=by
        have:=a8.o.put d[a] O.o B;rw[ao.o] at this;show Knows _ _;rw[ap.o];exact this
       have cs:I wr.heap.size≠I c.heap.size:=by simp;omega
       have bo:∀a7:Xv,(wr.alloc a7).heap.size=wr.heap.size+1:=λa7=>by simp
       generalize d[a]=x at*
       go_wp2_with (first
        |(at_lookup;refine wpList_lookup_own_ok_int _ Y _ _ 229 Y 59 3 .i64 Gb ay.underlying229 ay.underlying3 (IT _) c.heap.size b D Y (t.alloc _) _ _ Y W ?_;intro ar br ca)
        |(at_mapUpdate;refine wpList_mapUpdate_own _ Y _ _ _ 229 Y 59 3 Gb ay.underlying229 _ c.heap.size b D Y (t.alloc _) ?_ _ _ _ Y Y W _ [] (plainElem_int ay.underlying3 (wf_i64 _ (by omega) (by omega))) ?_;(unfold Uq;omega);intro cb b2 bx))
       have bs:aP c cb:=(n.o.alloc a5 _).grown bx (by rw[bo];omega) (λci bv=>by cases bv;exact T8 _);refine⟨⟨a+1,b+1,_,by omega,by omega,by simp,N.o,b2,ba.o,bs⟩,by simp[US];omega⟩
     ·obtain rfl:a=d.length:=by omega
      have H:=ae.o;rw[Vf] at H;have N:X d.Nodup:=H;go_wp2;go_ret;exact⟨z.o.trans (Kp.cr n.o),.inl ⟨d,_,rfl,by omega,ab.o,N.o,C.o,bc.o,aq.o,bB,by rw[n.o.block r (by omega)];exact am.o,aK a9.o n.o⟩⟩
   ·have f:X (∀L:List aE,L.length=cn->(∀x∈L,VK k x)->¬ai (bytesOf s) p (ey k L)):=by
     intro L j l m;obtain⟨d,aa,P,A,E,Q,R,g,i,S⟩:=kB G j l m;have:=cA (by omega) (by have:=M.o;omega) g C.o;rw[this] at i;exact Z d this A i
    have z:=af (y.o.trans az);go_wp2;exact⟨rfl,z.o,.inr ⟨q,rfl,f.o⟩⟩
 ·have f:X (∀L:List aE,L.length=cn->(∀x∈L,VK k x)->¬ai (bytesOf s) p (ey k L)):=by
   intro L j l m;obtain⟨d,aa,P,A,E,Q,R,g,i,S⟩:=kB G j l m;exact Z d.length (by omega) g
  have y:=af T;go_wp2;exact⟨rfl,y.o,.inr ⟨q,rfl,f.o⟩⟩
def Mi(d:List aE)(z:aE)(q:Nat)(h:q<d.length):d.getD q z=d[q]:=by simp[Yw,h]
def Cs(k:Int)(b2:k=1\/k=2\/k=3)(s:ByteArray)(r p cn:Nat)(w:F)(b4:s.size<=Uq)(Q:cn<=100)(cc:p<=s.size)(h:w.heap[r]? =I (cg s p)):
 bH 171 #[.pointer (I ⟨r,0,K⟩),.int .i64 k,.int .i64 cn] w λe w'=>Kp r w w'/\
  ((∃(l:List aE) (v:U),e= .returned v/\l.length=cn/\(∀x∈l,VK k x)/\ai (bytesOf s) p (ey k l)/\(∀L:List aE,L.length=cn->(∀x∈L,VK k x)->ai (bytesOf s) p (ey k L)->L=l)/\p+(ey k l).length<=s.size/\
    w'.heap[r]? =I (cg s (p+(ey k l).length))/\w'.ownsRow w.heap.size 59 3 v l.length (aH l))\/
   (∃q,e= .panicked (eD q)/\∀L:List aE,L.length=cn->(∀x∈L,VK k x)->¬ai (bytesOf s) p (ey k L))):=by
 obtain⟨cx,g,d8,cp,d9⟩:=Ve ay.mJ;have d5:r<w.heap.size:=Ue h;have a9:=af h;clear h;go_enter ay.func171,Tryz.ntmps171
 go_wp2_with fail
 refine(wQ k b2 s r p cn _ b4 Q cc a9.o).mono ?_;rintro e c0 ⟨O,⟨c,v,rfl,d1,bA,b5,cf,ch,ck,b3,bv,av⟩|⟨q,rfl,i⟩⟩
 ·have y:=af O;have aa:=af cf;have dl:=af ch;have ab:=af ck;have ba:=af bv;have c5:=af bA;have dd:X c.Nodup:=b5;have a8:=af av;have e0:=O.size;obtain⟨e4,gP,rfl⟩:=uG av;have H:=af b3;generalize bu:p+(aL c.length).length+(aX k c).length=f at*;have G:=af bu;have ds:X (∀w,bH 158 #[.int .i64 (c.length:Int)] w λe w'=>e= .returned (.int .i64 (wid c.length))/\w'=w):=λw=>wm c.length (by omega) w;clear O cf ch ck bv bA b5 av a9 bu b3;have co:=vj c.length
  go_wp2_with (go_at_call 158;refine(ds.o _).mono ?_;rintro e w' ⟨rfl,o⟩;rw[o];clear o w')
  refine(za s r f (wid c.length) cn _ b4 (by omega) Q H.o ba.o).mono ?_;rintro e d ⟨P,⟨rfl,A,bx,b6⟩|⟨q,rfl,i⟩⟩
  ·have dp:=af (Ap s f _ cn H.o A);have dq:X (∀b:List Nat,b.length=cn->(∀x∈b,x<2^wid c.length)->ai (bytesOf s) f (cJ (wid c.length) b)->b=D (wid c.length) (eG s f) cn):=by
    intro b N bs dO;have:=(lT s f _ b H.o bs dO).2;rw[N] at this;exact this.symm
   have aw:(D (wid c.length) (eG s f) cn).length=cn:=pu _ _ _;have cd:∀q∈D (wid c.length) (eG s f) cn,q<65536:=λq B=>by
    have N:=QJ _ _ _ q B;have bs:2^wid c.length<=2^7:=VO (by omega) co;omega
   generalize D (wid c.length) (eG s f) cn=b at*;have S:(jU b).length=cn:=by rw[<-aw];simp[jU]
   have z:=af aw;have dk:=af cd;have Z:X (rA d (.slice (I ⟨c0.heap.size,0,K⟩) cn cn) (jU b)):=rA.bO (by rw[S];exact b6);have C:=af (y.o.trans P);have df:=af (P.own a8.o d5);have bb:=af bx;have d7:=C.o.size;clear P bx b6 A y a8 ba aw cd S;generalize bt:f+(cn*wid c.length+7)/8=bi at*;have dc:=af bt;clear bt co
   go_wp2_with fail
   refine(wJ s r bi c.length _ b _ (by omega) (by rw[z.o];omega) dk.o Z.o bb.o).mono ?_;rintro e w' ⟨o,⟨rfl,n⟩|⟨q,rfl,i⟩⟩
   ·rw[o];clear o w';have en:=af n;have a7:X _:=Jt b2 (s:=s) (p:=p) (cn:=cn) (n:=c.length) (d:=c) (ps:=b) ⟨T7,0,⟨#[]⟩⟩ Q d1 Y c5.o dd.o z.o n aa.o dl.o (by rw[G.o];exact dp.o) ab.o (by rw[G.o];exact H.o);have db:X (∀a,(g:a<b.length)->b[a]<c.length):=λa g=>uh n _ (Uj g);clear n;have bd:=af (rY.bO df.o);obtain⟨e1,V,W,e2,cs,a1,a2,a3⟩:=Z.o;simp only[VA] at cs;obtain⟨cu,cv,ea⟩:=cs;rw[<-cv] at a1 a2 a3;have c8:X (∀a,(g:a<b.length)->aM d V (W+a) (.int .i64 (b[a]:Int))):=λa g=>by
     have N:=a3 a (by rw[<-z.o];exact g);have S:(jU b).length=b.length:=by simp[jU]
     rw[fh (by rw[S];exact g)] at N;simpa [jU] using N
    have c7:=af a2;have c6:X (0<cn->(I (⟨c0.heap.size,0,K⟩:UJ))=I ⟨V,W,K⟩):=λdE=>by rw[cu];exact a1 dE
    obtain⟨eo,eq,e3,er,cR,cl⟩:=bd.o;simp only[VA] at cR;obtain⟨rfl,_,rfl⟩:=cR;have dr:=af cl;clear a1 a2 a3 cl bd Z cu cv ea
    go_wp2_with (at_make;refine Wb _ Y _ _ 43 Y d.heap.size 59 cx _ 3 ay.underlying43 g d8 cp .i64 .i64 _ cn Y Y Y (by rw[d9];omega) (by unfold Uq;omega) (T8 _) ?_;intro el ca b0)
    have a6:X (aP d el):=(Up _ _).grown b0 (T8 _) (by simp);clear b0
    go_loopw [9,31] (λeb a0 wr=>∃a:Nat,a<=cn/\a0= .int .i64 (a:Int)/\eb= .slice (I ⟨d.heap.size,0,K⟩) a cn/\wr.ownsRow d.heap.size 59 3 (.slice (I ⟨d.heap.size,0,K⟩) a cn) a (aH ((b.take a).map λq=>c.getD q ⟨T7,0,⟨#[]⟩⟩))/\aP d wr) (λ_ a0 _=>cn-(US a0).toNat)
    case atStart=>exact⟨0,UE _,rfl,rfl,by simpa [aH] using ca,a6.o⟩
    case round=>
     clear ca a6;obtain⟨a,et,rfl,rfl,T,ap⟩:=hrel;have u:=af ap;have d6:=ap.size;clear ap;by_cases d4:a<cn
     ·have ar:a<b.length:=by rw[z.o];exact d4
      have B:=db.o a ar;have bB:=c6.o (by omega);have d3:=c7.o (by omega);have n:aM wr V (W+a) (.int .i64 (b[a]:Int)):=(u.o.cell (p:=⟨V,W+a,K⟩) d3).trans (c8.o a ar);have R:=dr.o.below u.o;obtain rfl:=R.addr (by omega);have ec:=R.c0 b[a] B;have ee:=R.c1 b[a] B;have ef:=R.c2 b[a] B;have bc:X (∀x:aE,c[b[a]]=x->aH ((b.take a).map λq=>c.getD q ⟨T7,0,⟨#[]⟩⟩)++[.bool x.null,.int .i64 x.n,.string x.s]=aH ((b.take (a+1)).map λq=>c.getD q ⟨T7,0,⟨#[]⟩⟩)):=by
       intro x t;rw[Uo ar,U0,Wp,<-eX,Mi c _ _ B,t]
      simp only[U8,Wh] at bB;obtain⟨dT,d0,_⟩:=bB;subst dT;subst d0;rw[UT] at n;generalize t:c[b[a]]=x at*;have be:=bc.o x Y;have dt:=af be;clear be bc t R;generalize b[a]=q at*
      go_wp2_with (at_builtin;refine VH _ Y _ _ 43 Y d.heap.size 59 cx 3 ay.underlying43 g cp d.heap.size a cn _ Y (T.alloc _) ⟨wr.heap.size,0,K⟩ 1 1 [.bool x.null,.int .i64 x.n,.string x.s] Y Y (by exact jr _ _ _ _ _) (fC x) (by omega) ?_;intro em cb b1)
      have c4:X (aP d em):=(u.o.alloc d6 _).grown b1 (by simp;omega) (by intro es d2;simp at d2;omega);rw[dt.o] at cb;clear T b1 u n ec ee ef;go_wp2
      go_roundw
      case rel=>exact⟨a+1,by omega,by go_num,rfl,cb,c4.o⟩
      case measure=>simp[US];omega
     ·obtain rfl:a=cn:=by omega
      have ci:b.take a=b:=UO (by rw[z.o];omega);rw[ci] at T;obtain⟨bj,bl,bm,bo,br⟩:=a7.o;have a4:=af bj;have c1:=af bl;have c2:=af bm;have a5:=af bo;have c3:=af br;clear bj bl bm bo br a7 ci;have c9:X (p+(ey k (b.map λq=>c.getD q ⟨T7,0,⟨#[]⟩⟩)).length=bi):=by
       show _=_;rw[c2.o,Ua,Ua,eZ,z.o,<-U5,<-U5,G.o,dc.o]
      have da:X (p+(ey k (b.map λq=>c.getD q ⟨T7,0,⟨#[]⟩⟩)).length<=s.size):=by
       have:=gJ a5.o (by rw[aj];exact cc);rwa [aj] at this
      generalize eQ:(b.map λq=>c.getD q ⟨T7,0,⟨#[]⟩⟩)=l at*;go_wp2;go_ret;exact⟨C.o.trans (Kp.cr u.o),.inl ⟨l,_,rfl,a4.o,c1.o,a5.o,c3.o,da.o,by rw[c9.o,u.o.block r (by omega)];exact bb.o,by rw[a4.o];exact bM T d7⟩⟩
   ·have E:X (∀L:List aE,L.length=cn->(∀x∈L,VK k x)->¬ai (bytesOf s) p (ey k L)):=by
     intro L aq A az;obtain⟨ad,eh,dv,al,dC,am,j,ao,M,m⟩:=kB Q aq A az;have J:=cA (by omega) (by omega) ao aa.o;rw[J] at M m j;have ae:=ab.o ad J al M;rw[ae,G.o] at m;have du:=dq.o eh am (λx t=>tL _ (by omega) x (uh j x t)) m;rw[du] at j;exact i j
    rw[o];clear i o w';go_wp2;exact⟨rfl,C.o,.inr ⟨q,rfl,E.o⟩⟩
  ·have E:X (∀L:List aE,L.length=cn->(∀x∈L,VK k x)->¬ai (bytesOf s) p (ey k L)):=by
    intro L aq A az;obtain⟨ad,b,dv,al,dC,am,j,ao,M,m⟩:=kB Q aq A az;have J:=cA (by omega) (by omega) ao aa.o;rw[J] at M m j;have ae:=ab.o ad J al M;rw[ae,G.o] at m;have:=(lT s f (wid c.length) b H.o (λx t=>tL _ (by omega) x (uh j x t)) m).1;rw[am] at this;exact i this
   have C:=af (y.o.trans P);clear i P y;go_wp2;exact⟨rfl,C.o,.inr ⟨q,rfl,E.o⟩⟩
 ·have E:=af i;have y:=af O;clear i O;go_wp2;exact⟨rfl,y.o,.inr ⟨q,rfl,E.o⟩⟩
def I7(L:List aE)(d:∀x∈L,VK 2 x):(L.map aE.n).map BH=L:=by
 rw[List.map_map]
 conv=>rhs;rw[<-List.map_id L]
 apply List.map_congr_left;intro x e;have a:=d x e;have b:=a.there;have c:=(a.s2 Y).2;cases x;simp at b c;simp[BH,b,c]
def rZ(a:List Int):(a.map BH).map aE.n=a:=by
 rw[List.map_map]
 conv=>rhs;rw[<-List.map_id a]
 rfl
def Ou(b:List Int)(h:nP b):∀x∈b.map BH,VK 2 x:=by
 intro x d;obtain⟨a,e,rfl⟩:=U7.1 d;have c:=h a e;exact⟨rfl,by show _<=a;omega,by show a<=_;omega,λh=>by omega,λ_=>⟨c,rfl⟩,λh=>by omega⟩
def E9(L:List aE)(a:∀x∈L,VK 2 x):nP (L.map aE.n):=by
 intro d c;obtain⟨x,b,rfl⟩:=U7.1 c;exact((a x b).s2 Y).1
def Reads(s:ByteArray)(r p cn:Nat)(k:Int)(E:List aE->List Nat)(w:F)(e:Ending)(w':F):Prop:=Kp r w w'/\
 ((∃(b:List aE) (v:U),e= .returned v/\b.length=cn/\(∀c∈b,VK k c)/\ai (bytesOf s) p (E b)/\(∀a:List aE,a.length=cn->(∀c∈a,VK k c)->ai (bytesOf s) p (E a)->a=b)/\p+(E b).length<=s.size/\
   w'.heap[r]? =I (cg s (p+(E b).length))/\w'.ownsRow w.heap.size 59 3 v b.length (aH b))\/
  (∃d,e= .panicked (eD d)/\∀a:List aE,a.length=cn->(∀c∈a,VK k c)->¬ai (bytesOf s) p (E a)))
def wR(k e:Int)(A:bJ k e=Z)(s:ByteArray)(r p cn:Nat)(w:F)(o:s.size<=Uq)(l:cn<=100)(t:p<=s.size)(h:w.heap[r]? =I (cg s p)):
 bH 165 #[.pointer (I ⟨r,0,K⟩),.int .i64 k,.int .i64 e,.int .i64 cn] w λx w'=>Reads s r p cn k (dV k e) w x w':=by
 obtain⟨G,S⟩:=AP A;have am:=Ue h;have n:=af h;rcases S with rfl|rfl|rfl|rfl
 ·have i:∀a,dV k 0 a=aX k a:=λa=>rfl;have c:X (dV k 0=aX k):=funext i;go_enter ay.func165,Tryz.ntmps165
  go_wp2_with fail
  refine(rL k G s r p cn _ o l t n.o).mono ?_;intro x j g;have f:X (Reads s r p cn k (dV k 0) w x j):=by
   show Reads _ _ _ _ _ _ _ _ _;rw[c.o];exact g
  rcases g with⟨b,⟨a,v,rfl,_⟩|⟨u,rfl,_⟩⟩
  ·clear b;go_wp2;go_ret;exact f.o
  ·clear b;go_wp2;exact⟨rfl,f.o⟩
 ·have B:k=1:=by simp[bJ] at A;omega
  subst B;have i:∀a,dV 1 1 a=bS 0 a:=λa=>rfl;have c:X (dV 1 1=bS 0):=funext i;go_enter ay.func165,Tryz.ntmps165
  go_wp2_with fail
  refine(Ar s r p cn _ o l t n.o).mono ?_;intro x j g;have f:X (Reads s r p cn 1 (dV 1 1) w x j):=by
   show Reads _ _ _ _ _ _ _ _ _;rw[c.o];exact g
  rcases g with⟨b,⟨a,v,rfl,_⟩|⟨u,rfl,_⟩⟩
  ·clear b;go_wp2;go_ret;exact f.o
  ·clear b;go_wp2;exact⟨rfl,f.o⟩
 ·have i:∀a,dV k 2 a=ey k a:=λa=>rfl;have c:X (dV k 2=ey k):=funext i;go_enter ay.func165,Tryz.ntmps165
  go_wp2_with fail
  refine(Cs k G s r p cn _ o l t n.o).mono ?_;intro x j g;have f:X (Reads s r p cn k (dV k 2) w x j):=by
   show Reads _ _ _ _ _ _ _ _ _;rw[c.o];exact g
  rcases g with⟨b,⟨a,v,rfl,_⟩|⟨u,rfl,_⟩⟩
  ·clear b;go_wp2;go_ret;exact f.o
  ·clear b;go_wp2;exact⟨rfl,f.o⟩
 ·have B:k=2:=by simp[bJ] at A;omega
  subst B;have i:∀a,dV 2 3 a=cy (a.map aE.n):=λa=>rfl;have c:=af i;go_enter ay.func165,Tryz.ntmps165
  go_wp2_with fail
  refine(tA s r p cn _ o l t n.o).mono ?_;rintro x j ⟨b,⟨C,v,rfl,ae,ad,Y,ab,T,Q,V⟩|⟨u,rfl,U⟩⟩
  ·have y:=af b;have P:=af ad;have N:=af Y;have O:=af ab;have M:=af Q;have H:=af (rA.bO V);have E:=af ae;have aa:=b.size
   go_wp2_with fail
   refine(CZ v C _ (by rw[E.o];exact l) H.o).mono ?_;rintro x ao ⟨R,al,rfl,W⟩;have D:=af R;have L:=af W;go_wp2;go_ret;refine⟨y.o.trans (Kp.cr D.o),.inl ⟨C.map BH,al,rfl,by rw[UG];exact E.o,Ou C P.o,?_,?_,?_,?_,?_⟩⟩
   ·rw[c.o,rZ];exact N.o
   ·intro d z q m;rw[c.o] at m;rw[<-O.o (d.map aE.n) (by rw[UG];exact z) (E9 d q) m,I7 d q]
   ·rw[c.o,rZ];exact T
   ·rw[c.o,rZ,D.o.block r (by omega)];exact M.o
   ·rw[UG];exact bM L.o aa
  ·have J:X (∀d:List aE,d.length=cn->(∀x∈d,VK 2 x)->¬ai (bytesOf s) p (dV 2 3 d)):=by
    intro d z q m;rw[c.o] at m;exact U (d.map aE.n) (by rw[UG];exact z) (E9 d q) m
   have y:=af b;go_wp2;exact⟨rfl,y.o,.inr ⟨u,rfl,J.o⟩⟩
def AZ:aE:=⟨Z,0,⟨#[]⟩⟩
structure Lg(k:Int)(zs:List Int)(pres:List aE)(j nx:Nat)(l:List aE):Prop where
 lv:l.map nL=zs.take j
 th:there l=pres.take nx
 SS:nx=mL (zs.take j)
 ok:∀x∈l,VC k x
def JW(a:List Int)(j:Nat):mL (a.take j)<=mL a:=by
 unfold mL;exact((List.take_sublist j a).filter _).length_le
def zJ(l:List aE)(x:aE):there (l++[x])=if x.null then there l else there l++[x]:=by
 unfold there;rw[List.filter_append];cases a:x.null<;>simp[a]
def Lg.null{k:Int}{a:List Int}{f:List aE}{j e:Nat}{l:List aE}(h:Lg k a f j e l)(i:nP a)(c:j<a.length)(d:a.getD j 0=0):Lg k a f (j+1) e (l++[AZ]):=by
 have g:=qJ a i j c;rw[d] at g;refine⟨?_,?_,?_,?_⟩
 ·rw[U0,h.lv,Uo c,<-fh c,d];rfl
 ·rw[zJ];exact h.th
 ·rw[h.SS];omega
 ·intro n m;rcases U1.1 m with b|b
  ·exact h.ok n b
  ·simp at b;subst b;exact .inl ⟨rfl,rfl,rfl⟩
def Lg.lt{k:Int}{a:List Int}{c:List aE}{j e:Nat}{l:List aE}(h:Lg k a c j e l)(d:nP a)(b:j<a.length)(o:a.getD j 0≠0)(n:c.length=mL a):e<c.length:=by
 have g:=qJ a d j b;have i:=JW a (j+1);have f:=d _ (Uj b);rw[<-fh b] at f;have m:=h.SS;omega
def Lg.one{k:Int}{a:List Int}{d:List aE}{j c:Nat}{l:List aE}(h:Lg k a d j c l)(i:nP a)(b:j<a.length)(r:a.getD j 0≠0)(o:c<d.length)(f:VK k d[c]):Lg k a d (j+1) (c+1) (l++[d[c]]):=by
 have m:=qJ a i j b;have n:=i _ (Uj b);rw[<-fh b] at n;have g:a.getD j 0=1:=by omega
 rw[g] at m;refine⟨?_,?_,?_,?_⟩
 ·rw[U0,h.lv,Uo b,<-fh b,g];congr 1;simp[nL,f.there]
 ·rw[zJ,f.there,h.th,Uo o];rfl
 ·rw[h.SS];omega
 ·intro q p;rcases U1.1 p with e|e
  ·exact h.ok q e
  ·simp at e;subst e;exact .inr f
def yZ(k e:Int)(cx:bJ k e=Z)(s:ByteArray)(r p cn:Nat)(w:F)(bm:s.size<=Uq)(cv:cn<=100)(c3:p<=s.size)(h:w.heap[r]? =I (cg s p)):
 bH 156 #[.pointer (I ⟨r,0,K⟩),.int .i64 k,.int .i64 e,.int .i64 cn] w λx w'=>Kp r w w'/\
  ((∃(l:List aE) (v:U),x= .returned v/\l.length=cn/\(∀x∈l,VC k x)/\ai (bytesOf s) p (bK k e l)/\(∀L:List aE,L.length=cn->(∀x∈L,VC k x)->ai (bytesOf s) p (bK k e L)->L=l)/\p+(bK k e l).length<=s.size/\
    w'.heap[r]? =I (cg s (p+(bK k e l).length))/\w'.ownsRow w.heap.size 59 3 v l.length (aH l))\/
   (∃q,x= .panicked (eD q)/\∀L:List aE,L.length=cn->(∀x∈L,VC k x)->¬ai (bytesOf s) p (bK k e L))):=by
 obtain⟨av,ad,c7,am,c8⟩:=Ve ay.mJ;have c4:r<w.heap.size:=Ue h;have a7:=af h;clear h;go_enter ay.func156,Tryz.ntmps156
 go_wp2_with fail
 refine(tA s r p cn _ bm cv c3 a7.o).mono ?_;rintro x df ⟨z,⟨b,v,rfl,b5,ao,bv,b0,c0,aa,al⟩|⟨q,rfl,C⟩⟩
 ·have o:=af z;have N:=af ao;have ck:=af bv;have a9:=af b0;have a8:=af aa;have a5:=af al;have a2:X (rA df v b):=rA.bO al;have t:=af b5;have du:=z.size;have c2:mL b<=100:=by have:=Ir b;omega
  have a0:X (∀w,rA w v b->bH 166 #[v] w λe w'=>e= .returned (.int .i64 ((mL b:Nat):Int))/\w'=w):=λw h=>Aa v b w (by omega) ao h;have dt:=Ue aa;clear z ao bv b0 aa al b5 a7
  go_wp2_with (go_at_call 166;refine(a0.o _ a2.o).mono ?_;rintro x w' ⟨rfl,b3⟩;rw[b3];clear b3 w')
  refine(wR k e cx s r (p+(cy b).length) (mL b) _ bm c2 c0 a8.o).mono ?_;rintro x d ⟨A,⟨f,dO,rfl,bu,bt,bx,b1,bj,be,br⟩|⟨q,rfl,C⟩⟩
  ·have M:X (Kp r w d):=o.o.trans A;have ch:=af bt;have cl:=af bx;have co:=af b1;have ci:=af be;have a6:=af bu;obtain⟨dv,aq,ar,dC,rfl,b6,ca,cb⟩:=rA.bO (A.own a5.o c4);have a1:=af cb;obtain⟨dl,dp,dE,dq,rfl,b2⟩:=rY.bO br;have cp:=af b2;have c5:=M.o.size;have c1:p+(cy b).length+(dV k e f).length<=s.size:=bj;clear A bt bx b1 be bu br cb b2 a5 a2 o a8 a0 bj;rw[t.o] at b6 ca;have cf:X (∀a,a<cn->aM d aq (ar+a) (.int .i64 (b.getD a 0))):=by
    have:=a1.o;rw[t.o] at this;exact this
   clear a1;rw[t.o]
   go_wp2_with (at_make;refine Wb _ Y _ _ 43 Y d.heap.size 59 av _ 3 ay.underlying43 ad c7 am .i64 .i64 _ cn Y Y Y (by rw[c8];omega) (by unfold Uq;omega) (T8 _) ?_;intro dk bs bi)
   have az:X (aP d dk):=(Up _ _).grown bi (T8 _) (by simp);clear bi
   go_loopw [11,12,28] (λc9 da ap wr=>∃(a c:Nat) (l:List aE),a<=cn/\c<=a/\ap= .int .i64 (a:Int)/\da= .int .i64 (c:Int)/\c9= .slice (I ⟨d.heap.size,0,K⟩) a cn/\Lg k b f a c l/\wr.ownsRow d.heap.size 59 3 (.slice (I ⟨d.heap.size,0,K⟩) a cn) a (aH l)/\aP d wr) (λ_ _ ap _=>cn-(US ap).toNat)
   case atStart=>exact⟨0,0,[],UE _,T8 _,rfl,rfl,rfl,⟨rfl,rfl,rfl,λx c6=>by simp at c6⟩,by simpa [aH] using bs,az.o⟩
   case round=>
    clear bs az;obtain⟨a,c,l,dr,ds,rfl,rfl,rfl,bd,E,V⟩:=hrel;have i:=af V;have j:=af bd;have bA:=V.size;clear V bd;by_cases bl:a<cn
    ·have n:a<b.length:=by rw[t.o];exact bl
     obtain rfl:=b6 (by omega);have cR:=ca (by omega);have O:aM wr aq (ar+a) (.int .i64 (b.getD a 0)):=(i.o.cell (p:=⟨aq,ar+a,K⟩) cR).trans (cf.o a bl);by_cases u:b.getD a 0=0
     ·have Q:X (Lg k b f (a+1) c (l++[AZ])):=j.o.null N.o n u;rw[u] at O;have S:X (aH l++[.bool Z,.int .i64 0,.string ⟨#[]⟩]=aH (l++[AZ])):=eX l AZ;clear u n
      go_wp2_with (at_builtin;refine VH _ Y _ _ 43 Y d.heap.size 59 av 3 ay.underlying43 ad am d.heap.size a cn _ Y (E.alloc _) ⟨wr.heap.size,0,K⟩ 1 1 [.bool Z,.int .i64 0,.string ⟨#[]⟩] Y Y (by exact jr _ _ _ _ _) (fC AZ) (by omega) ?_;intro aw G B)
      have P:X (aP d aw):=(i.o.alloc bA _).grown B (by simp;omega) (by intro cs ab;simp at ab;omega);rw[S.o] at G;clear E B i O;refine⟨⟨a+1,c,l++[AZ],by omega,by omega,by go_num,rfl,rfl,Q.o,G,P.o⟩,by simp[US];omega⟩
     ·have D:=j.o.lt N.o n u a6.o;have b4:b.getD a 0=1:=by
       have cu:=N.o _ (Uj n);rw[<-fh n] at cu;omega
      have Q:X (Lg k b f (a+1) (c+1) (l++[f[c]])):=j.o.one N.o n u D (ch.o _ (Uj D));rw[b4] at O;have H:=cp.o.below i.o;obtain rfl:=H.addr (by omega);have db:=H.c0 c D;have dc:=H.c1 c D;have dd:=H.c2 c D;have S:X (aH l++[.bool f[c].null,.int .i64 f[c].n,.string f[c].s]=aH (l++[f[c]])):=eX l _;clear u b4 n H;generalize f[c]=J at*
      go_wp2_with (at_builtin;refine VH _ Y _ _ 43 Y d.heap.size 59 av 3 ay.underlying43 ad am d.heap.size a cn _ Y (E.alloc _) ⟨wr.heap.size,0,K⟩ 1 1 [.bool J.null,.int .i64 J.n,.string J.s] Y Y (by exact jr _ _ _ _ _) (fC J) (by omega) ?_;intro aw G B)
      have P:X (aP d aw):=(i.o.alloc bA _).grown B (by simp;omega) (by intro cs ab;simp at ab;omega);rw[S.o] at G;clear E B i O db dc dd;refine⟨⟨a+1,c+1,l++[J],by omega,by omega,by go_num,by go_num,rfl,Q.o,G,P.o⟩,by simp[US];omega⟩
    ·obtain rfl:a=cn:=by omega
     have bB:b.take a=b:=UO (by rw[t.o];omega);have m:=j.o.lv;have y:=j.o.th;have T:=j.o.SS;rw[bB] at m T;rw[T,<-a6.o,Vf] at y;have ae:l.length=a:=by rw[<-t.o,<-m,UG]
     obtain⟨bb,bc⟩:=Dz (k:=k) (e:=e) (s:=s) (p:=p) (cn:=a) (l:=l) ae j.o.ok (by rw[m];exact ck.o) (by rw[m];exact a9.o) (by rw[m,y];exact cl.o) (by rw[m,y];exact co.o);have cc:=af bb;have cd:=af bc;have a4:X (p+(bK k e l).length=p+(cy b).length+(dV k e f).length):=by
      show _=_;unfold bK;rw[Ua,m,y,U5]
     have a3:=af ae;clear bb bc m y T bB ae;go_wp2;go_ret;exact⟨M.o.trans (Kp.cr i.o),.inl ⟨l,_,rfl,a3.o,j.o.ok,cc.o,cd.o,by rw[a4.o];exact c1,by rw[a4.o,i.o.block r (by omega)];exact ci.o,by rw[a3.o];exact bM E c5⟩⟩
  ·have R:X (∀L:List aE,L.length=cn->(∀x∈L,VC k x)->¬ai (bytesOf s) p (bK k e L)):=by
    intro L W bo g;unfold bK at g;rw[au] at g;have ba:=a9.o (L.map nL) (by rw[UG];exact W) (yD L) g.1;rw[ba] at g;exact C (there L) (by rw[zI,ba]) (E2 bo) g.2
   have M:X (Kp r w d):=o.o.trans A;clear C A o;go_wp2;exact⟨rfl,M.o,.inr ⟨q,rfl,R.o⟩⟩
 ·have R:X (∀L:List aE,L.length=cn->(∀x∈L,VC k x)->¬ai (bytesOf s) p (bK k e L)):=by
   intro L W bo g;unfold bK at g;rw[au] at g;exact C (L.map nL) (by rw[UG];exact W) (yD L) g.1
  have o:=af z;clear C z;go_wp2;exact⟨rfl,o.o,.inr ⟨q,rfl,R.o⟩⟩
end Ec
namespace Pk
open Go.RowKit Pm
def CS(w:F)(a b c:Xv):(((w.alloc a).alloc b).alloc c).heap[w.heap.size]? =I a:=by
 rw[UN _ _ _ (by simp;omega),UN _ _ _ (by simp)];exact V4 w a
def CU(w:F)(a b c:Xv):(((w.alloc a).alloc b).alloc c).heap[w.heap.size+1]? =I b:=by
 rw[UN _ _ _ (by simp)];have:=V4 (w.alloc a) b;rwa [show(w.alloc a).heap.size=w.heap.size+1 from by simp] at this
def CV(w:F)(a b c:Xv):(((w.alloc a).alloc b).alloc c).heap[w.heap.size+1+1]? =I c:=by
 have:=V4 ((w.alloc a).alloc b) c;rwa [show((w.alloc a).alloc b).heap.size=w.heap.size+1+1 from by simp] at this
end Pk
namespace Ec
open Go.RowKit Pk Pm
def dF{w:F}{g:Nat}{v:U}{t:Uh}(h:w.heap[g]? =I (.cells #[v] t (0,0))):aM w g 0 v/\w.frozen? ⟨g,0,K⟩=T7:=by
 constructor
 ·simp[Us,h]
 ·simp[UQ,h]
def sY{w:F}{g:Nat}{v:U}(u:U){t:Uh}(h:w.heap[g]? =I (.cells #[v] t (0,0))):(w.setCell ⟨g,0,K⟩ u).heap[g]? =I (.cells #[u] t (0,0)):=by
 rw[Ur w g 0 _ _ _ h];rfl
def ug(a b:UJ)(m l:U)(u:Uh)(d:U)(c:List PanicEntry)(w:F)(h:w.cell? a=I m)(i:w.frozen? a=T7)
 (f:(w.setCell a aO).cell? b=I l) (g:(w.setCell a aO).frozen? b=T7):
 CallsD (aB T4) 169 #[.pointer (I a),.pointer (I b)] (.panicking ({v:=.iface u d,recovered:=T7}::c)) w λe k w'=>
  e= .returned (.tuple #[])/\k= .panicking ({v:=.iface u d,recovered:=Z}::c)/\w'=(w.setCell a aO).setCell b (.bool T7):=by
 refine callsD_of_wpS ay.func169 Y λo n j=>?_;apply wpS_seq;apply wpS_region;simp[wpOpsS,go_sem,recoverD,j,Tryz.ntmps169,Exit.thenS];refine wpS_cond (t:=Z) (by simp[Act.eval,U3]) ?_;simp only[if_true];apply wpS_seq;apply wpS_region;simp[wpOpsS,go_sem,Exit.thenS];apply wpS_region;simp[wpOpsS,go_sem,h,i,f,g,bodyPostS,UX,Tryz.results169]
def Dv(d c:UJ)(w:F):
 CallsD (aB T4) 169 #[.pointer (I d),.pointer (I c)] .returning w λe f w'=>e= .returned (.tuple #[])/\f= .returning/\w'=w:=by
 refine callsD_of_wpS ay.func169 Y λa g b=>?_;apply wpS_seq;apply wpS_region;simp[wpOpsS,go_sem,recoverD,b,Tryz.ntmps169,Exit.thenS];refine wpS_cond (t:=T7) (by simp[Act.eval,U3]) ?_;simp only[UB,if_false];refine wpS_of_wp (wp_skip ?_);cases a;simp_all [bodyPostS,UX,Tryz.results169]
def AL{w w4:F}{v:U}{d b:Uh}{v2:U}(q:Nat)(hL:w4.heap[w.heap.size]? =I (.cells #[v] d (0,0)))(c:w4.heap[w.heap.size+1]? =I (.cells #[v2] b (0,0))):
 CallsD (aB T4) 169 #[.pointer (I ⟨w.heap.size,0,K⟩),.pointer (I ⟨w.heap.size+1,0,K⟩)] (.panicking (eD q)) w4 λe f w'=>
  e= .returned (.tuple #[])/\f= .panicking [{v:=.iface 205 (.agg #[.int .i64 (q:Int)]),recovered:=Z}]/\w'=(w4.setCell ⟨w.heap.size,0,K⟩ aO).setCell ⟨w.heap.size+1,0,K⟩ (.bool T7):=by
 have a:(w4.setCell ⟨w.heap.size,0,K⟩ aO).heap[w.heap.size+1]? =I (.cells #[v2] b (0,0)):=by
  rw[Uu _ _ _ _ (by simp)];exact c
 exact ug _ _ _ _ _ _ [] w4 (dF hL).1 (dF hL).2 (dF a).1 (dF a).2
def vi{w w4:F}{v v2:U}{a b:Uh}(u1 u2:U)(hL:w4.heap[w.heap.size]? =I (.cells #[v] a (0,0)))(f:w4.heap[w.heap.size+1]? =I (.cells #[v2] b (0,0)))(e:aP w w4):
 let W:=(w4.setCell ⟨w.heap.size,0,K⟩ u1).setCell ⟨w.heap.size+1,0,K⟩ u2
 aM W w.heap.size 0 u1/\aM W (w.heap.size+1) 0 u2/\aP w W:=by
 have c:=sY u1 hL;have d:(w4.setCell ⟨w.heap.size,0,K⟩ u1).heap[w.heap.size+1]? =I (.cells #[v2] b (0,0)):=by
  rw[Uu _ _ _ _ (by simp)];exact f
 refine⟨?_,(dF (sY u2 d)).1,?_⟩
 ·refine(dF (t:=a) ?_).1;rw[Uu _ _ _ _ (by simp)];exact c
 ·exact(e.setCell (T8 _) _).setCell (Nat.le_succ _) _
def Hl(c1 c2 O:U)(s:ByteArray)(w:F)(ab:s.size<=Uq)(g j:Nat)(Q:Nat->List U->Nat->Prop)(N:Prop)
 (V:∀(W:F) (r:Nat),aP w W->r=w.heap.size+1+1->W.heap[r]? =I (cg s 0)->bH 155 #[.pointer (I ⟨r,0,K⟩),c1,c2,O] W λe w'=>Kp r W w'/\
   ((∃v n d q,e= .returned v/\w'.heap[r]? =I (cg s q)/\q<=s.size/\w'.ownsRow W.heap.size g j v n d/\Q n d q)\/(∃q,e= .panicked (eD q)/\N))):
 bH 163 #[.string s,.func (.func 155) #[] #[c1,c2,O]] w λe w'=>aP w w'/\
  ((∃v n d,e= .returned (.tuple #[v,.bool Z])/\w'.ownsRow w.heap.size g j v n d/\Q n d s.size)\/(e= .returned (.tuple #[aO,.bool T7])/\(N\/∃n d q,Q n d q/\q<s.size))):=by
 have am:=af V;clear V;have a4:∀(P:Fn) (first a:Array U) (w:F),(Instr.makeFunc P first a).run (aB T4) w= .ok (.func P first a) w:=λ_ _ _ _=>rfl
 go_enter_defers ay.func163,Tryz.ntmps163
 go_wp2_with (go_at_call 65;refine(nM s _).mono ?_;rintro e w' ⟨rfl,rfl⟩)
 have z:(((w.alloc (.cells #[aO] 43)).alloc (.cells #[.bool T7] 4)).alloc (cg s 0)).heap[w.heap.size]? =I (.cells #[aO] 43 (0,0)):=CS _ _ _ _;have x:(((w.alloc (.cells #[aO] 43)).alloc (.cells #[.bool T7] 4)).alloc (cg s 0)).heap[w.heap.size+1]? =I (.cells #[.bool T7] 4 (0,0)):=CU _ _ _ _;have E:(((w.alloc (.cells #[aO] 43)).alloc (.cells #[.bool T7] 4)).alloc (cg s 0)).heap[w.heap.size+1+1]? =I (cg s 0):=CV _ _ _ _;have T:(((w.alloc (.cells #[aO] 43)).alloc (.cells #[.bool T7] 4)).alloc (cg s 0)).heap.size=w.heap.size+3:=by simp
 have p:aP w (((w.alloc (.cells #[aO] 43)).alloc (.cells #[.bool T7] 4)).alloc (cg s 0)):=(((Up _ _).alloc (T8 _) _).alloc (by simp) _).alloc (by simp;omega) _;generalize (((w.alloc (.cells #[aO] 43)).alloc (.cells #[.bool T7] 4)).alloc (cg s 0))=C at*;refine(am.o C (w.heap.size+1+1) p Y E).mono ?_;rintro e c ⟨f,⟨v,n,d,q,rfl,S,a5,t,R⟩|⟨q,rfl,ap⟩⟩
 ·have i:c.heap[w.heap.size]? =I (.cells #[aO] 43 (0,0)):=Kp.block f z (by omega);have h:c.heap[w.heap.size+1]? =I (.cells #[.bool T7] 4 (0,0)):=Kp.block f x (by omega);have u:aP w c:=p.trans ((f.below (by omega)).mono (by omega));have ad:v.ownBlock≠I w.heap.size/\v.ownBlock≠I (w.heap.size+1):=⟨λe=>by have:=(t.lt _ e).1;omega,λe=>by have:=(t.lt _ e).1;omega⟩;obtain⟨b,a,aw⟩:=uG t;subst aw;have ao:X (c.ownsRow w.heap.size g j (.slice b n a) n d):=bM t (by omega);have B:=af ad;have L:=af R;obtain⟨a1,a3⟩:=dF i;obtain⟨a0,a2⟩:=dF h;have J:=af i;have H:=af h;have G:=af u;have M:=af S;clear z x E T p i h f S t R u ad;clear C;by_cases aa:q<s.size
  ·go_wp2_with (go_at_call 93;refine(BX (w.heap.size+1+1) q s _ ab aa (by rw[Uu _ _ _ _ (by simp;omega)];exact M.o)).mono ?_;rintro e w' ⟨rfl,m,rfl⟩)
   have A:((c.setCell ⟨w.heap.size,0,K⟩ (.slice b n a)).drewN m).heap[w.heap.size]? =I (.cells #[.slice b n a] 43 (0,0)):=sY _ J.o;have y:((c.setCell ⟨w.heap.size,0,K⟩ (.slice b n a)).drewN m).heap[w.heap.size+1]? =I (.cells #[.bool T7] 4 (0,0)):=by
    show(c.setCell ⟨w.heap.size,0,K⟩ (.slice b n a)).heap[w.heap.size+1]? =_;rw[Uu _ _ _ _ (by simp)];exact H.o
   have D:=below_drewN (G.o.setCell (p:=⟨w.heap.size,0,K⟩) (T8 _) (.slice b n a)) m;generalize (c.setCell ⟨w.heap.size,0,K⟩ (.slice b n a)).drewN m=a6 at*;obtain⟨k,l,o⟩:=vi aO (.bool T7) A y D;refine leaves_cons (f:=169) (args:= #[.pointer (I ⟨w.heap.size,0,K⟩),.pointer (I ⟨w.heap.size+1,0,K⟩)]) (by simp) (by simp[go_sem]) ?_;refine(AL _ A y).mono ?_;rintro e ae al ⟨rfl,rfl,rfl⟩;simp[Leaves,settle,UX,Tryz.results163,go_sem,k,l];exact⟨o,.inr ⟨n,d,q,L.o,aa⟩⟩
  ·obtain rfl:q=s.size:=by omega
   go_wp2_with (go_at_call 93;refine(FY (w.heap.size+1+1) s.size s _ ab (by omega) (by rw[Uu _ _ _ _ (by simp;omega)];exact M.o)).mono ?_;rintro e w' ⟨rfl,m,rfl⟩)
   have A:((c.setCell ⟨w.heap.size,0,K⟩ (.slice b n a)).drewN m).heap[w.heap.size]? =I (.cells #[.slice b n a] 43 (0,0)):=sY _ J.o;have y:((c.setCell ⟨w.heap.size,0,K⟩ (.slice b n a)).drewN m).heap[w.heap.size+1]? =I (.cells #[.bool T7] 4 (0,0)):=by
    show(c.setCell ⟨w.heap.size,0,K⟩ (.slice b n a)).heap[w.heap.size+1]? =_;rw[Uu _ _ _ _ (by simp)];exact H.o
   have D:=below_drewN (G.o.setCell (p:=⟨w.heap.size,0,K⟩) (T8 _) (.slice b n a)) m;have aq:((c.setCell ⟨w.heap.size,0,K⟩ (.slice b n a)).drewN m).ownsRow w.heap.size g j (.slice b n a) n d:=rJ (ownsRow_setCell_other ao.o B.o.1 _) m;have ar:(((c.setCell ⟨w.heap.size,0,K⟩ (.slice b n a)).drewN m).setCell ⟨w.heap.size,0,K⟩ (.slice b n a)).ownsRow w.heap.size g j (.slice b n a) n d:=ownsRow_setCell_other aq B.o.1 _;have av:((((c.setCell ⟨w.heap.size,0,K⟩ (.slice b n a)).drewN m).setCell ⟨w.heap.size,0,K⟩ (.slice b n a)).setCell ⟨w.heap.size+1,0,K⟩ (.bool Z)).ownsRow w.heap.size g j (.slice b n a) n d:=ownsRow_setCell_other ar B.o.2 _;obtain⟨k,l,o⟩:=vi (.slice b n a) (.bool Z) A y D;generalize (((c.setCell ⟨w.heap.size,0,K⟩ (.slice b n a)).drewN m).setCell ⟨w.heap.size,0,K⟩ (.slice b n a)).setCell ⟨w.heap.size+1,0,K⟩ (.bool Z)=az at*;refine leaves_cons (f:=169) (args:= #[.pointer (I ⟨w.heap.size,0,K⟩),.pointer (I ⟨w.heap.size+1,0,K⟩)]) (by simp) (by simp[go_sem]) ?_;refine(Dv ⟨w.heap.size,0,K⟩ ⟨w.heap.size+1,0,K⟩ _).mono ?_;rintro e ae al ⟨rfl,rfl,rfl⟩;simp[Leaves,settle,UX,Tryz.results163,go_sem,k,l];exact⟨o,n,d,av,L.o⟩
 ·have i:c.heap[w.heap.size]? =I (.cells #[aO] 43 (0,0)):=Kp.block f z (by omega);have h:c.heap[w.heap.size+1]? =I (.cells #[.bool T7] 4 (0,0)):=Kp.block f x (by omega);have u:aP w c:=p.trans ((f.below (by omega)).mono (by omega));clear z x E T p f;clear C;obtain⟨k,l,o⟩:=vi aO (.bool T7) i h u;refine leaves_cons (f:=169) (args:= #[.pointer (I ⟨w.heap.size,0,K⟩),.pointer (I ⟨w.heap.size+1,0,K⟩)]) (by simp) (by simp[go_sem]) ?_;refine(AL _ i h).mono ?_;rintro e ae al ⟨rfl,rfl,rfl⟩;simp[Leaves,settle,UX,Tryz.results163,go_sem,k,l];exact⟨o,.inl ap⟩
def DK(k e:Int)(B:bJ k e=Z)(s:ByteArray)(r cn x y z:Nat)(w:F)(D:s.size<=Uq)(A:cn<=100)(h:w.heap[r]? =I (cg s 0))
 (O:aM w x 0 (.int .i64 k)) (P:aM w y 0 (.int .i64 e)) (Q:aM w z 0 (.int .i64 cn)):
 bH 155 #[.pointer (I ⟨r,0,K⟩),.pointer (I ⟨x,0,K⟩),.pointer (I ⟨y,0,K⟩),.pointer (I ⟨z,0,K⟩)] w λf w'=>Kp r w w'/\
  ((∃v n d q,f= .returned v/\w'.heap[r]? =I (cg s q)/\q<=s.size/\w'.ownsRow w.heap.size 59 3 v n d/\
    (∃l:List aE,n=cn/\l.length=cn/\d=aH l/\q=(bK k e l).length/\(∀x∈l,VC k x)/\ai (bytesOf s) 0 (bK k e l)/\∀L:List aE,L.length=cn->(∀x∈L,VC k x)->ai (bytesOf s) 0 (bK k e L)->L=l))\/
   (∃q,f= .panicked (eD q)/\∀L:List aE,L.length=cn->(∀x∈L,VC k x)->¬ai (bytesOf s) 0 (bK k e L))):=by
 have m:=af h;go_enter ay.func155,Tryz.ntmps155
 go_wp2_with fail
 refine(yZ k e B s r 0 cn _ D A (UE _) m.o).mono ?_;rintro f R ⟨c,⟨l,v,rfl,C,G,J,M,N,u,H⟩|⟨q,rfl,E⟩⟩
 ·have a:=af c;have b:=af C;have j:=af G;have p:=af J;have t:=af M;have o:=af u;have i:=af H;go_wp2;go_ret;refine⟨a.o,.inl ⟨v,cn,aH l,(bK k e l).length,rfl,by simpa using o.o,by omega,by rw[<-b.o];exact i.o,l,rfl,b.o,rfl,rfl,j.o,p.o,t.o⟩⟩
 ·have a:=af c;have g:=af E;go_wp2;exact⟨rfl,a.o,.inr ⟨q,rfl,g.o⟩⟩
def zb(c1 c2 c:U)(s:ByteArray)(w:F)(p:s.size<=Uq)(d f:Nat)(Q:Nat->List U->Nat->Prop)(N:Prop)
 (o:∀(W:F) (r:Nat),aP w W->r=w.heap.size+1+1->W.heap[r]? =I (cg s 0)->bH 155 #[.pointer (I ⟨r,0,K⟩),c1,c2,c] W λe w'=>Kp r W w'/\
   ((∃v n a q,e= .returned v/\w'.heap[r]? =I (cg s q)/\q<=s.size/\w'.ownsRow W.heap.size d f v n a/\Q n a q)\/(∃q,e= .panicked (eD q)/\N))):
 bH 154 #[.string s,.func (.func 155) #[] #[c1,c2,c]] w λe w'=>aP w w'/\
  ((∃v n a,e= .returned (.tuple #[v,.int .i64 0])/\w'.ownsRow w.heap.size d f v n a/\Q n a s.size)\/(e= .returned (.tuple #[aO,.int .i64 3])/\(N\/∃n a q,Q n a q/\q<s.size))):=by
 have h:=af o;go_enter ay.func154,Tryz.ntmps154
 go_wp2_with fail
 refine(Hl c1 c2 c s w p d f Q N h.o).mono ?_;rintro e u ⟨g,⟨v,n,a,rfl,t,m⟩|⟨rfl,l⟩⟩
 ·have b:=af g;have j:=af t;have k:=af m;go_wp2
  go_ret2
  exact⟨b.o,.inl ⟨v,n,a,rfl,j.o,k.o⟩⟩
 ·have b:=af g;have i:=af l;go_wp2
  go_ret2
  exact⟨b.o,.inr ⟨rfl,i.o⟩⟩
structure sF(s:ByteArray)(k e:Int)(cn:Nat)(l:List aE):Prop where
 len:l.length=cn
 ok:∀x∈l,VC k x
 eq:bK k e l=bytesOf s
 IM:∀L:List aE,L.length=cn->(∀x∈L,VC k x)->ai (bytesOf s) 0 (bK k e L)->L=l
def xD (s:ByteArray)(k e:Int)(cn:Nat):Prop:=∀a:List aE,a.length=cn->(∀b∈a,VC k b)->bK k e a≠bytesOf s
def Jf(cn k e:Int):jC cn k e≠0\/(jC cn k e=0/\bJ k e=Z/\∃c:Nat,cn=(c:Int)/\c<=100):=by
 unfold jC;by_cases a:cn<0\/100<cn
 ·left;rw[if_pos a];omega
 ·rw[if_neg a];cases b:bJ k e with
  |false=>left;simp
  |true=>right;exact⟨by simp,rfl,cn.toNat,by omega,by omega⟩
def QY(w:F)(a b c:Xv):(((w.alloc a).alloc b).alloc c).heap.size=w.heap.size+3:=by simp
def pK(s:ByteArray)(k e cn:Int)(w:F)(G:s.size<=Uq):
 bH 139 #[.string s,.int .i64 k,.int .i64 e,.int .i64 cn] w λf w'=>aP w w'/\
  ((jC cn k e≠0/\f= .returned (.tuple #[aO,.int .i64 (jC cn k e)]))\/
   (∃c:Nat,cn=(c:Int)/\c<=100/\jC cn k e=0/\bJ k e=Z/\((∃v l,f= .returned (.tuple #[v,.int .i64 0])/\w'.ownsRow w.heap.size 59 3 v l.length (aH l)/\sF s k e c l)\/(f= .returned (.tuple #[aO,.int .i64 3])/\xD s k e c)))):=by
 have ae:aP w (((w.alloc (.cells #[.int .i64 k] 3)).alloc (.cells #[.int .i64 e] 3)).alloc (.cells #[.int .i64 cn] 3)):=(((Up _ _).alloc (T8 _) _).alloc (by simp) _).alloc (by simp;omega) _;have m:=af ae;have i:=o5 cn k e;have ar:∀(C:Fn) (first B:Array U) (w:F),(Instr.makeFunc C first B).run (aB T4) w= .ok (.func C first B) w:=λ_ _ _ _=>rfl;rcases Jf cn k e with H|⟨D,am,c,rfl,q⟩
 ·generalize jC cn k e=R at*;have ap:(R !=0)=Z:=by simpa using H
  go_enter ay.func139,Tryz.ntmps139
  go_wp2_with (go_at_call 123;refine(i _).mono ?_;rintro x w' ⟨rfl,rfl⟩)
  go_ret2
  exact⟨m.o,.inl ⟨H,rfl⟩⟩
 ·rw[D] at i;have Y:=(dF (CS w (.cells #[.int .i64 k] 3 (0,0)) (.cells #[.int .i64 e] 3 (0,0)) (.cells #[.int .i64 (c:Int)] 3 (0,0)))).1;have aa:=(dF (CU w (.cells #[.int .i64 k] 3 (0,0)) (.cells #[.int .i64 e] 3 (0,0)) (.cells #[.int .i64 (c:Int)] 3 (0,0)))).1;have ab:=(dF (CV w (.cells #[.int .i64 k] 3 (0,0)) (.cells #[.int .i64 e] 3 (0,0)) (.cells #[.int .i64 (c:Int)] 3 (0,0)))).1;have M:=QY w (.cells #[.int .i64 k] 3) (.cells #[.int .i64 e] 3) (.cells #[.int .i64 (c:Int)] 3);have O:=af Y;have P:=af aa;have Q:=af ab;have T:=af M;have A:=af D;have o:=af am;go_enter ay.func139,Tryz.ntmps139
  go_wp2_with (go_at_call 123;refine(i _).mono ?_;rintro x w' ⟨rfl,rfl⟩)
  generalize (((w.alloc (.cells #[.int .i64 k] 3)).alloc (.cells #[.int .i64 e] 3)).alloc (.cells #[.int .i64 (c:Int)] 3))=V at*;have M:=T.o;refine(zb (.pointer (I ⟨w.heap.size,0,K⟩)) (.pointer (I ⟨w.heap.size+1,0,K⟩)) (.pointer (I ⟨w.heap.size+1+1,0,K⟩)) s V G 59 3
   (λd z N=>∃l:List aE,d=c/\l.length=c/\z=aH l/\N=(bK k e l).length/\(∀g∈l,VC k g)/\ai (bytesOf s) 0 (bK k e l)/\∀a:List aE,a.length=c->(∀g∈a,VC k g)->ai (bytesOf s) 0 (bK k e a)->a=l)
   (∀a:List aE,a.length=c->(∀g∈a,VC k g)->¬ai (bytesOf s) 0 (bK k e a))
   (λW x b aw al=>DK k e o.o s x c _ _ _ W G q al ((b.cell (p:=⟨w.heap.size,0,K⟩) (by show w.heap.size<_;omega)).trans O.o) ((b.cell (p:=⟨w.heap.size+1,0,K⟩) (by show w.heap.size+1<_;omega)).trans P.o) ((b.cell (p:=⟨w.heap.size+1+1,0,K⟩) (by show w.heap.size+1+1<_;omega)).trans Q.o))).mono ?_
  rintro f y ⟨b,⟨v,d,z,rfl,ao,l,rfl,t,rfl,J,h,L,u⟩|⟨rfl,p⟩⟩
  ·have j:X (aP w y):=m.o.trans (b.mono (by omega));have S:X (y.ownsRow w.heap.size 59 3 v l.length (aH l)):=by rw[t];exact bM ao (by omega)
   have n:X (sF s k e d l):=⟨t,h,CQ L (by rw[aj];omega),u⟩;go_wp2
   go_ret2
   exact⟨j.o,.inr ⟨d,rfl,q,A.o,o.o,.inl ⟨v,l,rfl,S.o,n.o⟩⟩⟩
  ·have j:X (aP w y):=m.o.trans (b.mono (by omega));have n:X (xD s k e c):=by
    intro a E h r;rcases p with p|⟨d,z,N,⟨l,rfl,t,rfl,J,av,L,u⟩,aq⟩
    ·exact p a E h (eO r)
    ·have ad:=u a E h (eO r);subst ad;rw[r,aj] at J;omega
   go_wp2
   go_ret2
   exact⟨j.o,.inr ⟨c,rfl,q,A.o,o.o,.inr ⟨rfl,n.o⟩⟩⟩
def kS(n:Nat):∀x∈aL n,x<256:=N6 10 n
def ED(f:Nat)(l:List Int):∀x∈iD f l,x<256:=by
 induction f generalizing l with
 |zero=>simp[iD]
 |succ f c=>
  cases l with
  |nil=>simp[iD]
  |cons e d=>
   intro x b;simp only[iD] at b;rcases U1.1 b with a|a
   ·exact kS _ x a
   ·rcases U1.1 a with a|a
    ·simp at a;rw[a];exact nY _
    ·exact c _ x a
def uH(k:Int)(v:aE):∀x∈bf k v,x<256:=by
 intro x a;unfold bf at a
 split at a
 ·exact kS _ x a
 ·split at a
  ·simp at a;rw[a];exact nY _
  ·rcases U1.1 a with b|b
   ·exact kS _ x b
   ·exact jA _ x b
def yQ(k:Int)(l:List aE):∀x∈aX k l,x<256:=by
 intro x a;unfold aX at a;obtain⟨v,_,b⟩:=List.mem_flatMap.1 a;exact uH k v x b
def Jq(a:Int)(l:List aE):∀x∈bS a l,x<256:=by
 induction l generalizing a with
 |nil=>simp[bS]
 |cons f e d=>
  intro x c;simp only[bS] at c;rcases U1.1 c with b|b
  ·exact kS _ x b
  ·exact d _ x b
def x9(k e:Int)(l:List aE):∀x∈bK k e l,x<256:=by
 intro x b;unfold bK at b;rcases U1.1 b with a|a
 ·exact ED _ _ x a
 ·unfold dV at a
  split at a
  ·exact Jq _ _ x a
  ·split at a
   ·unfold ey at a;rcases U1.1 a with a|a
    ·exact kS _ x a
    ·rcases U1.1 a with a|a
     ·exact yQ _ _ x a
     ·exact tf _ _ x a
   ·split at a
    ·exact ED _ _ x a
    ·exact yQ _ _ x a
def E3(a n:Int)(b:0<=a)(c:0<n):0<=a.tmod n/\a.tmod n<n:=by
 rw[Int.tmod_eq_emod_of_nonneg b];exact⟨Int.emod_nonneg _ (by omega),Int.emod_lt_of_pos _ c⟩
def tmod_neg(a n:Int)(c:a<=0)(b:0<n):0<= -(a.tmod n)/\ -(a.tmod n)<n:=by
 have:=E3 (-a) n (by omega) b;rwa [Int.neg_tmod] at this
def M5(c n:Int)(w:F)(a:n=2\/n=3)(f: -9223372036854775808<=c)(h1:c<=9223372036854775807):bH 23 #[.int .i64 c,.int .i64 n] w λe w'=>w'=w/\∃r,e= .returned (.int .i64 r)/\0<=r/\r<n:=by
 by_cases g:c<0
 ·have b:Vb (c+1)=c+1:=by unfold Vb;omega
  have d:Vb (-(c+1))= -(c+1):=by unfold Vb;omega
  rcases a with rfl|rfl
  ·go_enter ay.func23,Tryz.ntmps23;go_wp2;go_ret;exact⟨rfl,_,rfl,tmod_neg (c+1) 2 (by omega) (by omega)⟩
  ·go_enter ay.func23,Tryz.ntmps23;go_wp2;go_ret;exact⟨rfl,_,rfl,tmod_neg (c+1) 3 (by omega) (by omega)⟩
 ·rcases a with rfl|rfl
  ·go_enter ay.func23,Tryz.ntmps23;go_wp2;go_ret;exact⟨rfl,_,rfl,by omega,by omega⟩
  ·go_enter ay.func23,Tryz.ntmps23;go_wp2;go_ret;exact⟨rfl,_,rfl,by omega,by omega⟩
def Ja{w W d:F}{g:Nat}{a b c:U}(a' b' e:U){t:Uh}(h:d.heap[g]? =I (.cells #[a,b,c] t (0,0)))(o:aP w d)(f:w.heap.size<=g):
 let W:=((d.setCell ⟨g,0,K⟩ a').setCell ⟨g,1,K⟩ b').setCell ⟨g,2,K⟩ e
 aM W g 0 a'/\aM W g 1 b'/\aM W g 2 e/\aP w W:=by
 have l:(d.setCell ⟨g,0,K⟩ a').heap[g]? =I (.cells #[a',b,c] t (0,0)):=by rw[Ur d g 0 _ _ _ h];rfl
 have m:((d.setCell ⟨g,0,K⟩ a').setCell ⟨g,1,K⟩ b').heap[g]? =I (.cells #[a',b',c] t (0,0)):=by rw[Ur _ g 1 _ _ _ l];rfl
 have n:(((d.setCell ⟨g,0,K⟩ a').setCell ⟨g,1,K⟩ b').setCell ⟨g,2,K⟩ e).heap[g]? =I (.cells #[a',b',e] t (0,0)):=by rw[Ur _ g 2 _ _ _ m];rfl
 obtain⟨i,j,k,_⟩:=lZ n;exact⟨i,j,k,((o.setCell f _).setCell f _).setCell f _⟩
def um(x:aE)(k:Int)(w:F)(l:k=1\/k=2\/k=3)(i:rC x)(m:x.s.size<=Uq):
 bH 24 #[.agg (gZ x),.int .i64 k] w λe w'=>aP w w'/\∃y:aE,e= .returned (.agg (gZ y))/\VC k y:=by
 have c:X (∀d f:Xv,aP w ((w.alloc d).alloc f)):=λd f=>((Up _ _).alloc (T8 _) _).alloc (by simp) _;have h:=i.lo;have g:=i.hi;cases p:x.null with
 |true=>
  go_enter ay.func24,Tryz.ntmps24;go_wp2;simp[VR,UX,Tryz.results24,go_sem];exact⟨c.o _ _,⟨Z,0,⟨#[]⟩⟩,⟨rfl,rfl,rfl⟩,.inl ⟨rfl,rfl,rfl⟩⟩
 |false=>
  rcases l with rfl|rfl|rfl
  ·go_enter ay.func24,Tryz.ntmps24;go_wp2;simp[VR,UX,Tryz.results24,go_sem];exact⟨c.o _ _,⟨T7,x.n,⟨#[]⟩⟩,⟨rfl,rfl,rfl⟩,.inr ⟨rfl,h,g,λ_=>rfl,λb=>by omega,λb=>by omega⟩⟩
  ·have j:X (∀w,bH 23 #[.int .i64 x.n,.int .i64 2] w λe w'=>w'=w/\∃a,e= .returned (.int .i64 a)/\0<=a/\a<2):=λw=>M5 x.n 2 w (.inl Y) h g;go_enter ay.func24,Tryz.ntmps24
   go_wp2_with (go_at_call 23;refine(j.o _).mono ?_;rintro e w' ⟨n,a,rfl,q,r⟩;rw[n])
   simp[VR,UX,Tryz.results24,go_sem];exact⟨c.o _ _,⟨T7,a,⟨#[]⟩⟩,⟨rfl,rfl,rfl⟩,.inr ⟨rfl,by show _<=a;omega,by show a<=_;omega,λb=>by omega,λ_=>⟨by show a=0\/a=1;omega,rfl⟩,λb=>by omega⟩⟩
  ·unfold Uq at m;by_cases o:32<x.s.size
   ·have s:(x.s.extract 0 32).size=32:=by rw[ByteArray.size_extract];omega
    go_enter ay.func24,Tryz.ntmps24;go_wp2;simp[VR,UX,Tryz.results24,go_sem];exact⟨c.o _ _,⟨T7,0,x.s.extract 0 32⟩,⟨rfl,rfl,rfl⟩,.inr ⟨rfl,by show _<=(0:Int);omega,by show(0:Int)<=_;omega,λb=>by omega,λb=>by omega,λ_=>⟨rfl,by show(x.s.extract 0 32).size<=32;omega⟩⟩⟩
   ·go_enter ay.func24,Tryz.ntmps24;go_wp2;simp[VR,UX,Tryz.results24,go_sem];exact⟨c.o _ _,⟨T7,0,x.s⟩,⟨rfl,rfl,rfl⟩,.inr ⟨rfl,by show _<=(0:Int);omega,by show(0:Int)<=_;omega,λb=>by omega,λb=>by omega,λ_=>⟨rfl,by show x.s.size<=32;omega⟩⟩⟩
def Cw(w:F)(l:List Int)(t:Uh):∀j,j<l.length->(w.alloc (.cells (l.map (λz=>VY .i64 z)).toArray t)).cell? ⟨w.heap.size,0+j,K⟩=I (.int .i64 (l.getD j 0)):=by
 intro j a;have:(w.alloc (.cells (l.map (λz=>VY .i64 z)).toArray t)).heap[w.heap.size]? =I (.cells (l.map (λz=>VY .i64 z)).toArray t (0,0)):=V4 w _;simp only[Us];rw[this];simp[a,Yw]
def fw (k:Int):List Int:=if k=1 then[0,1,2] else if k=2 then[0,2,3] else[0,2]
def OP(k:Int)(a:k=1\/k=2\/k=3):∀e∈fw k,bJ k e=Z:=by
 rcases a with rfl|rfl|rfl<;>decide
def L8(k:Int):(fw k).length<=3:=by
 unfold fw
 split
 ·decide
 ·split<;>decide
def Ac(k:Int)(w:F)(b:k=1\/k=2\/k=3):bH 39 #[.int .i64 k] w λe w'=>aP w w'/\w.heap.size<w'.heap.size/\e= .returned (.slice (I ⟨w.heap.size,0,K⟩) (fw k).length (fw k).length)/\∀j,j<(fw k).length->aM w' w.heap.size (0+j) (.int .i64 ((fw k).getD j 0)):=by
 rcases b with rfl|rfl|rfl
 ·have a:=Cw w [0,1,2] 3;go_enter ay.func39,Tryz.ntmps39;go_wp2;go_ret;exact⟨(Up _ _).alloc (T8 _) _,by simp,rfl,a⟩
 ·have a:=Cw w [0,2,3] 3;go_enter ay.func39,Tryz.ntmps39;go_wp2;go_ret;exact⟨(Up _ _).alloc (T8 _) _,by simp,rfl,a⟩
 ·have a:=Cw w [0,2] 3;go_enter ay.func39,Tryz.ntmps39;go_wp2;go_ret;exact⟨(Up _ _).alloc (T8 _) _,by simp,rfl,a⟩
end Ec
namespace Ec
open Go.RowKit Pk
structure bL where
 name:ByteArray
 kind:Int
def eH (l:List bL):List U:=l.flatMap λa=>[.string a.name,.int .i64 a.kind]
structure xB(w:F)(ao:Option UJ)(b off:Nat)(l:List bL):Prop where
 addr:0<l.length->ao=I ⟨b,off,K⟩
 lt:0<l.length->b<w.heap.size
 c0:∀j (h:j<l.length),aM w b (off+j*2) (.string l[j].name)
 c1:∀j (h:j<l.length),aM w b (off+j*2+1) (.int .i64 l[j].kind)
def xB.below{w w':F}{e:Option UJ}{b off:Nat}{l:List bL}(h:xB w e b off l)(c:aP w w'):xB w' e b off l:=
 ⟨h.addr,λf=>Ud (h.lt f) c.size,
  λa d=>(c.cell (p:=⟨b,off+a*2,K⟩) (h.lt (by omega))).trans (h.c0 a d),
  λa d=>(c.cell (p:=⟨b,off+a*2+1,K⟩) (h.lt (by omega))).trans (h.c1 a d)⟩
def xB.take{w:F}{e:Option UJ}{b off:Nat}{l:List bL}(h:xB w e b off l)(n:Nat):xB w e b off (l.take n):=by
 refine⟨λa=>h.addr ?_,λa=>h.lt ?_,λd c=>?_,λd c=>?_⟩
 ·simp at a;omega
 ·simp at a;omega
 ·rw[VF];exact h.c0 d (by simp at c;omega)
 ·rw[VF];exact h.c1 d (by simp at c;omega)
def vn (w:F)(v:U)(l:List bL):Prop:=∃a c d b,v= .slice a l.length b/\l.length<=b/\xB w a c d l
def vn.below{w w':F}{v:U}{l:List bL}(h:vn w v l)(d:aP w w'):vn w' v l:=by
 obtain⟨a,b,f,c,rfl,e,h⟩:=h;exact⟨a,b,f,c,rfl,e,h.below d⟩
def n5 (c:bL):Bool:=decide ((1:Int)<=(c.name.size:Int))&&decide ((c.name.size:Int)<=16)&&fX c.kind
def px (l:List bL)(i:Nat):Prop:=∀b:i<l.length,n5 l[i]=Z/\∀a (c:a<i),l[a].name≠l[i].name
def hU (l:List bL):Prop:=1<=l.length/\l.length<=8/\∀a,px l a
def B4(c:bL)(w:F):
 bH 80 #[.agg #[.string c.name,.int .i64 c.kind]] w λe w'=>e= .returned (.bool (n5 c))/\aP w w':=by
 have a:=oz c.kind;cases b:decide ((1:Int)<=(c.name.size:Int))<;>cases d:decide ((c.name.size:Int)<=16)
 all_goals
  go_enter ay.func80,Tryz.ntmps80
  go_wp2_with (go_at_call 120;refine(a _).mono ?_;rintro e w' ⟨rfl,rfl⟩)
  all_goals go_ret
  all_goals refine⟨j5 ?_,(Up _ _).alloc (T8 _) _⟩
  all_goals simp_all [n5]
  all_goals try (intros;omega)
def DV(l:List bL)(s:ByteArray)(q:Option UJ)(b off cap:Nat)(w:F)(D:l.length<=Uq)(d:xB w q b off l):
 bH 81 #[.slice q l.length cap,.string s] w λe w'=>∃bb,e= .returned (.bool bb)/\(bb=Z↔∃k,∃h:k<l.length,l[k].name=s)/\aP w w':=by
 unfold Uq at D;have u:=af d;go_enter ay.func81,Tryz.ntmps81
 go_wp2_with fail
 go_loopw [9] (λn wr=>∃a:Nat,a<=l.length/\n= .int .i64 a/\(∀c,(m:c<l.length)->c<a->l[c].name≠s)/\aP w wr) (λn _=>l.length-(US n).toNat)
 case atStart=>exact⟨0,UE _,rfl,λc _ h=>by omega,Up _ _⟩
 case round=>
  obtain⟨a,H,rfl,C,i⟩:=hrel;have p:=af C;have g:=af i;have r:=i.size;by_cases j:a<l.length
  ·have d:=u.o.below i;obtain rfl:=d.addr (by omega);have I:=d.c0 a j;have J:=d.c1 a j;have v:X (l[a].name=s->∃k,∃h:k<l.length,l[k].name=s):=λh=>⟨a,j,h⟩;have z:X (l[a].name≠s->∀c,(m:c<l.length)->c<a+1->l[c].name≠s):=λh c m G=>by
    by_cases B:c=a
    ·subst B;exact h
    ·exact p.o c m (by omega)
   generalize l[a]=o at*;by_cases f:o.name=s
   ·have x:=v.o f;have y:=af x;have E:(o.name.toList==s.toList)=Z:=by rw[f];simp
    go_wp2;go_ret;exact⟨Z,rfl,by simp only[true_iff];exact y.o,g.o.alloc r _⟩
   ·have A:=af (z.o f);have E:(o.name.toList==s.toList)=T7:=by rw[beq_eq_false_iff_ne];exact λh=>f (toList_inj h)
    go_wp2
    go_roundw
    case rel=>exact⟨a+1,by omega,by go_num,A.o,g.o.alloc r _⟩
    case measure=>simp[US];omega
  ·have t:X (¬∃k,∃h:k<l.length,l[k].name=s):=by
    rintro⟨k,h,e⟩;exact p.o k h (by omega) e
   go_wp2;go_ret;exact⟨T7,rfl,by simp only[UB,false_iff];exact t.o,g.o⟩
def oo(w:F)(a b:U)(t:Uh):(w.alloc (.cells #[a,b] t)).cell? ⟨w.heap.size,0,K⟩=I a/\(w.alloc (.cells #[a,b] t)).cell? ⟨w.heap.size,1,K⟩=I b:=by
 constructor<;>simp
def JA{l:List bL}{j:Nat}(b:∀i,i<j->px l i)(c:px l j):∀i,i<j+1->px l i:=by
 intro i d;by_cases a:i=j
 ·rw[a];exact c
 ·exact b i (by omega)
def LP{l:List bL}{j:Nat}(b:1<=l.length)(c:l.length<=8)(d:∀i,i<j->px l i)(e:¬j<l.length):hU l:=
 ⟨b,c,λi a=>d i (by omega) a⟩
def mv(l:List bL)(R:U)(w:F)(a5:l.length<=Uq)(a3:vn w R l):
 bH 55 #[R] w λe w'=>∃bb,e= .returned (.bool bb)/\(bb=Z↔hU l)/\aP w w':=by
 obtain⟨be,s,y,Q,rfl,bm,g⟩:=a3;unfold Uq at a5;by_cases B:1<=l.length/\l.length<=8
 ·obtain⟨B,az⟩:=B;have O:=af g;obtain rfl:=g.addr (by omega);clear g;have S:decide ((l.length:Int)<1)=T7:=by simp;omega
  have aq:decide (8<(l.length:Int))=T7:=by simp;omega
  go_enter ay.func55,Tryz.ntmps55
  go_wp2_with fail
  go_loopw [15] (λd wr=>∃a:Nat,a<=l.length/\d= .int .i64 a/\(∀d,d<a->px l d)/\aP w wr) (λd _=>l.length-(US d).toNat)
  case atStart=>exact⟨0,UE _,rfl,λbx b=>by omega,Up _ _⟩
  case round=>
   obtain⟨a,bo,rfl,V,v⟩:=hrel;have z:=af V;have M:=af v;have a8:=v.size;clear V;by_cases x:a<l.length
   ·have g:=O.o.below v;have bs:=g.c0 a x;have bt:=g.c1 a x;have j:X (∀k,aP wr k->∀t,bH 81 #[.slice (I ⟨s,y,K⟩) a t,.string l[a].name] k λe w'=>∃bb,e= .returned (.bool bb)/\(bb=Z↔∃c,∃b:c<a,l[c].name=l[a].name)/\aP k w'):=λk a1 t=>by
     have:=DV (l.take a) l[a].name (I ⟨s,y,K⟩) s y t k (by simp;unfold Uq;omega) ((g.below a1).take a);have ar:(l.take a).length=a:=by simp;omega
     have a7:Vg (I ⟨s,y,K⟩) a t= .slice (I ⟨s,y,K⟩) (l.take a).length t:=by rw[ar]
     rw[a7];refine this.mono ?_;rintro e w' ⟨bb,rfl,C,a2⟩;refine⟨bb,rfl,C.trans ?_,a2⟩;constructor
     ·rintro⟨c,b,e⟩;rw[VF] at e;exact⟨c,by simp at b;omega,e⟩
     ·rintro⟨c,b,e⟩;refine⟨c,by simp;omega,?_⟩;rw[VF];exact e
    have n:=λk=>B4 l[a] k;have q:X (n5 l[a]=T7->¬hU l):=λb f=>by
     have:=(f.2.2 a x).1;rw[b] at this;cases this
    have A:X ((∃c,∃b:c<a,l[c].name=l[a].name)->¬hU l):=by
     rintro⟨c,b,e⟩ f;exact(f.2.2 a x).2 c b e
    have r:X (n5 l[a]=Z->(¬∃c,∃b:c<a,l[c].name=l[a].name)->∀d,d<a+1->px l d):=λav aw=>JA z.o (λ_=>⟨av,λc a4 e=>aw ⟨c,a4,e⟩⟩);clear g v z O;have am:X (∀P:Prop,P=(∃c,∃b:c<a,l[c].name=l[a].name)->True):=λ_ _=>trivial;clear am;generalize a0:(∃c,∃b:c<a,l[c].name=l[a].name)=P at*;clear a0;generalize l[a]=h at*
    go_upto_region 6 with fail
    have a9:=oo wr (.string h.name) (.int .i64 h.kind) 63;have H:wr.heap.size<(wr.alloc (.cells #[.string h.name,.int .i64 h.kind] 63)).heap.size:=by simp
    have W:aP wr (wr.alloc (.cells #[.string h.name,.int .i64 h.kind] 63)):=(Up _ _).alloc (T8 _) _;generalize wr.alloc (.cells #[.string h.name,.int .i64 h.kind] 63)=o at*;generalize ab:wr.heap.size=E at*;have al:=af ab;clear ab;obtain⟨ba,bu⟩:=a9
    go_cut [30] from 16 to 31 (λbc ad=>∃bb,bc= .bool bb/\(bb=T7->∀d,d<a+1->px l d)/\(bb=Z->¬hU l)/\XS E wr ad)
    case first=>
     cases f:n5 h
     ·have D:=af (q.o f);rw[f] at n;clear q A r f j
      first
       |go_region_with (go_at_call 80;refine(n _).mono ?_;rintro e L ⟨rfl,u⟩)
       |fail
      all_goals
       have p:aP o L:=((Up o.heap.size o).drew).trans u;have m:=af (W.trans (p.mono (Nat.le_of_lt H)));clear u p
       go_wp2_with fail
       go_meet
       exact⟨Z,rfl,(λb=>by cases b),λ_=>D.o,m.o⟩
     ·have ap:=af (r.o f);rw[f] at n;have bi:(0:Int)<=(a:Int):=by omega
      have bj:(a:Int)<=(Q:Int):=by omega
      have bl:a<=Q:=by omega
      clear q r f
      first
       |go_region_with (first
        |(go_at_call 80;refine(n _).mono ?_;rintro e L ⟨rfl,u⟩;have p:aP o L:=((Up o.heap.size o).drew).trans u;have i:=W.trans (p.mono (Nat.le_of_lt H));have bv:=(p.cell (p:=⟨E,0,K⟩) H).trans ba;clear u p)
        |(go_at_call 81;refine(j.o _ i _).mono ?_;rintro e bd ⟨bb,rfl,C,aa⟩))
       |fail
      all_goals
       have m:X (XS E wr bd):=i.trans (aa.mono (by have:=i.size;rw[al.o] at this;exact this));have N:=af C;clear aa C i
       go_wp2_with fail
       go_meet
       refine⟨bb,rfl,λb=>ap.o (λa6=>?_),λb=>A.o (N.o.1 b),m.o⟩;rw[N.o.2 a6] at b;cases b
    case rest=>
     rename F=>ad
     obtain⟨bb,rfl,J,G,i⟩:=hcut;have m:=af (M.o.trans (i.mono a8));cases bb
     ·have ae:=af (J Y);clear J G i q A r j n;go_wp2
      go_roundw
      case rel=>exact⟨a+1,by omega,by go_num,ae.o,m.o⟩
      case measure=>simp[US];omega
     ·have D:=af (G Y);clear J G i q A r j n;go_wp2;go_ret;exact⟨T7,rfl,by simp only[UB,false_iff];exact D.o,m.o⟩
   ·have ao:=af (LP B az z.o x);clear z v;go_wp2;go_ret;exact⟨Z,rfl,by simp only[true_iff];exact ao.o,M.o⟩
 ·have T:¬hU l:=λb=>B ⟨b.1,b.2.1⟩;have j:=af T;clear g T;by_cases br:l.length<1
  ·have S:decide ((l.length:Int)<1)=Z:=by simp;omega
   go_enter ay.func55,Tryz.ntmps55;go_wp2
   all_goals go_ret
   all_goals exact⟨T7,rfl,by simp only[UB,false_iff];exact j.o,Up _ _⟩
  ·have S:decide ((l.length:Int)<1)=T7:=by simp;omega
   have aq:decide (8<(l.length:Int))=Z:=by simp;omega
   go_enter ay.func55,Tryz.ntmps55;go_wp2
   all_goals go_ret
   all_goals exact⟨T7,rfl,by simp only[UB,false_iff];exact j.o,Up _ _⟩
def rB (b:List aE)(cs:List bL):Prop:=b.length=cs.length/\∀a,(c:a<b.length)->(d:a<cs.length)->fQ b[a] cs[a].kind=Z
def JE(b:List aE)(cs:List bL)(Q H:U)(w:F)(am:b.length<=Uq)(ao:cs.length<=Uq)(N:∀c∈cs,c.kind=1\/c.kind=2\/c.kind=3)(ap:rY w Q b)(al:vn w H cs):
 bH 56 #[Q,H] w λe w'=>∃bb,e= .returned (.bool bb)/\(bb=Z↔rB b cs)/\aP w w':=by
 obtain⟨a1,a2,a9,a3,rfl,a6,g⟩:=al;obtain⟨bc,v,bh,aN,rfl,f⟩:=ap;unfold Uq at am ao;by_cases q:b.length=cs.length
 ·have P:((b.length:Int) !=(cs.length:Int))=T7:=by simp[q]
  have A:=af q;have C:=af g;have D:=af f;have z:=af N;clear g q f N;go_enter ay.func56,Tryz.ntmps56
  go_wp2_with fail
  clear P
  go_loopw [14] (λd wr=>∃a:Nat,a<=cs.length/\d= .int .i64 a/\(∀d,(k:d<b.length)->(l:d<cs.length)->d<a->fQ b[d] cs[d].kind=Z)/\aP w wr) (λd _=>cs.length-(US d).toNat)
  case atStart=>exact⟨0,UE _,rfl,λbd _ _ h=>by omega,Up _ _⟩
  case round=>
   obtain⟨a,a7,rfl,I,i⟩:=hrel;have o:=af I;have x:=af i;have aq:=i.size;clear I;by_cases n:a<cs.length
   ·have g:=C.o.below i;have f:=D.o.below i;have r:a<b.length:=by rw[A.o];exact n
    obtain rfl:=g.addr (by omega);obtain rfl:=f.addr (by omega);have u:=f.lt (by omega);have ar:=g.c0 a n;have av:=g.c1 a n;have R:=f.c0 a r;have S:=f.c1 a r;have T:=f.c2 a r;have O:=z.o cs[a] (Uj n);have B:X (∀p,bH 82 #[.agg #[.bool b[a].null,.int .i64 b[a].n,.string b[a].s],.int .i64 cs[a].kind] p λe w'=>e= .returned (.bool (fQ b[a] cs[a].kind))/\aP p w'):=λp=>qH b[a] cs[a].kind p O;have s:X (fQ b[a] cs[a].kind=T7->¬rB b cs):=λh ae=>by
     have:=ae.2 a r n;rw[h] at this;cases this
    have t:X (fQ b[a] cs[a].kind=Z->∀d,(k:d<b.length)->(l:d<cs.length)->d<a+1->fQ b[d] cs[d].kind=Z):=λh d k l a5=>by
     by_cases ad:d=a
     ·subst ad;exact h
     ·exact o.o d k l (by omega)
    clear g f i o C D z O;generalize b[a]=W at*;generalize cs[a]=c at*;have a8:(a:Int)<(b.length:Int):=by omega
    go_upto_region 6 with fail
    obtain⟨aw,ba⟩:=oo wr (.string c.name) (.int .i64 c.kind) 63;have m:aP wr (wr.alloc (.cells #[.string c.name,.int .i64 c.kind] 63)):=(Up _ _).alloc (T8 _) _;have u0:=(m.cell (p:=⟨v,bh+a*3,K⟩) u).trans R;have u1:=(m.cell (p:=⟨v,bh+a*3+1,K⟩) u).trans S;have u2:=(m.cell (p:=⟨v,bh+a*3+2,K⟩) u).trans T;have y:=af (x.o.trans (m.mono aq));clear m ar av R S T aw;generalize wr.alloc (.cells #[.string c.name,.int .i64 c.kind] 63)=G at*;generalize wr.heap.size=a4 at*
    go_cut [26] from 15 to 27 (λaz V=>az= .bool (!fQ W c.kind)/\aP w V)
    case first=>
     go_region_with (go_at_call 82;refine(B.o _).mono ?_;rintro e a0 ⟨rfl,L⟩)
     all_goals
      have j:X (aP w a0):=y.o.trans ((((Up G.heap.size G).drew).trans L).mono y.o.size);clear L
      go_wp2_with fail
      go_meet
      exact⟨rfl,j.o⟩
    case rest=>
     rename F=>V
     obtain⟨rfl,M⟩:=hcut;have j:=af M;clear M B;cases J:fQ W c.kind
     ·have E:=af (s.o J);clear s t;go_wp2;go_ret
      first
       |exact⟨T7,rfl,by simp only[UB,false_iff];exact E.o,j.o⟩
       |exact .inl ⟨rfl,E.o,j.o⟩
     ·have ab:=af (t.o J);clear s t;go_wp2
      go_roundw
      case rel=>exact⟨a+1,by omega,by go_num,ab.o,j.o⟩
      case measure=>simp[US];omega
   ·have aa:X (rB b cs):=⟨A.o,λd k l=>o.o d k l (by omega)⟩;clear o i;go_wp2;go_ret;exact⟨Z,rfl,by simp only[true_iff];exact aa.o,x.o⟩
 ·have P:((b.length:Int) !=(cs.length:Int))=Z:=by simp;omega
  have Y:X (¬rB b cs):=λh=>q h.1;clear g f;go_enter ay.func56,Tryz.ntmps56;go_wp2
  all_goals go_ret
  all_goals exact⟨T7,rfl,by simp only[UB,false_iff];exact Y.o,Up _ _⟩
structure Df(w:F)(ao:Option UJ)(b off:Nat)(l:List (List aE)):Prop where
 addr:0<l.length->ao=I ⟨b,off,K⟩
 lt:0<l.length->b<w.heap.size
 c:∀j (h:j<l.length),∃v,aM w b (off+j) v/\rY w v l[j]
def Df.below{w w':F}{c:Option UJ}{b off:Nat}{l:List (List aE)}(h:Df w c b off l)(a:aP w w'):Df w' c b off l:=
 ⟨h.addr,λe=>Ud (h.lt e) a.size,λd i=>by
  obtain⟨v,f,g⟩:=h.c d i;exact⟨v,(a.cell (p:=⟨b,off+d,K⟩) (h.lt (by omega))).trans f,g.below a⟩⟩
def AB (w:F)(v:U)(l:List (List aE)):Prop:=∃a c d b,v= .slice a l.length b/\l.length<=b/\Df w a c d l
def AB.below{w w':F}{v:U}{l:List (List aE)}(h:AB w v l)(d:aP w w'):AB w' v l:=by
 obtain⟨a,b,f,c,rfl,e,h⟩:=h;exact⟨a,b,f,c,rfl,e,h.below d⟩
def iH (cs:List bL)(a:List (List aE)):Prop:=hU cs/\a.length<=2000/\∀b,(c:b<a.length)->rB a[b] cs
def gw{cs:List bL}(h:hU cs):∀c∈cs,c.kind=1\/c.kind=2\/c.kind=3:=by
 intro c a;obtain⟨d,b,rfl⟩:=Vv a;have:=(h.2.2 d b).1;simp[n5,fX] at this;omega
def pP{Q:Prop}{R:F->Prop}{P:Uf}{f:Nat}{args:Array U}{w:F}(h:Calls P f args w λe w'=>∃bb,e= .returned (.bool bb)/\(bb=Z↔Q)/\R w')(c:Q):Calls P f args w λe w'=>e= .returned (.bool Z)/\R w':=
 h.mono (by rintro e w' ⟨bb,rfl,b,a⟩;rw[b.2 c];exact⟨rfl,a⟩)
def n7{Q:Prop}{R:F->Prop}{P:Uf}{f:Nat}{args:Array U}{w:F}(h:Calls P f args w λe w'=>∃bb,e= .returned (.bool bb)/\(bb=Z↔Q)/\R w')(c:¬Q):Calls P f args w λe w'=>e= .returned (.bool T7)/\R w':=
 h.mono (by
  rintro e w' ⟨bb,rfl,b,a⟩;cases bb
  ·exact⟨rfl,a⟩
  ·exact absurd (b.1 Y) c)
def D1(cs:List bL)(a:List (List aE))(M T:U)(w:F)(O:cs.length<=Uq)(a4:a.length<=Uq)(a5:∀r∈a,r.length<=Uq)(N:vn w M cs)(a7:AB w T a):
 bH 40 #[.agg #[M,T]] w λe w'=>∃bb,e= .returned (.bool bb)/\(bb=Z↔iH cs a)/\aP w w':=by
 have a2:=N;obtain⟨m,bc,bm,n,rfl,be,-⟩:=a2;obtain⟨t,bo,bh,aN,rfl,bl,p⟩:=a7;have ab:=af N;have ao:=af p;have B:=af O;have ad:=af a5;unfold Uq at O a4;go_enter ay.func40,Tryz.ntmps40
 go_upto_region 1 with fail
 obtain⟨s,I⟩:=oo w (.slice m cs.length n) (.slice t a.length aN) 46;have E:aP w (w.alloc (.cells #[.slice m cs.length n,.slice t a.length aN] 46)):=(Up _ _).alloc (T8 _) _;have k:w.heap.size<(w.alloc (.cells #[.slice m cs.length n,.slice t a.length aN] 46)).heap.size:=by simp
 have aa:=ab.o.below E;have al:=ao.o.below E;have u:=af E;generalize w.alloc (.cells #[.slice m cs.length n,.slice t a.length aN] 46)=D at*;have y:=af aa;have am:=af al;generalize a3:w.heap.size=j at*;have z:=af a3;by_cases o:hU cs
 ·have i:=pP (mv cs _ D B.o y.o) o;have J:=af o;by_cases P:a.length<=2000
  ·have aw:decide (2000<(a.length:Int))=T7:=by simp;omega
   go_wp2_with (go_at_call 55;refine i.mono ?_;rintro e V ⟨rfl,f⟩;have R:=(f.cell (p:=⟨j,0,K⟩) k).trans s;have S:=(f.cell (p:=⟨j,1,K⟩) k).trans I)
   have Y:=af f
   go_loopw [18] (λb wr=>∃c:Nat,c<=a.length/\b= .int .i64 c/\(∀b,(g:b<a.length)->b<c->rB a[b] cs)/\aP D wr) (λb _=>a.length-(US b).toNat)
   case atStart=>exact⟨0,UE _,rfl,λbr _ g=>by omega,Y.o⟩
   case round=>
    rename F=>wr
    obtain⟨c,bj,rfl,a0,l⟩:=hrel;have i:=af a0;have W:=af l;have x:X (aP w wr):=by
     show aP w wr;have d:=u.o;have h:=l.mono d.size;rw[z.o] at h ⊢;exact d.trans h
    have bs:=(l.cell (p:=⟨j,0,K⟩) k).trans s;have a8:=l.size;by_cases H:c<a.length
    ·have p:=am.o.below l;obtain rfl:=p.addr (by omega);obtain⟨v,bi,Q⟩:=p.c c H;have a6:=ad.o a[c] (Uj H);have L:=af (JE a[c] cs v _ wr a6 B.o (gw J.o) Q (y.o.below l));have ap:X (¬rB a[c] cs->¬iH cs a):=λg a1=>g (a1.2.2 c H);have ar:X (rB a[c] cs->∀b,(g:b<a.length)->b<c+1->rB a[b] cs):=λg b d bd=>by
      by_cases az:b=c
      ·subst az;exact g
      ·exact i.o b d (by omega)
     obtain⟨bu,bt,ki,gP,rfl,-⟩:=Q;generalize a[c]=ba at*;by_cases q:rB ba cs
     ·have A:=af (pP L.o q);have av:=af (ar.o q)
      go_wp2_with (go_at_call 56;refine A.o.mono ?_;rintro e a9 ⟨rfl,G⟩)
      go_roundw
      case rel=>exact⟨c+1,by omega,by go_num,av.o,W.o.trans (G.mono a8)⟩
      case measure=>simp[US];omega
     ·have A:=af (n7 L.o q);have aq:=af (ap.o q)
      go_wp2_with (go_at_call 56;refine A.o.mono ?_;rintro e a9 ⟨rfl,G⟩)
      go_ret;exact⟨T7,rfl,by simp only[UB,false_iff];exact aq.o,x.o.trans (G.mono x.o.size)⟩
    ·have ae:X (iH cs a):=⟨J.o,P,λb d=>i.o b d (by omega)⟩;go_wp2;go_ret;exact⟨Z,rfl,by simp only[true_iff];exact ae.o,x.o⟩
  ·have aw:decide (2000<(a.length:Int))=Z:=by simp;omega
   have C:X (¬iH cs a):=λg=>P g.2.1
   go_wp2_with (go_at_call 55;refine i.mono ?_;rintro e V ⟨rfl,f⟩;have R:=(f.cell (p:=⟨j,0,K⟩) k).trans s;have S:=(f.cell (p:=⟨j,1,K⟩) k).trans I)
   go_ret;refine⟨T7,rfl,by simp only[UB,false_iff];exact C.o,?_⟩;have d:=u.o;have h:=f.mono d.size;rw[z.o] at h ⊢;exact d.trans h
 ·have i:=n7 (mv cs _ D B.o y.o) o;have C:X (¬iH cs a):=λg=>o g.1
  go_wp2_with (go_at_call 55;refine i.mono ?_;rintro e V ⟨rfl,f⟩;have R:=(f.cell (p:=⟨j,0,K⟩) k).trans s;have S:=(f.cell (p:=⟨j,1,K⟩) k).trans I)
  go_ret;refine⟨T7,rfl,by simp only[UB,false_iff];exact C.o,?_⟩;have d:=u.o;have h:=f.mono d.size;rw[z.o] at h ⊢;exact d.trans h
end Ec
namespace Ec
open Go.RowKit Pk Pm
def qc(c n:Int)(w:F)(i:1<=n)(j:n<=1000)(g: -9223372036854775808<=c)(h1:c<=9223372036854775807):bH 23 #[.int .i64 c,.int .i64 n] w λe w'=>w'=w/\∃r,e= .returned (.int .i64 r)/\0<=r/\r<n:=by
 have k:¬n=0:=by omega
 by_cases h:c<0
 ·have d:Vb (c+1)=c+1:=by unfold Vb;omega
  have f:Vb (-(c+1))= -(c+1):=by unfold Vb;omega
  have a:=tmod_neg (c+1) n (by omega) (by omega);have b:Vb (-((c+1).tmod n))= -((c+1).tmod n):=by unfold Vb;omega
  go_enter ay.func23,Tryz.ntmps23;go_wp2;go_ret;exact⟨rfl,_,rfl,a⟩
 ·have a:=E3 c n (by omega) (by omega);have b:Vb (c.tmod n)=c.tmod n:=by unfold Vb;omega
  go_enter ay.func23,Tryz.ntmps23;go_wp2;go_ret;exact⟨rfl,_,rfl,Int.emod_nonneg _ (by omega),Int.emod_lt_of_pos _ (by omega)⟩
def nameOf(k:Nat):ByteArray:=⟨#[UInt8.ofNat (97+k)]⟩
def MR(k:Nat)(w:F)(m:k<8):bH 38 #[.int .i64 (k:Int)] w λe w'=>aP w w'/\e= .returned (.string (nameOf k)):=by
 have a:∀b:Nat,(convert 133 9 (.slice (I ⟨w.heap.size,0,K⟩) 1 1)).run (aB T4) (w.alloc (.cells #[.int .u8 (b:Int)] 5))= .ok (.string (strOf [b])) (w.alloc (.cells #[.int .u8 (b:Int)] 5)):=λb=>DC w b;have:k=0\/k=1\/k=2\/k=3\/k=4\/k=5\/k=6\/k=7:=by omega
 have c:=a 97;have d:=a 98;have f:=a 99;have g:=a 100;have h:=a 101;have i:=a 102;have j:=a 103;have l:=a 104;simp only[Int.cast_ofNat_Int] at c d f g h i j l;rcases this with rfl|rfl|rfl|rfl|rfl|rfl|rfl|rfl
 all_goals
  go_enter ay.func38,Tryz.ntmps38;go_wp2;go_ret;exact⟨(Up _ _).alloc (T8 _) _,rfl⟩
end Ec
namespace Ec
open Go.RowKit Pk
def D9 (a b:Int):Int:=if a<b then -1 else if b<a then 1 else 0
def fp (x y:aE):Int:=if x.n<y.n then -1 else if y.n<x.n then 1 else Vd x.s.data.toList y.s.data.toList
def Qd(x y:aE):fp x y=if D9 x.n y.n=0 then Vd x.s.data.toList y.s.data.toList else D9 x.n y.n:=by
 unfold fp D9;by_cases a:x.n<y.n
 ·rw[if_pos a,if_pos a,if_neg (by omega)]
 ·rw[if_neg a,if_neg a];by_cases b:y.n<x.n
  ·rw[if_pos b,if_pos b,if_neg (by omega)]
  ·rw[if_neg b,if_neg b,if_pos Y]
def JD(a:Int)(w:F):bH 159 #[.int .i64 a] w λe w'=>e= .returned (.bool T7)/\w'=w:=by
 go_enter ay.func159,Tryz.ntmps159;go_wp2;go_ret;exact⟨rfl,rfl⟩
def xX(a b:Int)(w:F):bH 148 #[.int .i64 a,.int .i64 b] w λe w'=>e= .returned (.int .i64 (D9 a b))/\w'=w:=by
 have c:=JD;unfold D9;go_enter ay.func148,Tryz.ntmps148;by_cases d:a<b
 ·rw[if_pos d]
  go_wp2_with (go_at_call 159;refine(c _ _).mono ?_;rintro g w' ⟨rfl,rfl⟩)
  go_ret;exact⟨rfl,rfl⟩
 ·rw[if_neg d];by_cases f:b<a
  ·rw[if_pos f]
   go_wp2_with (go_at_call 159;refine(c _ _).mono ?_;rintro g w' ⟨rfl,rfl⟩)
   go_ret;exact⟨rfl,rfl⟩
  ·rw[if_neg f]
   go_wp2_with (go_at_call 159;refine(c _ _).mono ?_;rintro g w' ⟨rfl,rfl⟩)
   go_ret;exact⟨rfl,rfl⟩
def z7(a b:ByteArray)(w:F):bH 160 #[.string a,.string b] w λe w'=>e= .returned (.int .i64 (Vd a.data.toList b.data.toList))/\w'=w:=by
 go_enter ay.func160,Tryz.ntmps160;go_wp2;rw[run_callFunc_extern ay.func168 (by kernel_rfl) (by kernel_rfl) (by kernel_rfl) (e:=Xy) (by kernel_rfl),Lib.run_compareString];simp only[Result.andThen];rw[Oper.upon_value];go_wp2;go_ret;exact⟨rfl,rfl⟩
def CC(a b:ByteArray)(w:F):bH 149 #[.string a,.string b] w λe w'=>e= .returned (.int .i64 (Vd a.data.toList b.data.toList))/\w'=w:=by
 go_enter ay.func149,Tryz.ntmps149
 go_wp2_with (go_at_call 160;refine(z7 _ _ _).mono ?_;rintro e w' ⟨rfl,rfl⟩)
 go_ret;exact⟨rfl,rfl⟩
def Je(a b:Int)(g:Nat)(w:F)(p:aM w g 0 (.int .i64 a))(h1:aM w g 1 (.int .i64 b)):
 bH 147 #[.slice (I ⟨g,0,K⟩) 2 2] w λe w'=>e= .returned (.int .i64 (if a=0 then b else a))/\w'=w:=by
 go_enter ay.func147,Tryz.ntmps147
 go_wp2_with fail
 go_loopw [8] (λi wr=>∃d:Nat,d<=2/\i= .int .i64 (d:Int)/\(1<=d->a=0)/\(2<=d->b=0)/\wr=w) (λi _=>2-(US i).toNat)
 case atStart=>exact⟨0,by omega,rfl,λl=>by omega,λl=>by omega,rfl⟩
 case round=>
  obtain⟨d,o,rfl,m,n,rfl⟩:=hrel;have j:=af m;have k:=af n
  match d,o with
  |0,_=>
   by_cases c:a=0
   ·have h:(a !=0)=T7:=by simp[c]
    have f:=af c;go_wp2
    go_roundw
    case rel=>
     refine⟨1,by omega,rfl,λ_=>f.o,?_⟩;simp
    case measure=>simp[US]
   ·have h:(a !=0)=Z:=by simp[c]
    have f:=af c;go_wp2;go_ret;exact⟨rfl,rfl⟩
  |1,_=>
   obtain rfl:a=0:=j.o (by omega);by_cases c:b=0
   ·have h:(b !=0)=T7:=by simp[c]
    have f:=af c;go_wp2
    go_roundw
    case rel=>
     refine⟨2,by omega,rfl,?_⟩;simp
     try exact f.o
    case measure=>simp[US]
   ·have h:(b !=0)=Z:=by simp[c]
    go_wp2;go_ret;exact⟨rfl,rfl⟩
  |2,_=>
   obtain rfl:a=0:=j.o (by omega);obtain rfl:b=0:=k.o (by omega);go_wp2;go_ret;exact⟨rfl,rfl⟩
theorem AO:∀A B:List UInt8,Vd A B= - Vd B A
 | [],[]=>rfl
 | [],_::_=>rfl
 |_::_,[]=>rfl
 |a::f,d::g=>by
  have e:=AO f g;simp only[Vd];by_cases b:a<d
  ·rw[if_pos b,if_neg (by rw[UInt8.lt_iff_toNat_lt] at b ⊢;omega),if_pos b]
  ·rw[if_neg b];by_cases c:d<a
   ·rw[if_pos c,if_pos c];rfl
   ·rw[if_neg c,if_neg c,if_neg b,e]
def mg(x y:aE):fp x y= - fp y x:=by
 unfold fp;by_cases a:x.n<y.n
 ·rw[if_pos a,if_neg (by omega),if_pos a]
 ·rw[if_neg a];by_cases b:y.n<x.n
  ·rw[if_pos b,if_pos b];rfl
  ·rw[if_neg b,if_neg b,if_neg a];exact AO _ _
def vh(x:aE):fp x x=0:=by
 have:=mg x x;omega
structure lB where
 there:Bool
 least:aE
 most:aE
def cE:lB:=⟨T7,⟨T7,0,⟨#[]⟩⟩,⟨T7,0,⟨#[]⟩⟩⟩
def nX (b:lB)(v:aE):lB:=
 if v.null then b
 else⟨Z,if b.there=T7\/fp v b.least<0 then v else b.least,if b.there=T7\/0<fp v b.most then v else b.most⟩
def cw (l:List aE):lB:=l.foldl nX cE
def BK(l:List aE)(k:Nat)(h:k<l.length):cw (l.take (k+1))=nX (cw (l.take k)) l[k]:=by
 unfold cw;rw[Uo h,List.foldl_append];rfl
def gA{w:F}(o p:Xv):aP w ((w.alloc o).alloc p):=((Up _ _).alloc (T8 _) o).alloc (by simp) p
def LA(w:F)(x y:aE):(λW:F=>aM W w.heap.size 1 (.int .i64 x.n)/\aM W w.heap.size 2 (.string x.s)/\aM W (w.heap.size+1) 1 (.int .i64 y.n)/\aM W (w.heap.size+1) 2 (.string y.s)) ((w.alloc (.cells (gZ x) 59)).alloc (.cells (gZ y) 59)):=by
 refine⟨?_,?_,?_,?_⟩<;>simp
def jI(x y:aE)(w:F):
 bH 125 #[.agg (gZ x),.agg (gZ y)] w λe w'=>e= .returned (.int .i64 (fp x y))/\aP w w':=by
 have j:=xX x.n y.n;have k:=CC x.s y.s;have l:X (∀(a:F) (d:Nat),d=a.heap.size->bH 147 #[.slice (I ⟨d,0,K⟩) 2 2] ((a.alloc (.cells #[.int .i64 (D9 x.n y.n),.int .i64 (Vd x.s.data.toList y.s.data.toList)] 3)).drew) λe w'=>e= .returned (.int .i64 (fp x y))/\w'=((a.alloc (.cells #[.int .i64 (D9 x.n y.n),.int .i64 (Vd x.s.data.toList y.s.data.toList)] 3)).drew)):=λa d i=>by
  rw[Qd];subst i;exact Je _ _ a.heap.size _ (by simp) (by simp)
 generalize D9 x.n y.n=n at*;generalize Vd x.s.data.toList y.s.data.toList=o at*;generalize fp x y=p at*;go_enter ay.func125,Tryz.ntmps125
 go_upto_region 1 with fail
 have h:aP w ((w.alloc (.cells (gZ x) 59)).alloc (.cells (gZ y) 59)):=gA _ _;have m:=LA w x y;have i:w.heap.size+1<((w.alloc (.cells (gZ x) 59)).alloc (.cells (gZ y) 59)).heap.size:=by simp
 generalize (w.alloc (.cells (gZ x) 59)).alloc (.cells (gZ y) 59)=f at*;obtain⟨s,t,u,v⟩:=m;have q:w.heap.size≠f.heap.size:=by omega
 have r:w.heap.size+1≠f.heap.size:=by omega
 generalize w.heap.size+1=g at*
 go_region_held (λa=>aM a w.heap.size 1 (.int .i64 x.n)/\aM a w.heap.size 2 (.string x.s)/\aM a g 1 (.int .i64 y.n)/\aM a g 2 (.string y.s)) (go_keep) (first
  |(go_at_call 148;refine(j _).mono ?_;rintro e c ⟨rfl,b⟩;rw[b];clear b c)
  |(go_at_call 149;refine(k _).mono ?_;rintro e c ⟨rfl,b⟩;rw[b];clear b c)
  |(go_at_call 147;refine(l.o _ _ Y).mono ?_;rintro e c ⟨rfl,b⟩;rw[b];clear b c))
 all_goals go_wp2_with fail
 all_goals go_ret
 all_goals exact⟨rfl,(h.alloc h.size _).drew⟩
end Ec
namespace Ec
open Go.RowKit Pk Pm
def aQ(w:F)(g o:Nat)(v:U):w.grownBy (w.setCell ⟨g,o,K⟩ v) (I g):=
 ⟨rfl,rfl,rfl,by simp,λc _ b=>Uu _ _ _ _ (λa=>b (by cases a;rfl))⟩
def di{n:Nat}{w a:F}(h:XS n w a)(c:n<=a.heap.size){g:Nat}(e:n<=g)(o:Nat)(v:U):XS n w (a.setCell ⟨g,o,K⟩ v):=
 h.grown (aQ a g o v) c (by intro d b;simp at b;omega)
def bT{n:Nat}{w a:F}(h:XS n w a)(c:n<=w.heap.size){g:Nat}(b:n<=g)(o:Nat)(v:U):XS n w (a.setCell ⟨g,o,K⟩ v):=
 di h (Uy c h.size) b o v
def bk(w:F)(o:Xv):(w.alloc o).heap[w.heap.size]? =I o:=by
 show(w.heap.push o)[w.heap.size]? =I o;simp
def alloc_old{w:F}{k:Nat}{x:Option Xv}(o:Xv)(h:k<w.heap.size)(a:w.heap[k]? =x):(w.alloc o).heap[k]? =x:=
 (((Up w.heap.size w).alloc (T8 _) o).block k h).trans a
def jH(w:F)(o p:Xv):((w.alloc o).alloc p).heap[w.heap.size+1]? =I p:=by
 have:=bk (w.alloc o) p;rwa [show(w.alloc o).heap.size=w.heap.size+1 by simp] at this
def gp (b:lB):Array U:= #[.bool b.there,.bool b.least.null,.int .i64 b.least.n,.string b.least.s,.bool b.most.null,.int .i64 b.most.n,.string b.most.s]
def FE (b:lB):U:=.agg #[.bool b.there,.bool b.least.null,.int .i64 b.least.n,.string b.least.s,.bool b.most.null,.int .i64 b.most.n,.string b.most.s]
structure Fl(w W:F)(gv:Nat)(x:aE)(b:lB):Prop where
 box:W.heap[w.heap.size+1]? =I (.cells (gp b) 141 (0,0))
 res:W.heap[w.heap.size]? =I (.cells (gp cE) 141 (0,0))
 one:W.heap[gv]? =I (.cells (gZ x) 59 (0,0))
 zR:w.heap.size+1<gv
 dg:aP w W
def Fl.below{w W c:F}{d:Nat}{x:aE}{b:lB}(h:Fl w W d x b)(a:aP W c):Fl w c d x b:=
 ⟨(a.block _ (Ue h.box)).trans h.box,(a.block _ (Ue h.res)).trans h.res,(a.block _ (Ue h.one)).trans h.one,h.zR,h.dg.trans (a.mono h.dg.size)⟩
def Fl.least{w W:F}{c:Nat}{x:aE}{b:lB}(h:Fl w W c x b):
 Fl w (((W.setCell ⟨w.heap.size+1,1,K⟩ (.bool x.null)).setCell ⟨w.heap.size+1,2,K⟩ (.int .i64 x.n)).setCell ⟨w.heap.size+1,3,K⟩ (.string x.s)) c x ⟨b.there,x,b.most⟩:=by
 have d:=Ur W (w.heap.size+1) 1 _ _ (.bool x.null) h.box;have e:=Ur _ (w.heap.size+1) 2 _ _ (.int .i64 x.n) d;have f:=Ur _ (w.heap.size+1) 3 _ _ (.string x.s) e;have a:=h.dg.size;have g:=h.zR;refine⟨f,?_,?_,h.zR,?_⟩
 ·rw[Uu _ _ _ _ (by simp),Uu _ _ _ _ (by simp),Uu _ _ _ _ (by simp)];exact h.res
 ·rw[Uu _ _ _ _ (by simp;omega),Uu _ _ _ _ (by simp;omega),Uu _ _ _ _ (by simp;omega)];exact h.one
 ·exact di (di (di h.dg a (by omega) _ _) (by simpa using a) (by omega) _ _) (by simpa using a) (by omega) _ _
def Fl.most{w W:F}{c:Nat}{x:aE}{b:lB}(h:Fl w W c x b):
 Fl w (((W.setCell ⟨w.heap.size+1,4,K⟩ (.bool x.null)).setCell ⟨w.heap.size+1,5,K⟩ (.int .i64 x.n)).setCell ⟨w.heap.size+1,6,K⟩ (.string x.s)) c x ⟨b.there,b.least,x⟩:=by
 have d:=Ur W (w.heap.size+1) 4 _ _ (.bool x.null) h.box;have e:=Ur _ (w.heap.size+1) 5 _ _ (.int .i64 x.n) d;have f:=Ur _ (w.heap.size+1) 6 _ _ (.string x.s) e;have a:=h.dg.size;have g:=h.zR;refine⟨f,?_,?_,h.zR,?_⟩
 ·rw[Uu _ _ _ _ (by simp),Uu _ _ _ _ (by simp),Uu _ _ _ _ (by simp)];exact h.res
 ·rw[Uu _ _ _ _ (by simp;omega),Uu _ _ _ _ (by simp;omega),Uu _ _ _ _ (by simp;omega)];exact h.one
 ·exact di (di (di h.dg a (by omega) _ _) (by simpa using a) (by omega) _ _) (by simpa using a) (by omega) _ _
def Fl.set{w W:F}{a:Nat}{x:aE}{b:lB}(h:Fl w W a x b):Fl w (W.setCell ⟨w.heap.size+1,0,K⟩ (.bool Z)) a x ⟨Z,b.least,b.most⟩:=by
 have c:=Ur W (w.heap.size+1) 0 _ _ (.bool Z) h.box;have d:=h.dg.size;have e:=h.zR;refine⟨c,?_,?_,h.zR,?_⟩
 ·rw[Uu _ _ _ _ (by simp)];exact h.res
 ·rw[Uu _ _ _ _ (by simp;omega)];exact h.one
 ·exact di h.dg d (by omega) _ _
def dZ{w:F}{g:Nat}{b:lB}{t:Uh}(h:w.heap[g]? =I (.cells (gp b) t (0,0))):
 (aM w g 0 (.bool b.there)/\aM w g 1 (.bool b.least.null)/\aM w g 2 (.int .i64 b.least.n)/\aM w g 3 (.string b.least.s)/\
   aM w g 4 (.bool b.most.null)/\aM w g 5 (.int .i64 b.most.n)/\aM w g 6 (.string b.most.s))/\
 (w.frozen? ⟨g,0,K⟩=T7/\w.frozen? ⟨g,1,K⟩=T7/\w.frozen? ⟨g,2,K⟩=T7/\w.frozen? ⟨g,3,K⟩=T7/\w.frozen? ⟨g,4,K⟩=T7/\w.frozen? ⟨g,5,K⟩=T7/\w.frozen? ⟨g,6,K⟩=T7):=by
 unfold gp at h;refine⟨⟨?_,?_,?_,?_,?_,?_,?_⟩,?_,?_,?_,?_,?_,?_,?_⟩<;>first|simp[Us,h]|simp[UQ,h]
def cB{w:F}{g:Nat}{a b c:U}{t:Uh}(h:w.heap[g]? =I (.cells #[a,b,c] t (0,0))):
 aM w g 0 a/\aM w g 1 b/\aM w g 2 c:=by
 refine⟨?_,?_,?_⟩<;>simp[Us,h]
def Fl.start{w wr:F}{b:lB}(x:aE)(d:wr.heap[w.heap.size+1]? =I (.cells (gp b) 141 (0,0)))(e:wr.heap[w.heap.size]? =I (.cells (gp cE) 141 (0,0)))(c:aP w wr):
 Fl w (wr.alloc (.cells (gZ x) 59)) wr.heap.size x b:=by
 have f:=Ue d;have g:=Ue e;have a:=(Up wr.heap.size wr).alloc (T8 _) (.cells (gZ x) 59);refine⟨(a.block _ f).trans d,(a.block _ g).trans e,bk _ _,by omega,c.trans (a.mono c.size)⟩
def Ov{w:F}{g:Nat}{a:lB}(b:lB){t:Uh}(h:w.heap[g]? =I (.cells (gp a) t (0,0))):
 (((((((w.setCell ⟨g,0,K⟩ (.bool b.there)).setCell ⟨g,1,K⟩ (.bool b.least.null)).setCell ⟨g,2,K⟩ (.int .i64 b.least.n)).setCell ⟨g,3,K⟩ (.string b.least.s)).setCell ⟨g,4,K⟩ (.bool b.most.null)).setCell ⟨g,5,K⟩ (.int .i64 b.most.n)).setCell ⟨g,6,K⟩ (.string b.most.s)).heap[g]? =I (.cells (gp b) t (0,0)):=by
 have c:(w.setCell ⟨g,0,K⟩ (.bool b.there)).heap[g]? =I (.cells (gp ⟨b.there,⟨a.least.null,a.least.n,a.least.s⟩,⟨a.most.null,a.most.n,a.most.s⟩⟩) t (0,0)):=Ur _ g 0 _ _ (.bool b.there) h;have d:((w.setCell ⟨g,0,K⟩ (.bool b.there)).setCell ⟨g,1,K⟩ (.bool b.least.null)).heap[g]? =I (.cells (gp ⟨b.there,⟨b.least.null,a.least.n,a.least.s⟩,⟨a.most.null,a.most.n,a.most.s⟩⟩) t (0,0)):=Ur _ g 1 _ _ (.bool b.least.null) c;have e:(((w.setCell ⟨g,0,K⟩ (.bool b.there)).setCell ⟨g,1,K⟩ (.bool b.least.null)).setCell ⟨g,2,K⟩ (.int .i64 b.least.n)).heap[g]? =I (.cells (gp ⟨b.there,⟨b.least.null,b.least.n,a.least.s⟩,⟨a.most.null,a.most.n,a.most.s⟩⟩) t (0,0)):=Ur _ g 2 _ _ (.int .i64 b.least.n) d;have f:((((w.setCell ⟨g,0,K⟩ (.bool b.there)).setCell ⟨g,1,K⟩ (.bool b.least.null)).setCell ⟨g,2,K⟩ (.int .i64 b.least.n)).setCell ⟨g,3,K⟩ (.string b.least.s)).heap[g]? =I (.cells (gp ⟨b.there,⟨b.least.null,b.least.n,b.least.s⟩,⟨a.most.null,a.most.n,a.most.s⟩⟩) t (0,0)):=Ur _ g 3 _ _ (.string b.least.s) e;have i:(((((w.setCell ⟨g,0,K⟩ (.bool b.there)).setCell ⟨g,1,K⟩ (.bool b.least.null)).setCell ⟨g,2,K⟩ (.int .i64 b.least.n)).setCell ⟨g,3,K⟩ (.string b.least.s)).setCell ⟨g,4,K⟩ (.bool b.most.null)).heap[g]? =I (.cells (gp ⟨b.there,⟨b.least.null,b.least.n,b.least.s⟩,⟨b.most.null,a.most.n,a.most.s⟩⟩) t (0,0)):=Ur _ g 4 _ _ (.bool b.most.null) f;have j:((((((w.setCell ⟨g,0,K⟩ (.bool b.there)).setCell ⟨g,1,K⟩ (.bool b.least.null)).setCell ⟨g,2,K⟩ (.int .i64 b.least.n)).setCell ⟨g,3,K⟩ (.string b.least.s)).setCell ⟨g,4,K⟩ (.bool b.most.null)).setCell ⟨g,5,K⟩ (.int .i64 b.most.n)).heap[g]? =I (.cells (gp ⟨b.there,⟨b.least.null,b.least.n,b.least.s⟩,⟨b.most.null,b.most.n,a.most.s⟩⟩) t (0,0)):=Ur _ g 5 _ _ (.int .i64 b.most.n) i;have k:(((((((w.setCell ⟨g,0,K⟩ (.bool b.there)).setCell ⟨g,1,K⟩ (.bool b.least.null)).setCell ⟨g,2,K⟩ (.int .i64 b.least.n)).setCell ⟨g,3,K⟩ (.string b.least.s)).setCell ⟨g,4,K⟩ (.bool b.most.null)).setCell ⟨g,5,K⟩ (.int .i64 b.most.n)).setCell ⟨g,6,K⟩ (.string b.most.s)).heap[g]? =I (.cells (gp ⟨b.there,⟨b.least.null,b.least.n,b.least.s⟩,⟨b.most.null,b.most.n,b.most.s⟩⟩) t (0,0)):=Ur _ g 6 _ _ (.string b.most.s) j;exact k
def z4{w w0:F}{g:Nat}(b:lB){n:Nat}(d:XS n w0 w)(c:n<=w0.heap.size)(a:n<=g):
 XS n w0 (((((((w.setCell ⟨g,0,K⟩ (.bool b.there)).setCell ⟨g,1,K⟩ (.bool b.least.null)).setCell ⟨g,2,K⟩ (.int .i64 b.least.n)).setCell ⟨g,3,K⟩ (.string b.least.s)).setCell ⟨g,4,K⟩ (.bool b.most.null)).setCell ⟨g,5,K⟩ (.int .i64 b.most.n)).setCell ⟨g,6,K⟩ (.string b.most.s)):=
 bT (bT (bT (bT (bT (bT (bT d c a _ _) c a _ _) c a _ _) c a _ _) c a _ _) c a _ _) c a _ _
def BJ(aq:U)(l:List aE)(w:F)(br:l.length<=100)(a9:rY w aq l):
 bH 88 #[aq] w λe w'=>e= .returned (FE (cw l))/\aP w w':=by
 obtain⟨bj,bl,bu,bm,rfl,M⟩:=a9;have aw:=af M;have bd:=λN bb g=>jI N bb g;go_enter ay.func88,Tryz.ntmps88
 go_wp2_with fail
 go_loopw [8] (λad wr=>∃a:Nat,a<=l.length/\ad= .int .i64 (a:Int)/\wr.heap[w.heap.size+1]? =I (.cells (gp (cw (l.take a))) 141 (0,0))/\wr.heap[w.heap.size]? =I (.cells (gp cE) 141 (0,0))/\aP w wr) (λad _=>l.length-(US ad).toNat)
 case atStart=>exact⟨0,UE _,rfl,jH _ _ _,alloc_old _ (by simp) (bk _ _),gA _ _⟩
 case round=>
  obtain⟨a,bo,rfl,aa,T,R⟩:=hrel;have bc:=af R;by_cases S:a<l.length
  ·have M:=aw.o.below R;obtain rfl:=M.addr (by omega);have bv:=M.c0 a S;have bx:=M.c1 a S;have bA:=M.c2 a S;have V:=af (BK l a S);generalize cw (l.take a)=am at*;generalize l[a]=N at*;have f:=af (Fl.start N aa T R)
   go_upto_region 5 with fail
   generalize wr.alloc (.cells (gZ N) 59)=be at*;generalize wr.heap.size=ap at*;have bs:¬ap=w.heap.size+1:=by have:=f.o.zR;omega
   have bt:¬w.heap.size+1=ap:=by have:=f.o.zR;omega
   obtain⟨B,D,E⟩:=cB f.o.one;obtain⟨⟨k,m,n,o,p,q,r⟩,s,t,u,v,x,y,z⟩:=dZ f.o.box;by_cases ab:N.null=Z
   ·have L:X (cw (l.take (a+1))=am):=by show _=_;rw[V.o];unfold nX;rw[if_pos ab]
    rw[ab] at B;go_wp2
    go_roundw
    case rel=>exact⟨a+1,by omega,by go_num,by rw[L.o];exact f.o.box,f.o.res,f.o.dg⟩
    case measure=>simp[US];omega
   ·obtain⟨ba,c,d⟩:=N;obtain rfl:ba=T7:=by simpa using ab
    obtain⟨a0,j,h⟩:=am;cases a0
    ·have L:X (cw (l.take (a+1))=⟨Z,⟨T7,c,d⟩,⟨T7,c,d⟩⟩):=by show _=_;rw[V.o];unfold nX;simp
     go_wp2
     go_roundw
     case rel=>exact⟨a+1,by omega,by go_num,by rw[L.o];exact f.o.least.most.set.box,f.o.least.most.set.res,f.o.least.most.set.dg⟩
     case measure=>simp[US];omega
    ·have ao:X (∀g,bH 125 #[.agg #[.bool T7,.int .i64 c,.string d],.agg (gZ j)] g λe w'=>e= .returned (.int .i64 (fp ⟨T7,c,d⟩ j))/\aP g w'):=λg=>jI ⟨T7,c,d⟩ j g;have P:X (∀g,bH 125 #[.agg #[.bool T7,.int .i64 c,.string d],.agg (gZ h)] g λe w'=>e= .returned (.int .i64 (fp ⟨T7,c,d⟩ h))/\aP g w'):=λg=>jI ⟨T7,c,d⟩ h g;have L:X (cw (l.take (a+1))=⟨Z,if fp ⟨T7,c,d⟩ j<0 then⟨T7,c,d⟩ else j,if 0<fp ⟨T7,c,d⟩ h then⟨T7,c,d⟩ else h⟩):=by show _=_;rw[V.o];unfold nX;simp
     generalize fp ⟨T7,c,d⟩ j=ae at*;generalize fp ⟨T7,c,d⟩ h=C at*;by_cases Q:ae<0
     ·have a1:decide (ae<0)=Z:=by simpa using Q
      have O:X (cw (l.take (a+1))=⟨Z,⟨T7,c,d⟩,if 0<C then⟨T7,c,d⟩ else h⟩):=by show _=_;rw[L.o,if_pos Q]
      go_upto_region 8 with(go_at_call 125;refine(ao.o _).mono ?_;rintro e ar ⟨rfl,Y⟩;have J:=f.o.below Y;obtain⟨B,D,E⟩:=cB J.one;obtain⟨⟨k,m,n,o,p,q,r⟩,s,t,u,v,x,y,z⟩:=dZ J.box)
      have i:=af J.least;generalize ((ar.setCell ⟨w.heap.size+1,1,K⟩ (.bool T7)).setCell ⟨w.heap.size+1,2,K⟩ (.int .i64 c)).setCell ⟨w.heap.size+1,3,K⟩ (.string d)=bi at*;obtain⟨B,D,E⟩:=cB i.o.one;obtain⟨⟨k,m,n,o,p,q,r⟩,s,t,u,v,x,y,z⟩:=dZ i.o.box;by_cases A:0<C
      ·have W:decide (0<C)=Z:=by simpa using A
       have G:X (cw (l.take (a+1))=⟨Z,⟨T7,c,d⟩,⟨T7,c,d⟩⟩):=by show _=_;rw[O.o,if_pos A]
       go_wp2_with (go_at_call 125;refine(P.o _).mono ?_;rintro e al ⟨rfl,H⟩;have b:=i.o.below H;obtain⟨B,D,E⟩:=cB b.one;obtain⟨⟨k,m,n,o,p,q,r⟩,s,t,u,v,x,y,z⟩:=dZ b.box)
       go_roundw
       case rel=>exact⟨a+1,by omega,by go_num,by rw[G.o];exact b.most.set.box,b.most.set.res,b.most.set.dg⟩
       case measure=>simp[US];omega
      ·have W:decide (0<C)=T7:=by simpa using A
       have G:X (cw (l.take (a+1))=⟨Z,⟨T7,c,d⟩,h⟩):=by show _=_;rw[O.o,if_neg A]
       go_wp2_with (go_at_call 125;refine(P.o _).mono ?_;rintro e al ⟨rfl,H⟩;have b:=i.o.below H;obtain⟨B,D,E⟩:=cB b.one;obtain⟨⟨k,m,n,o,p,q,r⟩,s,t,u,v,x,y,z⟩:=dZ b.box)
       go_roundw
       case rel=>exact⟨a+1,by omega,by go_num,by rw[G.o];exact b.set.box,b.set.res,b.set.dg⟩
       case measure=>simp[US];omega
     ·have a1:decide (ae<0)=T7:=by simpa using Q
      have O:X (cw (l.take (a+1))=⟨Z,j,if 0<C then⟨T7,c,d⟩ else h⟩):=by show _=_;rw[L.o,if_neg Q]
      go_upto_region 8 with(go_at_call 125;refine(ao.o _).mono ?_;rintro e ar ⟨rfl,Y⟩;have J:=f.o.below Y;obtain⟨B,D,E⟩:=cB J.one;obtain⟨⟨k,m,n,o,p,q,r⟩,s,t,u,v,x,y,z⟩:=dZ J.box)
      have i:=af J;obtain⟨B,D,E⟩:=cB i.o.one;obtain⟨⟨k,m,n,o,p,q,r⟩,s,t,u,v,x,y,z⟩:=dZ i.o.box;by_cases A:0<C
      ·have W:decide (0<C)=Z:=by simpa using A
       have G:X (cw (l.take (a+1))=⟨Z,j,⟨T7,c,d⟩⟩):=by show _=_;rw[O.o,if_pos A]
       go_wp2_with (go_at_call 125;refine(P.o _).mono ?_;rintro e al ⟨rfl,H⟩;have b:=i.o.below H;obtain⟨B,D,E⟩:=cB b.one;obtain⟨⟨k,m,n,o,p,q,r⟩,s,t,u,v,x,y,z⟩:=dZ b.box)
       go_roundw
       case rel=>exact⟨a+1,by omega,by go_num,by rw[G.o];exact b.most.set.box,b.most.set.res,b.most.set.dg⟩
       case measure=>simp[US];omega
      ·have W:decide (0<C)=T7:=by simpa using A
       have G:X (cw (l.take (a+1))=⟨Z,j,h⟩):=by show _=_;rw[O.o,if_neg A]
       go_wp2_with (go_at_call 125;refine(P.o _).mono ?_;rintro e al ⟨rfl,H⟩;have b:=i.o.below H;obtain⟨B,D,E⟩:=cB b.one;obtain⟨⟨k,m,n,o,p,q,r⟩,s,t,u,v,x,y,z⟩:=dZ b.box)
       go_roundw
       case rel=>exact⟨a+1,by omega,by go_num,by rw[G.o];exact b.set.box,b.set.res,b.set.dg⟩
       case measure=>simp[US];omega
  ·obtain rfl:a=l.length:=by omega
   rw[Vf] at aa;obtain⟨⟨k,m,n,o,p,q,r⟩,-⟩:=dZ aa;obtain⟨-,s,t,u,v,x,y,z⟩:=dZ T;obtain⟨⟨bB,b0,b1,b2,b3,b4,b5⟩,-⟩:=dZ T;have az:=af (Ov (cw l) T);have av:=af (z4 (cw l) R (T8 _) (T8 w.heap.size));go_wp2;obtain⟨⟨a2,a3,a4,a5,a6,a7,a8⟩,-⟩:=dZ az.o;simp[VR,UX,Tryz.results88,go_sem,a2,a3,a4,a5,a6,a7,a8];exact⟨rfl,av.o⟩
def bI (c:List (List aE))(a:Nat):List aE:=c.map λb=>b.getD a ⟨T7,0,⟨#[]⟩⟩
def BS(a:List (List aE))(c:Nat)(s:U)(w:F)(ad:a.length<=100)(G:∀r∈a,c<r.length/\r.length<=Uq)(H:AB w s a):
 bH 86 #[s,.int .i64 (c:Int)] w λe w'=>aP w w'/\∃v,e= .returned v/\w'.ownsRow w.heap.size 59 3 v a.length (aH (bI a c)):=by
 obtain⟨q,n,M,p,N⟩:=Ve ay.mJ;obtain⟨R,S,ae,T,rfl,W,f⟩:=H;have y:=af f;have x:=af G;go_enter ay.func86,Tryz.ntmps86
 go_wp2_with (at_make;refine Wb _ Y _ _ 43 Y w.heap.size 59 q _ 3 ay.underlying43 n M p .i64 .i64 _ a.length Y Y Y (by rw[N];omega) (by unfold Uq;omega) (T8 _) ?_;intro P D B)
 have t:X (aP w P):=(Up _ _).grown B (T8 _) (by simp)
 go_loopw [5,13] (λO l wr=>∃b:Nat,b<=a.length/\l= .int .i64 (b:Int)/\O= .slice (I ⟨w.heap.size,0,K⟩) b a.length/\wr.ownsRow w.heap.size 59 3 (.slice (I ⟨w.heap.size,0,K⟩) b a.length) b (aH (bI (a.take b) c))/\aP w wr) (λ_ l _=>a.length-(US l).toNat)
 case atStart=>exact⟨0,UE _,rfl,rfl,by simpa [aH,bI] using D,t.o⟩
 case round=>
  obtain⟨b,aa,rfl,rfl,k,i⟩:=hrel;have m:=af i;have J:=i.size;by_cases j:b<a.length
  ·have f:=y.o.below i;obtain rfl:=f.addr (by omega);obtain⟨v,Z,L⟩:=f.c b j;obtain⟨d,E⟩:=x.o a[b] (Uj j);obtain⟨ar,aq,ki,gP,rfl,g⟩:=L;obtain rfl:=g.addr (by omega);have am:=g.c0 c d;have ao:=g.c1 c d;have ap:=g.c2 c d;have z:X (aH (bI (a.take b) c)++[.bool a[b][c].null,.int .i64 a[b][c].n,.string a[b][c].s]=aH (bI (a.take (b+1)) c)):=by
    show _=_;rw[eX,Uo j];unfold bI;rw[U0,Wp,Ui,Um d];rfl
   have ab:(c:Int)<(a[b].length:Int):=by omega
   unfold Uq at E;generalize a[b][c]=h at*;generalize a[b].length=al at*
   go_wp2_with (at_builtin;refine VH _ Y _ _ 43 Y w.heap.size 59 q 3 ay.underlying43 n p w.heap.size b a.length _ Y (k.alloc _) ⟨wr.heap.size,0,K⟩ 1 1 [.bool h.null,.int .i64 h.n,.string h.s] Y Y (by exact jr _ _ _ _ _) (fC h) (by omega) ?_;intro Q o C)
   have u:X (aP w Q):=(m.o.alloc J _).grown C (by simp;omega) (by intro V A;simp at A;omega);rw[z.o] at o;go_wp2
   go_roundw
   case rel=>exact⟨b+1,by omega,by go_num,rfl,o,u.o⟩
   case measure=>simp[US];omega
  ·obtain rfl:b=a.length:=by omega
   rw[Vf] at k;go_wp2;go_ret;exact⟨m.o,_,rfl,k⟩
end Ec
namespace Ec
open Go.RowKit Pk
def lC (l:List bL)(es:List Int):Prop:=l.length=es.length/\∀a,(b:a<l.length)->bJ l[a].kind (es.getD a 0)=Z
def nV(l:List bL)(es:List Int)(s u:U)(w:F)(Y:l.length<=Uq)(aa:es.length<=Uq)(P:vn w s l)(R:rA w u es):
 bH 57 #[u,s] w λe w'=>∃bb,e= .returned (.bool bb)/\(bb=Z↔lC l es)/\aP w w':=by
 obtain⟨ae,al,az,am,rfl,ar,f⟩:=P;obtain⟨ao,k,jg,bW,rfl,N,V,m⟩:=R;unfold Uq at Y aa;by_cases n:l.length=es.length
 ·have T:((es.length:Int) !=(l.length:Int))=T7:=by simp[n]
  have r:=af n;have E:=af f;have z:=af N;have B:=af V;have A:=af m;go_enter ay.func57,Tryz.ntmps57
  go_wp2_with fail
  go_loopw [14] (λb wr=>∃a:Nat,a<=l.length/\b= .int .i64 a/\(∀b,(c:b<l.length)->b<a->bJ l[b].kind (es.getD b 0)=Z)/\aP w wr) (λb _=>l.length-(US b).toNat)
  case atStart=>exact⟨0,UE _,rfl,λa5 _ c=>by omega,Up _ _⟩
  case round=>
   obtain⟨a,av,rfl,O,i⟩:=hrel;have o:=af O;have p:=af i;have y:=i.size;by_cases j:a<l.length
   ·have f:=E.o.below i;obtain rfl:=f.addr (by omega);have W:a<es.length:=by rw[<-r.o];exact j
    obtain rfl:=z.o (by omega);have x:=B.o (by omega);have a0:=f.c0 a j;have a1:=f.c1 a j;have ab:aM wr k (jg+a) (.int .i64 (es.getD a 0)):=(i.cell (p:=⟨k,jg+a,K⟩) x).trans (A.o a W);have Q:=Ud x y;have G:X (bJ l[a].kind (es.getD a 0)=T7->¬lC l es):=λc m=>by
     have:=m.2 a j;rw[c] at this;cases this
    have I:X (bJ l[a].kind (es.getD a 0)=Z->∀b,(c:b<l.length)->b<a+1->bJ l[b].kind (es.getD b 0)=Z):=λc b S aq=>by
     by_cases M:b=a
     ·subst M;exact c
     ·exact o.o b S (by omega)
    generalize l[a]=d at*;generalize es.getD a 0=t at*
    go_upto_region 6 with fail
    obtain⟨a2,a3⟩:=oo wr (.string d.name) (.int .i64 d.kind) 63;have v:aP wr (wr.alloc (.cells #[.string d.name,.int .i64 d.kind] 63)):=(Up _ _).alloc (T8 _) _;have a4:=(v.cell (p:=⟨k,jg+a,K⟩) Q).trans ab;have q:=af (p.o.trans (v.mono y));generalize wr.alloc (.cells #[.string d.name,.int .i64 d.kind] 63)=ad at*;generalize wr.heap.size=ap at*;have g:=λL=>o7 d.kind t L;have aw:(a:Int)<(es.length:Int):=by omega
    cases h:bJ d.kind t
    ·have H:=af (G.o h);rw[h] at g
     go_quiet ((go_at_call 83;exact Calls.quiet_of_same (g _)))
     go_wp2;go_ret;exact .inl ⟨rfl,H.o,below_drewN q.o _⟩
    ·have J:=af (I.o h);rw[h] at g
     go_quiet ((go_at_call 83;exact Calls.quiet_of_same (g _)))
     go_wp2
     go_roundw
     case rel=>exact⟨a+1,by omega,by go_num,J.o,below_drewN q.o _⟩
     case measure=>simp[US];omega
   ·have D:X (lC l es):=⟨r.o,λb c=>o.o b c (by omega)⟩;go_wp2;go_ret;exact⟨Z,rfl,by simp only[true_iff];exact D.o,p.o⟩
 ·have T:((es.length:Int) !=(l.length:Int))=Z:=by simp;omega
  have C:X (¬lC l es):=λc=>n c.1;go_enter ay.func57,Tryz.ntmps57;go_wp2
  all_goals go_ret
  all_goals exact⟨T7,rfl,by simp only[UB,false_iff];exact C.o,Up _ _⟩
def mq (a:Int)(es:List Int)(cs:List bL):Prop:=1<=a/\a<=100/\lC cs es
def qz(w:F)(a b c:U)(t:Uh):(w.alloc (.cells #[a,b,c] t)).cell? ⟨w.heap.size,0,K⟩=I a/\(w.alloc (.cells #[a,b,c] t)).cell? ⟨w.heap.size,1,K⟩=I b/\(w.alloc (.cells #[a,b,c] t)).cell? ⟨w.heap.size,2,K⟩=I c:=by
 refine⟨?_,?_,?_⟩<;>simp
def rA.lower{w w':F}{v:U}{f:List Int}(h:rA w v f)(c:aP w w'):rA w' v f:=by
 obtain⟨g,a,e,i,rfl,k,b,l⟩:=h;exact⟨g,a,e,i,rfl,k,λj=>Ud (b j) c.size,λd m=>(c.cell (p:=⟨a,e+d,K⟩) (b (by omega))).trans (l d m)⟩
def xM(b:Int)(es:List Int)(bo:Bool)(cs:List bL)(r t:U)(w:F)(u:cs.length<=Uq)(v:es.length<=Uq)(p:vn w r cs)(q:rA w t es):
 bH 41 #[.agg #[.int .i64 b,t,.bool bo],r] w λe w'=>∃bb,e= .returned (.bool bb)/\(bb=Z↔mq b es cs)/\aP w w':=by
 have z:=q;have y:=p;obtain⟨l,B,E,m,rfl,D,-⟩:=y;obtain⟨n,C,jg,bW,rfl,-,-,-⟩:=z;have f:X (∀a,aP w (w.alloc a)):=λa=>(Up _ _).alloc (T8 _) _;have d:X (∀a,bH 57 #[.slice n es.length bW,.slice l cs.length m] (w.alloc a) λe w'=>∃bb,e= .returned (.bool bb)/\(bb=Z↔lC cs es)/\XS (w.alloc a).heap.size (w.alloc a) w'):=λa=>nV cs es _ _ _ u v (p.below (f.o a)) (q.lower (f.o a));clear p q u v;by_cases g:1<=b
 ·by_cases j:b<=100
  ·have s:decide (1<=b)=Z:=by simp;omega
   have x:decide (b<=100)=Z:=by simp;omega
   by_cases h:lC cs es
   ·have c:X (mq b es cs):=⟨g,j,h⟩;have k:X (∀a,bH 57 #[.slice n es.length bW,.slice l cs.length m] (w.alloc a) λe w'=>e= .returned (.bool Z)/\XS (w.alloc a).heap.size (w.alloc a) w'):=λa=>pP (d.o a) h;clear d h g j;go_enter ay.func41,Tryz.ntmps41
    go_wp2_with (go_at_call 57;refine(k.o _).mono ?_;rintro e A ⟨rfl,o⟩)
    go_ret;exact⟨Z,rfl,by simp only[true_iff];exact c.o,(f.o _).trans (o.mono (by simp))⟩
   ·have c:X (¬mq b es cs):=λi=>h i.2.2;have k:X (∀a,bH 57 #[.slice n es.length bW,.slice l cs.length m] (w.alloc a) λe w'=>e= .returned (.bool T7)/\XS (w.alloc a).heap.size (w.alloc a) w'):=λa=>n7 (d.o a) h;clear d h g j;go_enter ay.func41,Tryz.ntmps41
    go_wp2_with (go_at_call 57;refine(k.o _).mono ?_;rintro e A ⟨rfl,o⟩)
    go_ret;exact⟨T7,rfl,by simp only[UB,false_iff];exact c.o,(f.o _).trans (o.mono (by simp))⟩
  ·have s:decide (1<=b)=Z:=by simp;omega
   have x:decide (b<=100)=T7:=by simp;omega
   have c:X (¬mq b es cs):=λi=>j i.2.1;clear d g j;go_enter ay.func41,Tryz.ntmps41;go_wp2
   all_goals go_ret
   all_goals exact⟨T7,rfl,by simp only[UB,false_iff];exact c.o,f.o _⟩
 ·have s:decide (1<=b)=T7:=by simp;omega
  have c:X (¬mq b es cs):=λi=>g i.1;clear d g;go_enter ay.func41,Tryz.ntmps41;go_wp2
  all_goals go_ret
  all_goals exact⟨T7,rfl,by simp only[UB,false_iff];exact c.o,f.o _⟩
end Ec
namespace Ec
open Go.RowKit Pk Pm
structure kq where
 text:ByteArray
 eY:lB
structure Bd where
 rows:Nat
 chunks:List kq
def lQ{α:Type}(f:α->List U)(s:Nat)(b:∀x,(f x).length=s)(l:List α):∀j (h:j<l.length) i u,(f l[j])[i]? =I u->(l.flatMap f)[j*s+i]? =I u:=by
 induction l with
 |nil=>intro j h;simp at h
 |cons x e c=>
  intro j h i u a;rw[List.flatMap_cons];cases j with
  |zero=>
   have d:i<(f x).length:=by
    simp only[List.getElem_cons_zero] at a;exact(UA.1 a).1
   rw[Vw (by omega)];simpa using a
  |succ j=>
   have:=c j (by simpa using h) i u (by simpa using a);rw[Vo (by rw[b,Nat.succ_mul];omega),b,show(j+1)*s+i-s=j*s+i by rw[Nat.succ_mul];omega];exact this
structure Om{α:Type}(w:F)(f:α->List U)(s:Nat)(ao:Option UJ)(b off:Nat)(l:List α):Prop where
 addr:0<l.length->ao=I ⟨b,off,K⟩
 lt:0<l.length->b<w.heap.size
 c:∀j (h:j<l.length) i u,(f l[j])[i]? =I u->aM w b (off+j*s+i) u
def Om.below{α:Type}{w w':F}{f:α->List U}{s:Nat}{a:Option UJ}{b off:Nat}{l:List α}(h:Om w f s a b off l)(c:aP w w'):Om w' f s a b off l:=
 ⟨h.addr,λg=>Ud (h.lt g) c.size,λe i d k j=>(c.cell (p:=⟨b,off+e*s+d,K⟩) (h.lt (by omega))).trans (h.c e i d k j)⟩
def QK {α:Type}(w:F)(f:α->List U)(s:Nat)(v:U)(l:List α):Prop:=∃a b d c,v= .slice a l.length c/\Om w f s a b d l
def QK.bO{α:Type}{w:F}{f:α->List U}{s base:Nat}{e:Uh}{v:U}{l:List α}(i:∀x,(f x).length=s)(h:w.ownsRow base e s v l.length (l.flatMap f)):QK w f s v l:=by
 rcases h.2 with⟨rfl,d⟩|⟨a,c,o,rfl,p,t,u,q,r,y⟩
 ·have:l=[]:=Vh d;subst this;exact⟨K,0,0,0,rfl,⟨λh=>by simp at h,λh=>by simp at h,λb h=>by simp at h⟩⟩
 ·have g:=h.cells (g:=a) Y;refine⟨I ⟨a,0,K⟩,a,0,c,rfl,⟨λ_=>rfl,λ_=>(h.lt a Y).2,?_⟩⟩;intro b j m n k;have:=g _ _ (lQ f s i l b j m n k);simpa [VL] using this
def dI (c:kq):List U:=[.string c.text,.bool c.eY.there,.bool c.eY.least.null,.int .i64 c.eY.least.n,.string c.eY.least.s,.bool c.eY.most.null,.int .i64 c.eY.most.n,.string c.eY.most.s]
def ej (l:List kq):List U:=l.flatMap dI
def uy(c:kq):(dI c).length=8:=rfl
def n6 (p:Bd×U):List U:=[.int .i64 (p.1.rows:Int),p.2]
def nH (l:List (Bd×U)):List U:=l.flatMap n6
def qD(p:Bd×U):(n6 p).length=2:=rfl
structure iY(w:F)(base:Nat)(v:U)(L:List (Bd×U)):Prop where
 own:w.ownsRow base 139 2 v L.length (nH L)
 each:∀p∈L,w.ownsRow base 143 8 p.2 p.1.chunks.length (ej p.1.chunks)
def BQ (a:List (List aE))(cs:List bL)(es:List Int)(bo:Bool)(p:Nat):kq:=
 ⟨(jJ (bI a p) (cs.getD p ⟨⟨#[]⟩,0⟩).kind (es.getD p 0)).1,if bo then cw (bI a p) else cE⟩
def eu (a:List (List aE))(cs:List bL)(es:List Int)(bo:Bool)(n:Nat):List kq:=(UK n).map (BQ a cs es bo)
def FH(a:List (List aE))(cs:List bL)(es:List Int)(bo:Bool)(n:Nat):eu a cs es bo (n+1)=eu a cs es bo n++[BQ a cs es bo n]:=by
 unfold eu;rw[XI,U0,Wp]
def cT(a:List (List aE))(cs:List bL)(es:List Int)(bo:Bool)(n:Nat):(eu a cs es bo n).length=n:=by simp[eu]
def gL (a:List (List aE))(cs:List bL)(es:List Int)(bo:Bool):Bd:=⟨a.length,eu a cs es bo cs.length⟩
def bY (b:List (List aE))(a j:Nat):List (List aE):=(b.drop (j*a)).take a
def bP (c:List (List aE))(cs:List bL)(es:List Int)(bo:Bool)(a n:Nat):List Bd:=(UK n).map λb=>gL (bY c a b) cs es bo
def vt(b:List (List aE))(cs:List bL)(es:List Int)(bo:Bool)(a n:Nat):bP b cs es bo a (n+1)=bP b cs es bo a n++[gL (bY b a n) cs es bo]:=by
 unfold bP;rw[XI,U0,Wp]
def jb(b:List (List aE))(cs:List bL)(es:List Int)(bo:Bool)(a n:Nat):(bP b cs es bo a n).length=n:=by simp[bP]
def b7 (len a:Nat):Nat:=(len+a-1)/a
def mw{len a:Nat}(h:0<a)(k:Nat):k*a<len↔k<b7 len a:=by
 unfold b7;have:=Nat.le_div_iff_mul_le (x:=k+1) (y:=len+a-1) h;rw[Nat.succ_mul] at this;omega
def cq (k:Int)(b:lB):List Nat:=if b.there then[1]++(bf k b.least++bf k b.most) else[0]
def xY (cs:List bL)(es:List Int)(i:Nat):List Nat:=aL (cs.getD i ⟨⟨#[]⟩,0⟩).name.size++(bytesOf (cs.getD i ⟨⟨#[]⟩,0⟩).name++[byteOf (cs.getD i ⟨⟨#[]⟩,0⟩).kind,byteOf (es.getD i 0)])
def iS (cs:List bL)(es:List Int)(n:Nat):List Nat:=(UK n).flatMap (xY cs es)
def xZ(cs:List bL)(es:List Int)(n:Nat):iS cs es (n+1)=iS cs es n++xY cs es n:=by
 unfold iS;rw[XI,Vi,Vc]
def o8 (cs:List bL)(l:List kq)(i:Nat):List Nat:=aL (l.getD i ⟨⟨#[]⟩,cE⟩).text.size++cq (cs.getD i ⟨⟨#[]⟩,0⟩).kind (l.getD i ⟨⟨#[]⟩,cE⟩).eY
def fo (cs:List bL)(l:List kq)(n:Nat):List Nat:=(UK n).flatMap (o8 cs l)
def vL(cs:List bL)(l:List kq)(n:Nat):fo cs l (n+1)=fo cs l n++o8 cs l n:=by
 unfold fo;rw[XI,Vi,Vc]
def ek (cs:List bL)(b:Bd):List Nat:=aL b.rows++fo cs b.chunks b.chunks.length
def cQ (cs:List bL)(bs:List Bd):List Nat:=bs.flatMap (ek cs)
def Dl(cs:List bL)(bs:List Bd)(k:Nat)(h:k<bs.length):cQ cs (bs.take (k+1))=cQ cs (bs.take k)++ek cs bs[k]:=by
 unfold cQ;rw[Uo h,Vi,Vc]
def ji (cs:List bL)(es:List Int)(bs:List Bd):List Nat:=aL cs.length++(iS cs es cs.length++(aL bs.length++cQ cs bs))
def iA (n:Nat):List Nat:=[n%256,n/256%256,n/65536%256,n/16777216%256]
def ct (l:List kq):List Nat:=l.flatMap λa=>bytesOf a.text
def G7(l:List kq)(k:Nat)(h:k<l.length):ct (l.take (k+1))=ct (l.take k)++bytesOf l[k].text:=by
 unfold ct;rw[Uo h,Vi,Vc]
def sA(l:List kq)(c:kq):ct (l++[c])=ct l++bytesOf c.text:=by
 unfold ct;rw[Vi,Vc]
def bR (bs:List Bd):List Nat:=bs.flatMap λa=>ct a.chunks
def xR(bs:List Bd)(k:Nat)(h:k<bs.length):bR (bs.take (k+1))=bR (bs.take k)++ct bs[k].chunks:=by
 unfold bR;rw[Uo h,Vi,Vc]
def r8(bs:List Bd)(b:Bd):bR (bs++[b])=bR bs++ct b.chunks:=by
 unfold bR;rw[Vi,Vc]
def dN:List Nat:=[83,84,82,65]
def vB (cs:List bL)(es:List Int)(bs:List Bd):List Nat:=dN++(bR bs++(ji cs es bs++(iA (ji cs es bs).length++dN)))
def aR.jj{w c:F}{v:U}{o:Xv}{g n cap:Nat}(e:(w.alloc o).grownBy c v.ownBlock)(d:v.ownBlock=I g\/g=(w.alloc o).heap.size):aR w c v (.slice (I ⟨g,0,K⟩) n cap):=by
 refine((aR.refl w v).alloc o).trans ⟨e,λf b=>?_⟩;simp[Vz] at b;subst b;rcases d with a|a
 ·exact .inl a
 ·exact .inr (by omega)
def bC{w:F}{base:Nat}{e:Uh}{b:Nat}{v:U}{n:Nat}{c:List U}(h:w.ownsRow base e b v n c):∃a cap,v= .slice a n cap:=by
 rcases h.2 with⟨rfl,rfl⟩|⟨f,cap,d,rfl,-⟩
 ·exact⟨K,0,rfl⟩
 ·exact⟨_,cap,rfl⟩
def Gk{w:F}{base:Nat}{e:Uh}{d:Nat}{v:U}{n:Nat}{f:List U}{g:Nat}(h:w.ownsRow base e d v n f)(b:v.ownBlock=I g):∃a,w.heap[g]? =I (.cells a e (0,0)):=by
 rcases h.2 with⟨rfl,-⟩|⟨j,i,a,rfl,-,c,-⟩
 ·simp[Vz] at b
 ·simp[Vz] at b;subst b;exact⟨a,c⟩
def bw{w:F}{base:Nat}{e:Uh}{f:Nat}{v:U}{n:Nat}{i:List U}{g:Nat}{cs:Array U}{t:Uh}(h:w.ownsRow base e f v n i)(b:w.heap[g]? =I (.cells cs t (0,0)))(d:t≠e):I g≠v.ownBlock:=by
 intro c;obtain⟨j,a⟩:=Gk h c.symm;rw[b] at a;simp at a;exact d a.2
def dQ{w:F}{base c:Nat}{e b:Uh}{j k:Nat}{v v2:U}{n i:Nat}{l m:List U}(h:w.ownsRow base e j v n l)(d:w.ownsRow c b k v2 i m)(g:e≠b):Apart v v2:=by
 cases a:v.ownBlock with
 |none=>exact .inl a
 |some p=>
  right
  rw[a];obtain⟨o,f⟩:=Gk h a;exact bw d f g
def AD(w:F)(o p q:Xv):(((w.alloc o).alloc p).alloc q).heap[w.heap.size+2]? =I q:=by
 have:=bk ((w.alloc o).alloc p) q;rwa [show((w.alloc o).alloc p).heap.size=w.heap.size+2 by simp] at this
structure ot(w W:F)(bd:Int)(ev:U)(bo:Bool)(n:Nat)(kv:U)(l:List kq):Prop where
 opt:W.heap[w.heap.size]? =I (.cells #[.int .i64 bd,ev,.bool bo] 48 (0,0))
 res:W.heap[w.heap.size+1]? =I (.cells #[.int .i64 0,aO] 139 (0,0))
 box:W.heap[w.heap.size+2]? =I (.cells #[.int .i64 (n:Int),kv] 139 (0,0))
 own:W.ownsRow w.heap.size 143 8 kv l.length (ej l)
 dg:aP w W
def ot.below{w W b:F}{c:Int}{d:U}{bo:Bool}{n:Nat}{e:U}{l:List kq}(h:ot w W c d bo n e l)(a:aP W b):ot w b c d bo n e l:=
 ⟨(a.block _ (Ue h.opt)).trans h.opt,(a.block _ (Ue h.res)).trans h.res,(a.block _ (Ue h.box)).trans h.box,aK h.own a,h.dg.trans (a.mono h.dg.size)⟩
def ot.jP{w W c:F}{e:Int}{f:U}{bo:Bool}{n:Nat}{k b:U}{l d:List kq}(h:ot w W e f bo n k l)(a:aR W c k b)(j:c.ownsRow w.heap.size 143 8 b d.length (ej d)):
 ot w (c.setCell ⟨w.heap.size+2,1,K⟩ b) e f bo n b d:=by
 have o:=(a.fO.block _ (Ue h.opt) (bw h.own h.opt (by decide))).trans h.opt;have p:=(a.fO.block _ (Ue h.res) (bw h.own h.res (by decide))).trans h.res;have g:=(a.fO.block _ (Ue h.box) (bw h.own h.box (by decide))).trans h.box;have q:=Ur c (w.heap.size+2) 1 _ _ b g;have i:=h.dg.trans (a.below (λm a=>(h.own.lt m a).1) h.dg.size);refine⟨?_,?_,q,?_,?_⟩
 ·rw[Uu _ _ _ _ (by simp)];exact o
 ·rw[Uu _ _ _ _ (by simp)];exact p
 ·exact j.kept (aQ c _ 1 b) (.inr (bw j g (by decide)).symm)
 ·exact di i i.size (by omega) _ _
def ot.cells{w W:F}{e:Int}{b:U}{bo:Bool}{n:Nat}{d:U}{l:List kq}(h:ot w W e b bo n d l):
 aM W w.heap.size 1 b/\aM W w.heap.size 2 (.bool bo)/\aM W (w.heap.size+2) 0 (.int .i64 (n:Int))/\aM W (w.heap.size+2) 1 d/\W.frozen? ⟨w.heap.size+2,1,K⟩=T7:=by
 have c:=h.opt;have a:=h.box;exact⟨by simp[Us,c],by simp[Us,c],by simp[Us,a],by simp[Us,a],by simp[UQ,a]⟩
def kA{w:F}{g:Nat}{c:kq}{t:Uh}(h:w.heap[g]? =I (.cells (dI c).toArray t (0,0))):
 (aM w g 0 (.string c.text)/\aM w g 1 (.bool c.eY.there)/\aM w g 2 (.bool c.eY.least.null)/\aM w g 3 (.int .i64 c.eY.least.n)/\aM w g 4 (.string c.eY.least.s)/\
   aM w g 5 (.bool c.eY.most.null)/\aM w g 6 (.int .i64 c.eY.most.n)/\aM w g 7 (.string c.eY.most.s))/\
 (w.frozen? ⟨g,1,K⟩=T7/\w.frozen? ⟨g,2,K⟩=T7/\w.frozen? ⟨g,3,K⟩=T7/\w.frozen? ⟨g,4,K⟩=T7/\w.frozen? ⟨g,5,K⟩=T7/\w.frozen? ⟨g,6,K⟩=T7/\w.frozen? ⟨g,7,K⟩=T7):=by
 unfold dI at h;refine⟨⟨?_,?_,?_,?_,?_,?_,?_,?_⟩,?_,?_,?_,?_,?_,?_,?_⟩<;>first|simp[Us,h]|simp[UQ,h]
def OF{w:F}{g:Nat}{s:ByteArray}{a:lB}(b:lB){t:Uh}(h:w.heap[g]? =I (.cells (dI ⟨s,a⟩).toArray t (0,0))):
 (((((((w.setCell ⟨g,1,K⟩ (.bool b.there)).setCell ⟨g,2,K⟩ (.bool b.least.null)).setCell ⟨g,3,K⟩ (.int .i64 b.least.n)).setCell ⟨g,4,K⟩ (.string b.least.s)).setCell ⟨g,5,K⟩ (.bool b.most.null)).setCell ⟨g,6,K⟩ (.int .i64 b.most.n)).setCell ⟨g,7,K⟩ (.string b.most.s)).heap[g]? =I (.cells (dI ⟨s,b⟩).toArray t (0,0)):=by
 have c:(w.setCell ⟨g,1,K⟩ (.bool b.there)).heap[g]? =I (.cells #[.string s,.bool b.there,.bool a.least.null,.int .i64 a.least.n,.string a.least.s,.bool a.most.null,.int .i64 a.most.n,.string a.most.s] t (0,0)):=Ur _ g 1 _ _ (.bool b.there) h;have d:((w.setCell ⟨g,1,K⟩ (.bool b.there)).setCell ⟨g,2,K⟩ (.bool b.least.null)).heap[g]? =I (.cells #[.string s,.bool b.there,.bool b.least.null,.int .i64 a.least.n,.string a.least.s,.bool a.most.null,.int .i64 a.most.n,.string a.most.s] t (0,0)):=Ur _ g 2 _ _ (.bool b.least.null) c;have e:(((w.setCell ⟨g,1,K⟩ (.bool b.there)).setCell ⟨g,2,K⟩ (.bool b.least.null)).setCell ⟨g,3,K⟩ (.int .i64 b.least.n)).heap[g]? =I (.cells #[.string s,.bool b.there,.bool b.least.null,.int .i64 b.least.n,.string a.least.s,.bool a.most.null,.int .i64 a.most.n,.string a.most.s] t (0,0)):=Ur _ g 3 _ _ (.int .i64 b.least.n) d;have f:((((w.setCell ⟨g,1,K⟩ (.bool b.there)).setCell ⟨g,2,K⟩ (.bool b.least.null)).setCell ⟨g,3,K⟩ (.int .i64 b.least.n)).setCell ⟨g,4,K⟩ (.string b.least.s)).heap[g]? =I (.cells #[.string s,.bool b.there,.bool b.least.null,.int .i64 b.least.n,.string b.least.s,.bool a.most.null,.int .i64 a.most.n,.string a.most.s] t (0,0)):=Ur _ g 4 _ _ (.string b.least.s) e;have i:(((((w.setCell ⟨g,1,K⟩ (.bool b.there)).setCell ⟨g,2,K⟩ (.bool b.least.null)).setCell ⟨g,3,K⟩ (.int .i64 b.least.n)).setCell ⟨g,4,K⟩ (.string b.least.s)).setCell ⟨g,5,K⟩ (.bool b.most.null)).heap[g]? =I (.cells #[.string s,.bool b.there,.bool b.least.null,.int .i64 b.least.n,.string b.least.s,.bool b.most.null,.int .i64 a.most.n,.string a.most.s] t (0,0)):=Ur _ g 5 _ _ (.bool b.most.null) f;have j:((((((w.setCell ⟨g,1,K⟩ (.bool b.there)).setCell ⟨g,2,K⟩ (.bool b.least.null)).setCell ⟨g,3,K⟩ (.int .i64 b.least.n)).setCell ⟨g,4,K⟩ (.string b.least.s)).setCell ⟨g,5,K⟩ (.bool b.most.null)).setCell ⟨g,6,K⟩ (.int .i64 b.most.n)).heap[g]? =I (.cells #[.string s,.bool b.there,.bool b.least.null,.int .i64 b.least.n,.string b.least.s,.bool b.most.null,.int .i64 b.most.n,.string a.most.s] t (0,0)):=Ur _ g 6 _ _ (.int .i64 b.most.n) i;have k:(((((((w.setCell ⟨g,1,K⟩ (.bool b.there)).setCell ⟨g,2,K⟩ (.bool b.least.null)).setCell ⟨g,3,K⟩ (.int .i64 b.least.n)).setCell ⟨g,4,K⟩ (.string b.least.s)).setCell ⟨g,5,K⟩ (.bool b.most.null)).setCell ⟨g,6,K⟩ (.int .i64 b.most.n)).setCell ⟨g,7,K⟩ (.string b.most.s)).heap[g]? =I (.cells #[.string s,.bool b.there,.bool b.least.null,.int .i64 b.least.n,.string b.least.s,.bool b.most.null,.int .i64 b.most.n,.string b.most.s] t (0,0)):=Ur _ g 7 _ _ (.string b.most.s) j;exact k
def yc(w:F)(c:kq)(t:Uh):∀(j:Nat) (u:U),(dI c)[j]? =I u->(w.alloc (.cells (dI c).toArray t)).cell? ((⟨w.heap.size,0,K⟩:UJ).add j)=I u:=by
 intro j u a;have b:j<8:=by
  have:=(UA.1 a).1;simpa [dI] using this
 have:j=0\/j=1\/j=2\/j=3\/j=4\/j=5\/j=6\/j=7:=by omega
 rcases this with rfl|rfl|rfl|rfl|rfl|rfl|rfl|rfl<;>(simp[dI] at a;subst a;simp[Yr,dI])
def us(c:kq):∀u∈dI c,u.oneCell'=Z:=by
 intro u a;simp[dI] at a;rcases a with rfl|rfl|rfl|rfl|rfl|rfl|rfl|rfl<;>rfl
def FJ{a:List (List aE)}{e:Nat}(h:∀r∈a,∀x∈r,rC x)(f:∀r∈a,e<r.length):∀x∈bI a e,rC x:=by
 intro x d;unfold bI at d;obtain⟨r,c,rfl⟩:=U7.1 d;have b:=f r c;rw[Ui,Um b];exact h r c _ (Uj b)
def ga(a:List (List aE))(b:Nat):(bI a b).length=a.length:=by simp[bI]
def ay.Ik:((aB T4).info? 143).map (λi=>(i.zero,i.size,i.bytes))=I (I (.agg #[.string ⟨#[]⟩,.bool T7,.bool T7,.int .i64 0,.string ⟨#[]⟩,.bool T7,.int .i64 0,.string ⟨#[]⟩]),8,88):=by kernel_rfl
def ot.put{w W:F}{b:Int}{c:U}{bo:Bool}{n:Nat}{a:U}{l:List kq}(h:ot w W b c bo n a l){g:Nat}(e:w.heap.size+2<g)(d:a.ownBlock≠I g)(o:Nat)(v:U):
 ot w (W.setCell ⟨g,o,K⟩ v) b c bo n a l:=by
 refine⟨?_,?_,?_,h.own.kept (aQ W g o v) (.inr d),di h.dg h.dg.size (by omega) _ _⟩
 ·rw[Uu _ _ _ _ (by simp;omega)];exact h.opt
 ·rw[Uu _ _ _ _ (by simp;omega)];exact h.res
 ·rw[Uu _ _ _ _ (by simp;omega)];exact h.box
def ot.zR{w W:F}{e:Int}{f:U}{bo:Bool}{n:Nat}{d:U}{l:List kq}(h:ot w W e f bo n d l){g:Nat}(a:w.heap.size+2<g)(c:d.ownBlock≠I g)(b:lB):
 ot w (((((((W.setCell ⟨g,1,K⟩ (.bool b.there)).setCell ⟨g,2,K⟩ (.bool b.least.null)).setCell ⟨g,3,K⟩ (.int .i64 b.least.n)).setCell ⟨g,4,K⟩ (.string b.least.s)).setCell ⟨g,5,K⟩ (.bool b.most.null)).setCell ⟨g,6,K⟩ (.int .i64 b.most.n)).setCell ⟨g,7,K⟩ (.string b.most.s)) e f bo n d l:=
 ((((((h.put a c _ _).put a c _ _).put a c _ _).put a c _ _).put a c _ _).put a c _ _).put a c _ _
def ot.kept{w W a:F}{d:Int}{e:U}{bo:Bool}{n:Nat}{b g:U}{l:List kq}(h:ot w W d e bo n b l)(f:aR W a b g):
 aM a (w.heap.size+2) 1 b/\a.frozen? ⟨w.heap.size+2,1,K⟩=T7:=by
 have c:=(f.fO.block _ (Ue h.box) (bw h.own h.box (by decide))).trans h.box;exact⟨by simp[Us,c],by simp[UQ,c]⟩
def H9{a:List (List aE)}{cs:List bL}{es:List Int}{bo:Bool}{k:Nat}(h1:k<cs.length)(b:k<es.length):
 BQ a cs es bo k=⟨(jJ (bI a k) cs[k].kind (es.getD k 0)).1,if bo then cw (bI a k) else cE⟩:=by
 unfold BQ;rw[Ui (l:=cs),Um h1];rfl
def Fw{es:List Int}(ci:(∀e∈es,e=0)\/xE/\rS)(b:List (List aE))(cs:List bL)(A:Int)(bo:Bool)(c4 bB b2:U)(w:F)(c1:b.length<=100)(co:∀r∈b,r.length=cs.length)(cl:∀r∈b,∀x∈r,rC x)(er:cs.length<=8)(ck:es.length=cs.length)
 (cu:AB w c4 b) (d0:vn w bB cs) (d2:rA w b2 es):
 bH 60 #[c4,bB,.agg #[.int .i64 A,b2,.bool bo]] w λe w'=>∃g,e= .returned (.agg #[.int .i64 (b.length:Int),g])/\w'.ownsRow w.heap.size 143 8 g cs.length (ej (eu b cs es bo cs.length))/\aP w w':=by
 have da:=af ci;clear ci;obtain⟨c2,cn,cx,cR,c0⟩:=Ve ay.Ik;have dl:=af cu;have av:=af co;have dd:=af cl;obtain⟨ec,e4,bh,aN,rfl,e0,-⟩:=cu;obtain⟨en,em,bE,aJ,rfl,eq,t⟩:=d0;obtain⟨aa,o,jg,bW,rfl,cd,cf,ch⟩:=d2;have c7:=af t;have c8:=af cd;have R:=af cf;have c9:=af ch;have dc:=af ck;clear co cl t cd cf ch ck;go_enter ay.func60,Tryz.ntmps60
 go_upto_region 2 with fail
 have ca:ot w (((w.alloc (.cells #[.int .i64 A,.slice aa es.length bW,.bool bo] 48)).alloc (.cells #[.int .i64 0,aO] 139)).alloc (.cells #[.int .i64 (b.length:Int),aO] 139)) A (.slice aa es.length bW) bo b.length aO (eu b cs es bo 0):=by
  refine⟨alloc_old _ (by simp;omega) (alloc_old _ (by simp) (bk w _)),alloc_old _ (by simp) (jH w _ _),AD w _ _ _,?_,?_⟩
  ·exact⟨by simp[eu,ej],.inl ⟨rfl,by simp[eu]⟩⟩
  ·exact(gA _ _).alloc (by simp;omega) _
 generalize ((w.alloc (.cells #[.int .i64 A,.slice aa es.length bW,.bool bo] 48)).alloc (.cells #[.int .i64 0,aO] 139)).alloc (.cells #[.int .i64 (b.length:Int),aO] 139)=el at*
 go_wp2_with fail
 go_loopw [19] (λbm wr=>∃(a:Nat) (g:U),a<=cs.length/\bm= .int .i64 (a:Int)/\ot w wr A (.slice aa es.length bW) bo b.length g (eu b cs es bo a)) (λbm _=>cs.length-(US bm).toNat)
 case atStart=>exact⟨0,_,UE _,rfl,ca⟩
 case round=>
  clear ca;obtain⟨a,g,et,rfl,d⟩:=hrel;have T:=af d;by_cases D:a<cs.length
  ·have ad:a<es.length:=by rw[dc.o];exact D
   have cv:w.heap.size<=wr.heap.size:=d.dg.size;have t:=c7.o.below d.dg;obtain rfl:=t.addr (by omega);obtain rfl:=c8.o (by omega);have ea:=t.c0 a D;have eb:=t.c1 a D;have ar:X (o<wr.heap.size):=Ud (R.o (by omega)) cv;have b0:aM wr o (jg+a) (.int .i64 (es.getD a 0)):=(d.dg.cell (p:=⟨o,jg+a,K⟩) (R.o (by omega))).trans (c9.o a ad);have S:X (eu b cs es bo (a+1)=eu b cs es bo a++[⟨(jJ (bI b a) cs[a].kind (es.getD a 0)).1,if bo then cw (bI b a) else cE⟩]):=by
    show _=_;rw[FH,H9 D ad]
   have dp:X (∀x∈bI b a,rC x):=FJ dd.o (λr ae=>by rw[av.o r ae];exact D);have ap:=af (ga b a);have bt:X (∀c,aP w c->bH 86 #[.slice ec b.length aN,.int .i64 (a:Int)] c λe w'=>aP c w'/\∃v,e= .returned v/\w'.ownsRow c.heap.size 59 3 v b.length (aH (bI b a))):=λc dE=>
    BS b a _ c c1 (λr ae=>⟨by rw[av.o r ae];exact D,by rw[av.o r ae];unfold Uq;omega⟩) (dl.o.below dE)
   have eQ:(a:Int)<(es.length:Int):=by omega
   have db:X (es.getD a 0=0\/xE/\rS):=da.o.imp (λs=>s _ (by rw[Ui,Um ad];exact Uj ad)) id;generalize dC:bI b a=f at*;generalize dO:cs[a]=l at*;generalize d1:es.getD a 0=p at*;clear t dC dO d1 d;have bu:X (∀c h,rY c h f->bH 87 #[h,.int .i64 l.kind,.int .i64 p] c λr w'=>r= .returned (.tuple #[.string (jJ f l.kind p).1,.int .i64 (jJ f l.kind p).2])/\aP c w'):=λc h s=>
    Dp db.o h f l.kind c (by rw[ap.o];unfold Uq;omega) dp.o s
   have ao:X (∀c h,rY c h f->bH 88 #[h] c λe w'=>e= .returned (FE (cw f))/\aP c w'):=λc h s=>
    BJ h f c (by rw[ap.o];exact c1) s
   go_upto_region 6 with(go_at_call 86;refine(bt.o _ (T.o.dg.alloc cv _)).mono ?_;rintro e i ⟨ab,h,rfl,cp⟩)
   have bc:aP wr i:=ua ab;have c3:aM i wr.heap.size 1 (.int .i64 l.kind):=(ab.cell (p:=⟨wr.heap.size,1,K⟩) (by simp)).trans (oo wr _ _ _).2;have n:=af (T.o.below bc);obtain⟨N,al,O,P,am⟩:=n.o.cells;have b1:aM i o (jg+a) (.int .i64 p):=(bc.cell (p:=⟨o,jg+a,K⟩) ar.o).trans b0;have az:X (rY i h f):=rY.bO (by rw[ap.o];exact cp);have b4:wr.heap.size<i.heap.size:=by have:=ab.size;simp at this;omega
   have B:w.heap.size<i.heap.size:=by omega
   have b5:o<i.heap.size:=by have:=ar.o;omega
   clear ea eb b0 ab bc bt cp O P am ar;generalize wr.heap.size=b6 at*
   go_cut [11,12] from 27 to 38 (λeh e5 m=>eh= .string (jJ f l.kind p).1/\aP i m)
   case first=>
    have R:X (bH 87 #[h,.int .i64 l.kind,.int .i64 p] i.drew λr w'=>r= .returned (.tuple #[.string (jJ f l.kind p).1,.int .i64 (jJ f l.kind p).2])/\aP i.drew w'):=bu.o _ _ (az.o.below ((Up _ _).drew))
    go_region_held3 (λc=>aM c b6 1 (.int .i64 l.kind)/\aM c w.heap.size 1 (.slice (I ⟨o,jg,K⟩) es.length bW)/\aM c o (jg+a) (.int .i64 p)) (go_keep) ((go_at_call 87;refine R.o.mono ?_;rintro e z ⟨rfl,C⟩;have J:aP i z:=((Up i.heap.size i).drew).trans C;have d6:=(J.cell (p:=⟨b6,1,K⟩) b4).trans c3;have d7:=(J.cell (p:=⟨w.heap.size,1,K⟩) B).trans N;have d8:=(J.cell (p:=⟨o,jg+a,K⟩) b5).trans b1;clear C))
    all_goals
     have c6:=af J;clear J d6 d7 d8
     go_wp2_with fail
     go_meet
     exact⟨rfl,c6.o⟩
   case rest=>
    rename F=>m
    obtain⟨rfl,bd⟩:=hcut;have V:=af (n.o.below bd);have bx:=af (az.o.below bd);clear n az bu c3 N al b1 bd b4 B b5 T;generalize (jJ f l.kind p).1=k at*
    go_upto_region 8 with fail
    have be:(m.alloc (.cells (dI ⟨k,cE⟩).toArray 143)).heap[m.heap.size]? =I (.cells (dI ⟨k,cE⟩).toArray 143 (0,0)):=bk _ _;have bb:ot w (m.alloc (.cells (dI ⟨k,cE⟩).toArray 143)) A (.slice (I ⟨o,jg,K⟩) es.length bW) bo b.length g (eu b cs es bo a):=V.o.below ((Up _ _).alloc (T8 _) _);have bl:rY (m.alloc (.cells (dI ⟨k,cE⟩).toArray 143)) h f:=bx.o.below ((Up _ _).alloc (T8 _) _);have d3:w.heap.size+2<m.heap.size:=Ue V.o.box;have df:X (g.ownBlock≠I m.heap.size):=λs=>by have:=(V.o.own.lt _ s).2;omega
    rw[show(dI ⟨k,cE⟩).toArray=#[.string k,.bool T7,.bool T7,.int .i64 0,.string ⟨#[]⟩,.bool T7,.int .i64 0,.string ⟨#[]⟩] from rfl] at bb bl be;generalize m.alloc (.cells #[.string k,.bool T7,.bool T7,.int .i64 0,.string ⟨#[]⟩,.bool T7,.int .i64 0,.string ⟨#[]⟩] 143)=W at*;have cc:W.heap[m.heap.size]? =I (.cells (dI ⟨k,cE⟩).toArray 143 (0,0)):=be;generalize m.heap.size=gk at*;have n:=af bb;have bv:=af bl;have Q:=af cc;clear be bb bl cc V bx;have d5:w.heap.size<=W.heap.size:=n.o.dg.size;obtain⟨N,al,O,P,am⟩:=n.o.cells;cases bo
    ·have aw:=af S.o;clear S ao
     go_upto_region 10 with fail
     obtain⟨⟨a1,a2,a3,a4,a5,a6,a7,a8⟩,-⟩:=kA Q.o;have j:=n.o.own;rw[cT] at j
     go_wp2_with (at_builtin;refine wpList_append_lies _ Y _ _ 137 Y w.heap.size 143 c2 _ 8 88 ay.underlying137 cn cx cR c0 Y (by decide) _ a _ Y (j.alloc _) ⟨W.heap.size,0,K⟩ 1 1 (dI ⟨k,cE⟩) Y Y (yc W ⟨k,cE⟩ _) (us _) (by decide) (by unfold Uq;omega) (by omega) (by simp;omega) _ Y ?_;intro B G z y L H bj;have u:=aR.jj (n:=a+1) (cap:=G) L H;obtain⟨br,bs⟩:=n.o.kept u)
     have M:z.ownsRow w.heap.size 143 8 (.slice (I ⟨B,0,K⟩) (a+1) G) (eu b cs es T7 (a+1)).length (ej (eu b cs es T7 (a+1))):=by
      rw[cT,aw.o];unfold ej at y ⊢;rw[Vi,Vc];exact y
     have aq:=af (n.o.jP u M);clear j y L u br bs M H bj
     go_roundw
     case rel=>exact⟨a+1,_,by omega,by go_num,aq.o⟩
     case measure=>simp[US];omega
    ·have aw:=af S.o;clear S
     go_upto_region 10 with(go_at_call 88;refine(ao.o _ _ bv.o).mono ?_;unfold FE;rintro e z ⟨rfl,C⟩;have bi:=(C.block gk (Ue Q.o)).trans Q.o;obtain⟨⟨a1,a2,a3,a4,a5,a6,a7,a8⟩,b3,dq,dr,ds,dt,du,dv⟩:=kA bi)
     have dT:=OF (cw f) bi;have cb:=(n.o.below C).zR d3 df.o (cw f);clear a1 a2 a3 a4 a5 a6 a7 a8 b3 dq dr ds dt du dv bi ao bv Q N al O P am d5;generalize cw f=q at*;generalize ((((((z.setCell ⟨gk,1,K⟩ (.bool q.there)).setCell ⟨gk,2,K⟩ (.bool q.least.null)).setCell ⟨gk,3,K⟩ (.int .i64 q.least.n)).setCell ⟨gk,4,K⟩ (.string q.least.s)).setCell ⟨gk,5,K⟩ (.bool q.most.null)).setCell ⟨gk,6,K⟩ (.int .i64 q.most.n)).setCell ⟨gk,7,K⟩ (.string q.most.s)=a0 at*;have E:=af cb;clear cb C;have e1:w.heap.size<=a0.heap.size:=E.o.dg.size;obtain⟨N,al,O,P,am⟩:=E.o.cells;obtain⟨⟨a1,a2,a3,a4,a5,a6,a7,a8⟩,-⟩:=kA dT;have j:=E.o.own;rw[cT] at j
     go_wp2_with (at_builtin;refine wpList_append_lies _ Y _ _ 137 Y w.heap.size 143 c2 _ 8 88 ay.underlying137 cn cx cR c0 Y (by decide) _ a _ Y (j.alloc _) ⟨a0.heap.size,0,K⟩ 1 1 (dI ⟨k,q⟩) Y Y (yc a0 ⟨k,q⟩ _) (us _) (by decide) (by unfold Uq;omega) (by omega) (by simp;omega) _ Y ?_;intro B G z y L H bj;have u:=aR.jj (n:=a+1) (cap:=G) L H;obtain⟨br,bs⟩:=E.o.kept u)
     have M:z.ownsRow w.heap.size 143 8 (.slice (I ⟨B,0,K⟩) (a+1) G) (eu b cs es Z (a+1)).length (ej (eu b cs es Z (a+1))):=by
      rw[cT,aw.o];unfold ej at y ⊢;rw[Vi,Vc];exact y
     have aq:=af (E.o.jP u M);clear j y L u br bs M H bj
     go_roundw
     case rel=>exact⟨a+1,_,by omega,by go_num,aq.o⟩
     case measure=>simp[US];omega
  ·obtain rfl:a=cs.length:=by omega
   obtain⟨d9,fF,rfl⟩:=bC d.own;rw[cT] at d;generalize d4:Vg d9 cs.length fF=g at d;obtain⟨-,-,O,P,-⟩:=d.cells;have j:=d.own;rw[cT] at j;have a9:=Ur wr (w.heap.size+1) 0 _ _ (.int .i64 (b.length:Int)) d.res;have ba:=Ur _ (w.heap.size+1) 1 _ _ g a9;have dk:X (((wr.setCell ⟨w.heap.size+1,0,K⟩ (.int .i64 (b.length:Int))).setCell ⟨w.heap.size+1,1,K⟩ g).ownsRow w.heap.size 143 8 g cs.length (ej (eu b cs es bo cs.length))):=by
    have bA:=j.kept (aQ wr (w.heap.size+1) 0 (.int .i64 (b.length:Int))) (.inr (bw j d.res (by decide)).symm);exact bA.kept (aQ _ (w.heap.size+1) 1 g) (.inr (bw bA a9 (by decide)).symm)
   have c5:X (aP w ((wr.setCell ⟨w.heap.size+1,0,K⟩ (.int .i64 (b.length:Int))).setCell ⟨w.heap.size+1,1,K⟩ g)):=di (di d.dg d.dg.size (by omega) _ _) (by simpa using d.dg.size) (by omega) _ _;have e2:aM wr (w.heap.size+1) 0 (.int .i64 0):=by have:=d.res;simp[Us,this]
   have e3:aM wr (w.heap.size+1) 1 aO:=by have:=d.res;simp[Us,this]
   have eo:wr.frozen? ⟨w.heap.size+1,0,K⟩=T7:=by have:=d.res;simp[UQ,this]
   have b3:wr.frozen? ⟨w.heap.size+1,1,K⟩=T7:=by have:=d.res;simp[UQ,this]
   have ee:((wr.setCell ⟨w.heap.size+1,0,K⟩ (.int .i64 (b.length:Int))).setCell ⟨w.heap.size+1,1,K⟩ g).cell? ⟨w.heap.size+1,0,K⟩=I (.int .i64 (b.length:Int)):=by simp[Us,ba]
   have ef:((wr.setCell ⟨w.heap.size+1,0,K⟩ (.int .i64 (b.length:Int))).setCell ⟨w.heap.size+1,1,K⟩ g).cell? ⟨w.heap.size+1,1,K⟩=I g:=by simp[Us,ba]
   clear j a9 ba d T;subst d4;go_wp2;simp[VR,UX,Tryz.results60,go_sem,ee,ef];exact⟨dk.o,c5.o⟩
end Ec
namespace Un
open Go.RowKit
section
variable {P:Uf}{ops:Array Vu}{Q:Exit->V6->F->Prop}{md:Region.Mode}{S:F->Prop}{u:Nat}
def Any (P:Uf)(md:Region.Mode)(ops:Array Vu)(Q:Exit->V6->F->Prop)(S:F->Prop)(u:Nat):Nat->Array Bool->V6->F->Prop
 |0,listed,a,b=>UZ md ops listed=[]/\Q .normal a b
 |n+1,listed,a,b=>(UZ md ops listed=[]->Q .normal a b)/\
  ∀c∈UZ md ops listed,wpOp P ops Q c (λe d=>((listed.setIfInBounds c Z).getD u Z=T7->S d)/\Any P md ops Q S u n (listed.setIfInBounds c Z) e d) a b
theorem Lu:∀(n:Nat) (listed:Array Bool) (a:V6) (w:F),Any P md ops Q S u n listed a w->wpAny P md ops Q n listed a w
 |0,_,_,_,b=>b
 |n+1,_,_,_,b=>⟨b.1,λe d=>wpOp_mono (λc f g=>Lu n _ c f g.2) (b.2 e d)⟩
def waits(md:Region.Mode)(ops:Array Vu)(u i:Nat):Bool:=
 match ops[u]? with
 |some b=>b.after.any λa=>Vn md a&&a.on==i
 |none=>T7
def uD{i:Nat}{listed:Array Bool}(d:waits md ops u i=Z)(e:listed.getD i Z=T7):u∉UZ md ops listed:=by
 intro k;obtain⟨-,l,j,g⟩:=mem_ready.1 k;unfold waits at d;rw[j] at d;obtain⟨f,h,c⟩:=Array.any_eq_true'.1 d;simp only[Uw,beq_iff_eq] at c;have a:=g f h c.1;rw[c.2] at a;rcases Vy i listed.size with b|b
 ·simp[b] at e a;rw[e] at a;cases a
 ·simp[Vl b] at a
def first{i:Nat}{h:Vu}{v:U}(A:ops[i]? =I h)(J:∀(j:Nat) (o:Vu) cs b,ops[j]? =I o->o.op≠.select cs b)(am:waits md ops u i=Z)(ab:u≠i)
 (O:∀c a w,Q (.panic c) (a.put h.dst v) w->Q (.panic c) a w):
 ∀(n:Nat) (listed:Array Bool) (a:V6) (w:F),
  (∀j k,ops[j]? =I k->j≠i->listed.getD j Z=T7->(∀e∈k.after,Vn md e=Z->e.on≠i)->h.apart ops k=Z)->
  i∈UZ md ops listed->listed.getD u Z=T7->YieldsIf P ops S h v a->S w->
  Any P md ops Q S u n (listed.setIfInBounds i Z) (a.put h.dst v) w->Any P md ops Q S u (n+1) listed a w:=by
 intro n
 induction n with
 |zero=>
  intro listed a w _ g C t p m;refine⟨λx=>(by rw[x] at g;cases g),λj q=>?_⟩;by_cases d:j=i
  ·subst d;exact t.wpOp A p ⟨λ_=>p,m⟩
  ·have:=ready_mono q d;rw[m.1] at this;cases this
 |succ n ao=>
  intro listed a w D g C t p m;refine⟨λx=>(by rw[x] at g;cases g),λj q=>?_⟩;by_cases d:j=i
  ·subst d;exact t.wpOp A p ⟨λ_=>p,m⟩
  ·have z:=(mem_ready.1 g).1;have G:j≠u:=λe=>uD am z (e▸q);have f:=m.2 j (ready_mono q d);obtain⟨H,k,B,R⟩:=mem_ready.1 q;have ae:∀e∈k.after,Vn md e=Z->e.on≠i:=λe V T W=>by
    have f:=R e V T;rw[W] at f;rcases Vy i listed.size with y|y
    ·simp[y] at z f;rw[z] at f;cases f
    ·simp[Vl y] at f
   have N:=wpOp_putIf B (D j k B d H ae) (λcs b=>J i h cs b A) (λcs b=>J j k cs b B) O t f;have X:∀l r,ops[l]? =I r->l≠i->(listed.setIfInBounds j Z).getD l Z=T7->
    (∀e∈r.after,Vn md e=Z->e.on≠i)->h.apart ops r=Z:=λl r Y aa L ad=>by
    refine D l r Y aa ?_ ad;by_cases E:j=l
    ·subst E;exact H
    ·rw[XB Z E] at L;exact L
   have al:(listed.setIfInBounds j Z).getD u Z=T7:=by rw[XB Z G];exact C
   have K:((listed.setIfInBounds i Z).setIfInBounds j Z).getD u Z=T7:=by rw[XB Z G,XB Z ab.symm];exact C
   refine wpOp_mono (λM ap s=>⟨λ_=>s.2.1 K,ao (listed.setIfInBounds j Z) M ap X (ready_mono g (Ne.symm d)) al s.1 (s.2.1 K) ?_⟩) N;rw[Array.setIfInBounds_comm _ _ d];exact s.2.2
def S6{i:Nat}{k:Vu}{v:U}(y:ops[i]? =I k)(H:∀(j:Nat) (o:Vu) cs b,ops[j]? =I o->o.op≠.select cs b)(z:u≠i)
 (N:∀c a w,Q (.panic c) (a.put k.dst v) w->Q (.panic c) a w):
 ∀(n:Nat) (listed:Array Bool) (a:V6) (w:F),
  (∀j l,ops[j]? =I l->j≠i->listed.getD j Z=T7->(∀e∈l.after,Vn md e=Z->e.on≠i)->k.apart ops l=Z)->
  i∈UZ md ops listed->(listed.getD u Z=T7->S w)->YieldsIf P ops (λ_=>True) k v a->
  Any P md ops Q S u n (listed.setIfInBounds i Z) (a.put k.dst v) w->Any P md ops Q S u (n+1) listed a w:=by
 intro n
 induction n with
 |zero=>
  intro listed a w _ h B t p;refine⟨λd=>(by rw[d] at h;cases h),λj s=>?_⟩;by_cases f:j=i
  ·subst f;exact t.wpOp y trivial ⟨λd=>B (by rw[XB Z z.symm] at d;exact d),p⟩
  ·have:=ready_mono s f;rw[p.1] at this;cases this
 |succ n ad=>
  intro listed a w D h B t p;refine⟨λd=>(by rw[d] at h;cases h),λj s=>?_⟩;by_cases f:j=i
  ·subst f;exact t.wpOp y trivial ⟨λd=>B (by rw[XB Z z.symm] at d;exact d),p⟩
  ·have C:=(mem_ready.1 h).1;have g:=p.2 j (ready_mono s f);obtain⟨G,l,A,O⟩:=mem_ready.1 s;have ab:∀e∈l.after,Vn md e=Z->e.on≠i:=λe T R V=>by
    have g:=O e T R;rw[V] at g;rcases Vy i listed.size with x|x
    ·simp[x] at C g;rw[C] at g;cases g
    ·simp[Vl x] at g
   have M:=wpOp_putIf A (D j l A f G ab) (λcs b=>H i k cs b y) (λcs b=>H j l cs b A) N t g;have W:∀m q,ops[m]? =I q->m≠i->(listed.setIfInBounds j Z).getD m Z=T7->
    (∀e∈q.after,Vn md e=Z->e.on≠i)->k.apart ops q=Z:=λm q X Y K aa=>by
    refine D m q X Y ?_ aa;by_cases E:j=m
    ·subst E;exact G
    ·rw[XB Z E] at K;exact K
   have J:((listed.setIfInBounds i Z).setIfInBounds j Z).getD u Z=(listed.setIfInBounds j Z).getD u Z:=by
    rw[Array.setIfInBounds_comm _ _ (Ne.symm f),XB Z z.symm]
   refine wpOp_mono (λL ae r=>⟨λd=>r.2.1 (J.trans d),ad (listed.setIfInBounds j Z) L ae W (ready_mono h (Ne.symm f)) (λd=>r.2.1 (J.trans d)) r.1 ?_⟩) M;rw[Array.setIfInBounds_comm _ _ f];exact r.2.2
def take{i:Nat}{b:Vu}{v:U}{n:Nat}{listed:Array Bool}{a:V6}{w:F}(d:ops[i]? =I b)
 (l:Region.noSelect ops=Z) (g:Region.free md ops listed i=Z) (k:(UZ md ops listed).contains i=Z) (o:waits md ops u i=Z) (j:(u==i)=T7) (m:listed.getD u Z=T7)
 (e:∀c a w,Q (.panic c) (a.put b.dst v) w->Q (.panic c) a w) (p:YieldsIf P ops S b v a) (f:S w)
 (h:Any P md ops Q S u n (listed.setIfInBounds i Z) (a.put b.dst v) w):Any P md ops Q S u (n+1) listed a w:=
 first d (Region.noSelect_spec l) o (by simpa using j) e n listed a w (Region.free_spec d g) (by simpa using k) m p f h
def pick{i:Nat}{b:Vu}{v:U}{n:Nat}{listed:Array Bool}{a:V6}{w:F}(d:ops[i]? =I b)
 (l:Region.noSelect ops=Z) (g:Region.free md ops listed i=Z) (k:(UZ md ops listed).contains i=Z) (j:(u==i)=T7)
 (e:∀c a w,Q (.panic c) (a.put b.dst v) w->Q (.panic c) a w) (m:YieldsIf P ops (λ_=>True) b v a) (f:S w)
 (h:Any P md ops Q S u n (listed.setIfInBounds i Z) (a.put b.dst v) w):Any P md ops Q S u (n+1) listed a w:=
 S6 d (Region.noSelect_spec l) (by simpa using j) e n listed a w (Region.free_spec d g) (by simpa using k) (λ_=>f) m h
def one{i:Nat}{o:Vu}{n:Nat}{listed:Array Bool}{a:V6}{w:F}(e:UZ md ops listed=[i])(k:ops[i]? =I o)
 (h:∀b:V6->F->Prop,X (∀a' w',((listed.setIfInBounds i Z).getD u Z=T7->S w')->Any P md ops Q S u n (listed.setIfInBounds i Z) a' w'->b a' w')->if UF o (Vj ops a.tmps)=Z then Oper.wp P o a w b Q else b (a.put o.dst Vk) w):
 Any P md ops Q S u (n+1) listed a w:=by
 refine⟨λd=>(by rw[e] at d;cases d),λl c=>?_⟩;rw[e] at c;simp at c;subst c;exact wpOp_step k λb j=>h b (λa' w' f g=>j a' w' ⟨f,g⟩)
def pair{i j:Nat}{o o':Vu}{n:Nat}{listed:Array Bool}{a:V6}{w:F}(k:UZ md ops listed=[i,j])(m:ops[i]? =I o)(p:ops[j]? =I o')
 (h:∀b:V6->F->Prop,X (∀a' w',((listed.setIfInBounds i Z).getD u Z=T7->S w')->Any P md ops Q S u n (listed.setIfInBounds i Z) a' w'->b a' w')->if UF o (Vj ops a.tmps)=Z then Oper.wp P o a w b Q else b (a.put o.dst Vk) w)
 (l:∀b:V6->F->Prop,X (∀a' w',((listed.setIfInBounds j Z).getD u Z=T7->S w')->Any P md ops Q S u n (listed.setIfInBounds j Z) a' w'->b a' w')->if UF o' (Vj ops a.tmps)=Z then Oper.wp P o' a w b Q else b (a.put o'.dst Vk) w):
 Any P md ops Q S u (n+1) listed a w:=by
 refine⟨λg=>(by rw[k] at g;cases g),λq f=>?_⟩;rw[k] at f;simp at f;rcases f with rfl|rfl
 ·exact wpOp_step m λb e=>h b (λa' w' c d=>e a' w' ⟨c,d⟩)
 ·exact wpOp_step p λb e=>l b (λa' w' c d=>e a' w' ⟨c,d⟩)
theorem done{listed:Array Bool}{a:V6}{w:F}(b:UZ md ops listed=[])(h:Q .normal a w):∀n,Any P md ops Q S u n listed a w
 |0=>⟨b,h⟩
 |_+1=>⟨λ_=>h,by rw[b];simp⟩
def QV{id:Nat}{a:V6}{w:F}(S:F->Prop)(u:Nat)(b:P.follows .mixedOrders=Z)
 (h:Any P .any ops Q S u ops.size (U3 ops.size T7) a w.drew):(Code.region id ops Z).wp P Q a w:=
 wp_region_any b (Lu _ _ _ _ h)
def Hi (md:Region.Mode)(ops:Array Vu)(L:List Nat)(i:Nat):Bool:=L.all λa=>waits md ops a i||L.any λb=>waits md ops a b
def Q8{L:List Nat}{i:Nat}{l:Vu}{v:U}(E:ops[i]? =I l)(R:∀(j:Nat) (o:Vu) cs b,ops[j]? =I o->o.op≠.select cs b)(a1:Hi md ops L i=Z)(G:u∈L)(av:i∉L)
 (ab:∀c a w,Q (.panic c) (a.put l.dst v) w->Q (.panic c) a w):
 ∀(n:Nat) (listed:Array Bool) (a:V6) (w:F),
  (∀j m,ops[j]? =I m->j≠i->listed.getD j Z=T7->(∀e∈m.after,Vn md e=Z->e.on≠i)->l.apart ops m=Z)->
  i∈UZ md ops listed->(∀g∈L,listed.getD g Z=T7)->YieldsIf P ops S l v a->S w->
  Any P md ops Q S u n (listed.setIfInBounds i Z) (a.put l.dst v) w->Any P md ops Q S u (n+1) listed a w:=by
 intro n
 induction n with
 |zero=>
  intro listed a w _ k y z r q;refine⟨λA=>(by rw[A] at k;cases k),λj p=>?_⟩;by_cases d:j=i
  ·subst d;exact z.wpOp E r ⟨λ_=>r,q⟩
  ·have:=ready_mono p d;rw[q.1] at this;cases this
 |succ n a2=>
  intro listed a w K k y z r q;refine⟨λA=>(by rw[A] at k;cases k),λj p=>?_⟩;by_cases d:j=i
  ·subst d;exact z.wpOp E r ⟨λ_=>r,q⟩
  ·have C:=(mem_ready.1 k).1;have ap:j∉L:=λaq=>by
    have Y:=Uz.1 a1 j aq;rcases Bool.or_eq_true_iff.1 Y with D|D
    ·exact uD D C p
    ·obtain⟨f,H,aa⟩:=List.any_eq_true.1 D;exact uD aa (y f H) p
   have N:∀g∈L,j≠g:=λg x e=>ap (e▸x);have h:=q.2 j (ready_mono p d);obtain⟨O,m,J,ad⟩:=mem_ready.1 p;have az:∀e∈m.after,Vn md e=Z->e.on≠i:=λe al ae am=>by
    have h:=ad e al ae;rw[am] at h;rcases Vy i listed.size with B|B
    ·simp[B] at C h;rw[C] at h;cases h
    ·simp[Vl B] at h
   have X:=wpOp_putIf J (K j m J d O az) (λcs b=>R i l cs b E) (λcs b=>R j m cs b J) ab z h;have ao:∀f s,ops[f]? =I s->f≠i->(listed.setIfInBounds j Z).getD f Z=T7->
    (∀e∈s.after,Vn md e=Z->e.on≠i)->l.apart ops s=Z:=λf s H ar V aw=>by
    refine K f s H ar ?_ aw;by_cases M:j=f
    ·subst M;exact O
    ·rw[XB Z M] at V;exact V
   have a0:∀g∈L,(listed.setIfInBounds j Z).getD g Z=T7:=λg x=>by rw[XB Z (N g x)];exact y g x
   have T:((listed.setIfInBounds i Z).setIfInBounds j Z).getD u Z=T7:=by rw[XB Z (N u G),XB Z (show i≠u from λe=>av (e▸G))];exact y u G
   refine wpOp_mono (λW a3 t=>⟨λ_=>t.2.1 T,a2 (listed.setIfInBounds j Z) W a3 ao (ready_mono k (Ne.symm d)) a0 t.1 (t.2.1 T) ?_⟩) X;rw[Array.setIfInBounds_comm _ _ d];exact t.2.2
def zR(L:List Nat){i:Nat}{b:Vu}{v:U}{n:Nat}{listed:Array Bool}{a:V6}{w:F}(d:ops[i]? =I b)
 (p:Region.noSelect ops=Z) (j:Region.free md ops listed i=Z) (o:(UZ md ops listed).contains i=Z) (r:Hi md ops L i=Z) (l:L.contains u=Z) (m:L.contains i=T7) (q:(L.all λg=>listed.getD g Z==T7)=Z)
 (e:∀c a w,Q (.panic c) (a.put b.dst v) w->Q (.panic c) a w) (s:YieldsIf P ops S b v a) (f:S w)
 (h:Any P md ops Q S u n (listed.setIfInBounds i Z) (a.put b.dst v) w):Any P md ops Q S u (n+1) listed a w:=
 Q8 d (Region.noSelect_spec p) r (by simpa using l) (by simpa using m) e n listed a w (Region.free_spec d j) (by simpa using o) (λg k=>by simpa using Uz.1 q g k) s f h
def lN (md:Region.Mode)(ops:Array Vu)(u:Nat)(listed:Array Bool)(i:Nat)(t:Array U)(b:Bool):Bool:=
 Region.noSelect ops&&Region.free md ops listed i&&(UZ md ops listed).contains i && !(u==i)&&match ops[i]? with
  |some a=>UF a (Vj ops t)==b
  |none=>T7
def BR{i:Nat}{a:Vu}{listed:Array Bool}{t:Array U}{b:Bool}(c:ops[i]? =I a)(h:lN md ops u listed i t b=Z):Region.noSelect ops=Z/\Region.free md ops listed i=Z/\(UZ md ops listed).contains i=Z/\(u==i)=T7/\UF a (Vj ops t)=b:=by
 unfold lN at h;rw[c] at h;simp only[Uw,WO,beq_iff_eq] at h;exact⟨h.1.1.1.1,h.1.1.1.2,h.1.1.2,h.1.2,h.2⟩
def Cl(e:X (∀c a (d:Nat) v w,Q (.panic c) (a.put (I d) v) w->Q (.panic c) a w)){d:Option Nat}{v:U}:∀c a w,Q (.panic c) (a.put d v) w->Q (.panic c) a w:=λc a w b=>by
 cases d with
 |none=>exact b
 |some d=>exact e.o c a d v w b
def pk(i:Nat){b:Vu}{v:U}{n:Nat}{listed:Array Bool}{a:V6}{w:F}(h:Any P md ops Q S u n (listed.setIfInBounds i Z) (a.put b.dst v) w)(e:ops[i]? =I b:=by rfl)(hc:lN md ops u listed i a.tmps Z=Z:=by kernel_rfl)(f:X (∀c a (d:Nat) v w,Q (.panic c) (a.put (I d) v) w->Q (.panic c) a w):=by assumption)(g:S w:=by assumption)
 (j:∀w,(UH a.eval b).run P w= .ok (.value v) w:=by intro w;go_simp;try with_reducible rfl):Any P md ops Q S u (n+1) listed a w:=
 have c:=BR e hc
 pick e c.1 c.2.1 c.2.2.1 c.2.2.2.1 (Cl f) (.inl ⟨c.2.2.2.2,λw _=>j w⟩) g h
def sk(i:Nat){e:Vu}{n:Nat}{listed:Array Bool}{a:V6}{w:F}(h:Any P md ops Q S u n (listed.setIfInBounds i Z) (a.put e.dst Vk) w)(b:ops[i]? =I e:=by rfl)(hc:lN md ops u listed i a.tmps T7=Z:=by kernel_rfl)(f:X (∀c a (d:Nat) v w,Q (.panic c) (a.put (I d) v) w->Q (.panic c) a w):=by assumption)(g:S w:=by assumption):Any P md ops Q S u (n+1) listed a w:=
 have c:=BR b hc
 pick b c.1 c.2.1 c.2.2.1 c.2.2.2.1 (Cl f) (.inr ⟨c.2.2.2.2,rfl⟩) g h
def ld(L:List Nat)(i:Nat){e:Vu}{v:U}{n:Nat}{listed:Array Bool}{a:V6}{w:F}(h:Any P md ops Q S u n (listed.setIfInBounds i Z) (a.put e.dst v) w)(f:ops[i]? =I e:=by rfl)(hc:(lN md ops u listed i a.tmps Z&&Hi md ops L i&&L.contains u && !L.contains i&&L.all λg=>listed.getD g Z==T7)=Z:=by kernel_rfl)(j:X (∀c a (d:Nat) v w,Q (.panic c) (a.put (I d) v) w->Q (.panic c) a w):=by assumption)(k:S w:=by assumption)
 (l:∀w,S w->(UH a.eval e).run P w= .ok (.value v) w:=by intro w b;(try dsimp only at b);(repeat obtain⟨_,b⟩:=b);go_simp;try with_reducible rfl):Any P md ops Q S u (n+1) listed a w:=by
 simp only[Uw,WO] at hc;have c:=BR f hc.1.1.1.1;exact zR L f c.1 c.2.1 c.2.2.1 hc.1.1.1.2 hc.1.1.2 hc.1.2 hc.2 (Cl j) (.inl ⟨c.2.2.2.2,l⟩) k h
def on(i:Nat){o:Vu}{n:Nat}{listed:Array Bool}{a:V6}{w:F}
 (h:∀b:V6->F->Prop,X (∀a' w',((listed.setIfInBounds i Z).getD u Z=T7->S w')->Any P md ops Q S u n (listed.setIfInBounds i Z) a' w'->b a' w')->Oper.wp P o a w b Q) (e:UZ md ops listed=[i]:=by kernel_rfl) (d:ops[i]? =I o:=by rfl) (f:UF o (Vj ops a.tmps)=Z:=by kernel_rfl):Any P md ops Q S u (n+1) listed a w:=
 one e d λb c=>by rw[if_pos f];exact h b c
def open_{id:Nat}{a:V6}{w:F}(S:F->Prop)(u:Nat)(e:∀c a (d:Nat) v w,Q (.panic c) (a.put (I d) v) w->Q (.panic c) a w)
 (h:X (∀c a (d:Nat) v w,Q (.panic c) (a.put (I d) v) w->Q (.panic c) a w)->Any P .any ops Q S u ops.size (U3 ops.size T7) a w.drew) (b:P.follows .mixedOrders=Z:=by kernel_rfl):(Code.region id ops Z).wp P Q a w:=QV S u b (h e)
end
end Un
namespace Ec
open Go.RowKit Pk Pm
def I0(w:F)(o p q r:Xv):((((w.alloc o).alloc p).alloc q).alloc r).heap[w.heap.size+3]? =I r:=by
 have:=bk (((w.alloc o).alloc p).alloc q) r;rwa [show(((w.alloc o).alloc p).alloc q).heap.size=w.heap.size+3 by simp] at this
def iY.below{w w':F}{base:Nat}{v:U}{L:List (Bd×U)}(h:iY w base v L)(a:aP w w'):iY w' base v L:=
 ⟨aK h.own a,λc b=>aK (h.each c b) a⟩
def iY.put{w:F}{base:Nat}{v:U}{L:List (Bd×U)}(h:iY w base v L){g:Nat}{cs:Array U}{t:Uh}(a:w.heap[g]? =I (.cells cs t (0,0)))(h1:t≠139)(d:t≠143)(o:Nat)(u:U):iY (w.setCell ⟨g,o,K⟩ u) base v L:=
 ⟨h.own.kept (aQ w g o u) (.inr (bw h.own a h1).symm),λc b=>(h.each c b).kept (aQ w g o u) (.inr (bw (h.each c b) a d).symm)⟩
def iY.snoc{w d:F}{base:Nat}{v v1:U}{L:List (Bd×U)}(h:iY w base v L)(k:aR w d v v1){b:Bd}{c:U}(l:w.ownsRow base 143 8 c b.chunks.length (ej b.chunks))
 (m:d.ownsRow base 139 2 v1 (L++[(b,c)]).length (nH (L++[(b,c)]))):iY d base v1 (L++[(b,c)]):=by
 refine⟨m,λn a=>?_⟩;have f:∀{i:U} {g:Nat} {j:List U},w.ownsRow base 143 8 i g j->d.ownsRow base 143 8 i g j:=λe=>
  bF e k (dQ e h.own (by decide))
 rcases U1.1 a with a|a
 ·exact f (h.each n a)
 ·simp at a;subst a;exact f l
def AB.sub{w:F}{ro:Option UJ}{rb bh aN:Nat}{b:List (List aE)}(c:Df w ro rb bh b)(hc:b.length<=aN)(a m:Nat)(i:a<b.length):
 AB w (.slice (I ⟨rb,bh+a,K⟩) ((b.drop a).take m).length (aN-a)) ((b.drop a).take m):=by
 refine⟨_,rb,bh+a,aN-a,rfl,by simp;omega,λ_=>rfl,λ_=>c.lt (by omega),λd g=>?_⟩;have h:a+d<b.length:=by simp at g;omega
 obtain⟨v,e,f⟩:=c.c (a+d) h;refine⟨v,by rw[U5];exact e,?_⟩;rw[VF,List.getElem_drop];exact f
structure nS(w W:F)(cv rv ev:U)(bd:Int)(bo:Bool)(bv:U)(L:List (Bd×U)):Prop where
 P6:W.heap[w.heap.size]? =I (.cells #[cv,rv] 46 (0,0))
 opt:W.heap[w.heap.size+1]? =I (.cells #[.int .i64 bd,ev,.bool bo] 48 (0,0))
 res:W.heap[w.heap.size+2]? =I (.cells #[aO,aO,aO] 105 (0,0))
 box:W.heap[w.heap.size+3]? =I (.cells #[cv,ev,bv] 105 (0,0))
 b9:iY W w.heap.size bv L
 dg:aP w W
def nS.below{w W b:F}{e g f:U}{c:Int}{bo:Bool}{d:U}{L:List (Bd×U)}(h:nS w W e g f c bo d L)(a:aP W b):nS w b e g f c bo d L:=
 ⟨(a.block _ (Ue h.P6)).trans h.P6,(a.block _ (Ue h.opt)).trans h.opt,(a.block _ (Ue h.res)).trans h.res,(a.block _ (Ue h.box)).trans h.box,h.b9.below a,h.dg.trans (a.mono h.dg.size)⟩
def nS.cells{w W:F}{b i c:U}{e:Int}{bo:Bool}{f:U}{L:List (Bd×U)}(h:nS w W b i c e bo f L):
 (aM W w.heap.size 0 b/\aM W w.heap.size 1 i)/\(aM W (w.heap.size+1) 0 (.int .i64 e)/\aM W (w.heap.size+1) 1 c/\aM W (w.heap.size+1) 2 (.bool bo))/\
 (aM W (w.heap.size+3) 0 b/\aM W (w.heap.size+3) 1 c/\aM W (w.heap.size+3) 2 f/\W.frozen? ⟨w.heap.size+3,2,K⟩=T7):=by
 have g:=h.P6;have d:=h.opt;have a:=h.box;exact⟨⟨by simp[Us,g],by simp[Us,g]⟩,⟨by simp[Us,d],by simp[Us,d],by simp[Us,d]⟩,by simp[Us,a],by simp[Us,a],by simp[Us,a],by simp[UQ,a]⟩
def nS.kept{w W a:F}{f j g:U}{d:Int}{bo:Bool}{b e:U}{L:List (Bd×U)}(h:nS w W f j g d bo b L)(i:aR W a b e):
 aM a (w.heap.size+3) 2 b/\a.frozen? ⟨w.heap.size+3,2,K⟩=T7:=by
 have c:=(i.fO.block _ (Ue h.box) (bw h.b9.own h.box (by decide))).trans h.box;exact⟨by simp[Us,c],by simp[UQ,c]⟩
def nS.jP{w W d:F}{i m j:U}{f:Int}{bo:Bool}{g c:U}{L:List (Bd×U)}(h:nS w W i m j f bo g L)(a:aR W d g c){b:Bd}{e:U}(s:W.ownsRow w.heap.size 143 8 e b.chunks.length (ej b.chunks))
 (t:d.ownsRow w.heap.size 139 2 c (L++[(b,e)]).length (nH (L++[(b,e)]))):nS w (d.setCell ⟨w.heap.size+3,2,K⟩ c) i m j f bo c (L++[(b,e)]):=by
 have o:=(a.fO.block _ (Ue h.P6) (bw h.b9.own h.P6 (by decide))).trans h.P6;have p:=(a.fO.block _ (Ue h.opt) (bw h.b9.own h.opt (by decide))).trans h.opt;have q:=(a.fO.block _ (Ue h.res) (bw h.b9.own h.res (by decide))).trans h.res;have k:=(a.fO.block _ (Ue h.box) (bw h.b9.own h.box (by decide))).trans h.box;have r:=Ur d (w.heap.size+3) 2 _ _ c k;have l:=h.dg.trans (a.below (λn a=>(h.b9.own.lt n a).1) h.dg.size);refine⟨?_,?_,?_,r,(h.b9.snoc a s t).put k (by decide) (by decide) _ _,di l l.size (by omega) _ _⟩
 ·rw[Uu _ _ _ _ (by simp)];exact o
 ·rw[Uu _ _ _ _ (by simp)];exact p
 ·rw[Uu _ _ _ _ (by simp)];exact q
def nS.Tx{w W a:F}{e j f:U}{c:Int}{bo:Bool}{d k:U}{L:List (Bd×U)}(h:nS w W e j f c bo d L)(i:aR W a d k):
 aM a w.heap.size 1 j/\aM a w.heap.size 0 e/\aM a (w.heap.size+1) 0 (.int .i64 c)/\aM a (w.heap.size+1) 1 f/\aM a (w.heap.size+1) 2 (.bool bo):=by
 have g:=(i.fO.block _ (Ue h.P6) (bw h.b9.own h.P6 (by decide))).trans h.P6;have b:=(i.fO.block _ (Ue h.opt) (bw h.b9.own h.opt (by decide))).trans h.opt;exact⟨by simp[Us,g],by simp[Us,g],by simp[Us,b],by simp[Us,b],by simp[Us,b]⟩
def nS.Nx{w W:F}{c e d:U}{a:Int}{bo:Bool}{b:U}{L:List (Bd×U)}(h:nS w W c e d a bo b L):
 aM W (w.heap.size+3) 2 b/\aM W w.heap.size 1 e/\aM W w.heap.size 0 c/\aM W (w.heap.size+1) 0 (.int .i64 a)/\aM W (w.heap.size+1) 1 d/\aM W (w.heap.size+1) 2 (.bool bo):=by
 obtain⟨⟨k,l⟩,⟨g,i,j⟩,m,n,f,o⟩:=h.cells;exact⟨f,l,k,g,i,j⟩
def IJ(w:F)(b:Bd)(a:U)(t:Uh):∀(j:Nat) (u:U),(n6 (b,a))[j]? =I u->(w.alloc (.cells (n6 (b,a)).toArray t)).cell? ((⟨w.heap.size,0,K⟩:UJ).add j)=I u:=
 World.news_of_block (bk w _)
def ay.Ij:((aB T4).info? 139).map (λi=>(i.zero,i.size,i.bytes))=I (I (.agg #[.int .i64 0,aO]),2,32):=by kernel_rfl
def iu{b:List (List aE)}{a k:Nat}:(bY b a k).length=min a (b.length-k*a):=by simp[bY]
def F2{es:List Int}(bt:(∀e∈es,e=0)\/xE/\rS)(c:List (List aE))(cs:List bL)(a:Nat)(bo:Bool)(b6 v y:U)(w:F)(S:1<=a)(dk:a<=100)(du:c.length<=2000)(b3:∀r∈c,r.length=cs.length)(bB:∀r∈c,∀x∈r,rC x)(T:cs.length<=8)(bu:es.length=cs.length)
 (cu:AB w b6 c) (bs:vn w v cs) (bv:rA w y es):
 bH 43 #[.agg #[v,b6],.agg #[.int .i64 (a:Int),y,.bool bo]] w λe w'=>∃f L,e= .returned (.agg #[v,y,f])/\L.map Ux=bP c cs es bo a (b7 c.length a)/\iY w' w.heap.size f L/\aP w w':=by
 obtain⟨c2,cl,cR,c0,c1⟩:=Ve ay.Ij;have a3:X (vn w v cs):=bs;have a4:X (rA w y es):=bv;have Q:X (∀d b,aP w d->b*a<c.length->∀O,AB d O (bY c a b)->bH 60 #[O,v,.agg #[.int .i64 (a:Int),y,.bool bo]] d λe w'=>∃q,e= .returned (.agg #[.int .i64 ((bY c a b).length:Int),q])/\w'.ownsRow d.heap.size 143 8 q cs.length (ej (eu (bY c a b) cs es bo cs.length))/\aP d w'):=λd b bm V O k=>
  Fw bt (bY c a b) cs a bo O v y d (by rw[iu];omega) (λr ab=>b3 r (List.mem_of_mem_drop (V5 ab))) (λr ab=>bB r (List.mem_of_mem_drop (V5 ab))) T bu k (a3.o.below bm) (a4.o.lower bm)
 clear bt;obtain⟨B,l,bh,aN,rfl,cp,A⟩:=cu;obtain⟨g,da,bE,aJ,rfl,dl,-⟩:=bs;obtain⟨h,db,jg,bW,rfl,-,-,-⟩:=bv;have R:X (Df w B l bh c):=A;clear b3 bB A a3 a4 bu;go_enter ay.func43,Tryz.ntmps43
 go_upto_region 2 with fail
 have bl:nS w ((((w.alloc (.cells #[.slice g cs.length aJ,.slice B c.length aN] 46)).alloc (.cells #[.int .i64 (a:Int),.slice h es.length bW,.bool bo] 48)).alloc (.cells #[aO,aO,aO] 105)).alloc (.cells #[.slice g cs.length aJ,.slice h es.length bW,aO] 105)) (.slice g cs.length aJ) (.slice B c.length aN) (.slice h es.length bW) a bo aO []:=by
  refine⟨alloc_old _ (by simp;omega) (alloc_old _ (by simp;omega) (alloc_old _ (by simp) (bk w _))),alloc_old _ (by simp) (alloc_old _ (by simp) (jH w _ _)),alloc_old _ (by simp) (AD w _ _ _),I0 w _ _ _ _,⟨Vp _ _ _ _,λdC co=>by simp at co⟩,?_⟩;exact((gA _ _).alloc (by simp;omega) _).alloc (by simp;omega) _
 generalize (((w.alloc (.cells #[.slice g cs.length aJ,.slice B c.length aN] 46)).alloc (.cells #[.int .i64 (a:Int),.slice h es.length bW,.bool bo] 48)).alloc (.cells #[aO,aO,aO] 105)).alloc (.cells #[.slice g cs.length aJ,.slice h es.length bW,aO] 105)=c8 at*
 go_wp2_with fail
 go_loopw [6] (λad wr=>∃(b:Nat) (f:U) (L:List (Bd×U)),b<=b7 c.length a/\ad= .int .i64 ((b*a:Nat):Int)/\L.map Ux=bP c cs es bo a b/\nS w wr (.slice g cs.length aJ) (.slice B c.length aN) (.slice h es.length bW) a bo f L) (λad _=>c.length+200-(US ad).toNat)
 case atStart=>exact⟨0,_,[],UE _,by simp,rfl,bl⟩
 case round=>
  clear bl;obtain⟨b,f,L,V,rfl,bj,i⟩:=hrel;have a9:X (nS w wr (.slice g cs.length aJ) (.slice B c.length aN) (.slice h es.length bW) a bo f L):=i;have G:X (L.map Ux=bP c cs es bo a b):=bj;have a6:X (b<=b7 c.length a):=V;clear bj V;by_cases N:b*a<c.length
  ·have cc:X (b<b7 c.length a):=(mw (by omega) b).1 N;have ci:X ((b+1)*a=b*a+a):=Nat.succ_mul b a;have a2:X ((bY c a b).length=min a (c.length-b*a)):=iu;have A:=R.o.below i.dg;obtain rfl:=A.addr (by omega);have bb:X (AB wr (.slice (I ⟨l,bh+b*a,K⟩) (bY c a b).length (aN-b*a)) (bY c a b)):=AB.sub A cp (b*a) a N;have a1:X (bH 60 #[.slice (I ⟨l,bh+b*a,K⟩) (bY c a b).length (aN-b*a),.slice g cs.length aJ,.agg #[.int .i64 (a:Int),.slice h es.length bW,.bool bo]] wr.drew λe w'=>∃q,e= .returned (.agg #[.int .i64 ((bY c a b).length:Int),q])/\w'.ownsRow wr.heap.size 143 8 q cs.length (ej (eu (bY c a b) cs es bo cs.length))/\aP wr w'):=by
    refine(Q.o wr.drew b i.dg.drew N _ (bb.o.below (Up _ _).drew)).mono ?_;rintro e w' ⟨q,z,k,J⟩;exact⟨q,z,k,(Up _ _).drew.trans J⟩
   obtain⟨⟨ao,ap⟩,⟨ae,al,am⟩,bc,bd,be,bi⟩:=i.cells;have cv:=i.dg.size;clear i A Q R;generalize b1:(bY c a b).length=o at*;have cf:X ((bY c a b).length=o):=b1;clear b1;generalize bx:b*a=n at*;have cb:X (b*a=n):=bx;clear bx;have T:=a2.o;have dq:((n:Nat):Int)<(c.length:Int):=by omega
   obtain⟨t,b4⟩:∃t:Nat,t=n+o:=⟨_,rfl⟩;have cx:min ((n:Int)+(a:Int)) (c.length:Int)=(t:Int):=by omega
   have z:((n:Nat):Int)<=(t:Int):=by omega
   have k:((t:Nat):Int)<=(aN:Int):=by omega
   have c7:X (t=n+o):=b4;have dp:t-n=o:=by omega
   have ds:¬aN=n:=by omega
   clear b4 T a2;have a8:X (L.length=b):=by
    show _=_;rw[<-UG (f:=Ux),G.o,jb]
   have dr:b<=2000:=by have:=Nat.le_mul_of_pos_right b (show 0<a by omega);have:=cb.o;omega
   go_upto_region 6 with fail
   clear cx;refine Un.open_ (λd=>aM d (w.heap.size+3) 2 f/\aM d w.heap.size 1 (.slice (I ⟨l,bh,K⟩) c.length aN)/\aM d w.heap.size 0 (.slice g cs.length aJ)/\aM d (w.heap.size+1) 0 (.int .i64 (a:Int))/\aM d (w.heap.size+1) 1 (.slice h es.length bW)/\aM d (w.heap.size+1) 2 (.bool bo)) 14 (λ_ _ _ _ _ D=>D) λdt=>?_;have E:(λd=>aM d (w.heap.size+3) 2 f/\aM d w.heap.size 1 (.slice (I ⟨l,bh,K⟩) c.length aN)/\aM d w.heap.size 0 (.slice g cs.length aJ)/\aM d (w.heap.size+1) 0 (.int .i64 (a:Int))/\aM d (w.heap.size+1) 1 (.slice h es.length bW)/\aM d (w.heap.size+1) 2 (.bool bo)) wr.drew:=by go_keep
   refine Un.pk 0 ?_
   try simp only[UW,Uc,Ul,Uk]
   refine Un.ld [14] 1 ?_
   try simp only[UW,Uc,Ul,Uk]
   refine Un.pk 2 ?_
   try simp only[UW,Uc,Ul,Uk]
   refine Un.ld [14] 3 ?_
   try simp only[UW,Uc,Ul,Uk]
   refine Un.pk 4 ?_
   try simp only[UW,Uc,Ul,Uk]
   refine Un.pk 5 ?_
   try simp only[UW,Uc,Ul,Uk]
   refine Un.pk 6 ?_
   try simp only[UW,Uc,Ul,Uk]
   refine Un.pk 7 ?_
   try simp only[UW,Uc,Ul,Uk]
   refine Un.ld [14] 8 ?_
   try simp only[UW,Uc,Ul,Uk]
   refine Un.ld [14] 9 ?_
   try simp only[UW,Uc,Ul,Uk]
   refine Un.on 10 λs j=>?_;go_simp;go_at_call 60;refine a1.o.mono ?_;rintro e u ⟨q,rfl,W,S⟩;obtain⟨p,fF,rfl⟩:=bC W;have m:X (nS w u (.slice g cs.length aJ) (.slice (I ⟨l,bh,K⟩) c.length aN) (.slice h es.length bW) a bo f L):=a9.o.below S;have a7:X (u.ownsRow w.heap.size 143 8 (.slice p cs.length fF) cs.length (ej (eu (bY c a b) cs es bo cs.length))):=bM W cv;refine j.o _ _ (λ_=>m.o.Nx) ?_;clear j s E W S a1 bb ao ap ae al am bc bd be bi
   try simp only[UW,Uc,Ul,Uk]
   have E:(λd=>aM d (w.heap.size+3) 2 f/\aM d w.heap.size 1 (.slice (I ⟨l,bh,K⟩) c.length aN)/\aM d w.heap.size 0 (.slice g cs.length aJ)/\aM d (w.heap.size+1) 0 (.int .i64 (a:Int))/\aM d (w.heap.size+1) 1 (.slice h es.length bW)/\aM d (w.heap.size+1) 2 (.bool bo)) u:=m.o.Nx;refine Un.on 11 λs j=>?_;go_simp;have ba:X (nS w (u.alloc (.cells (n6 (⟨o,eu (bY c a b) cs es bo cs.length⟩,.slice p cs.length fF)).toArray 139)) (.slice g cs.length aJ) (.slice (I ⟨l,bh,K⟩) c.length aN) (.slice h es.length bW) a bo f L):=m.o.below ((Up _ _).alloc (T8 _) _);refine j.o _ _ (λ_=>ba.o.Nx) ?_;clear j s E
   try simp only[UW,Uc,Ul,Uk]
   refine Un.one (i:=12) (by kernel_rfl) Y (λs j=>?_);have Z:=m.o.b9.own;rw[a8.o] at Z;have dv:w.heap.size<=u.heap.size:=m.o.dg.size;refine step_append_lies _ (by rfl) _ _ 103 (by rfl) w.heap.size 139 c2 _ 2 32 ay.underlying103 cl cR c0 c1 Y (by decide) f b _ (by rfl) (Z.alloc _) ⟨u.heap.size,0,K⟩ 1 1 (n6 (⟨o,eu (bY c a b) cs es bo cs.length⟩,.slice p cs.length fF)) (by rfl) Y (IJ u _ _ _) (by intro d0 b5;simp[n6] at b5;rcases b5 with rfl|rfl<;>rfl) (by decide) (by unfold Uq;omega) (by omega) (by simp;omega) _ Y ?_;intro H C P aa bA br cn;have M:=aR.jj (n:=b+1) (cap:=C) bA br;have b2:P.ownsRow w.heap.size 139 2 (.slice (I ⟨H,0,K⟩) (b+1) C) (L++[((⟨o,eu (bY c a b) cs es bo cs.length⟩:Bd),Vg p cs.length fF)]).length (nH (L++[((⟨o,eu (bY c a b) cs es bo cs.length⟩:Bd),Vg p cs.length fF)])):=by
    unfold nH at aa ⊢;rw[Vi,Vc,Ua,a8.o];exact aa
   have a5:X (nS w (P.setCell ⟨w.heap.size+3,2,K⟩ (.slice (I ⟨H,0,K⟩) (b+1) C)) (.slice g cs.length aJ) (.slice (I ⟨l,bh,K⟩) c.length aN) (.slice h es.length bW) a bo (.slice (I ⟨H,0,K⟩) (b+1) C) (L++[((⟨o,eu (bY c a b) cs es bo cs.length⟩:Bd),Vg p cs.length fF)])):=m.o.jP M (by simpa [cT] using a7.o) b2;obtain⟨a0,c6⟩:=m.o.kept M;obtain⟨aq,ar,av,aw,az⟩:=m.o.Tx M;refine j.o _ _ (λ_=>⟨a0,aq,ar,av,aw,az⟩) ?_;clear j s Z aa bA br cn b2 M
   try simp only[UW,Uc,Ul,Uk]
   have E:(λd=>aM d (w.heap.size+3) 2 f/\aM d w.heap.size 1 (.slice (I ⟨l,bh,K⟩) c.length aN)/\aM d w.heap.size 0 (.slice g cs.length aJ)/\aM d (w.heap.size+1) 0 (.int .i64 (a:Int))/\aM d (w.heap.size+1) 1 (.slice h es.length bW)/\aM d (w.heap.size+1) 2 (.bool bo)) P:=⟨a0,aq,ar,av,aw,az⟩;refine Un.pk 13 ?_
   try simp only[UW,Uc,Ul,Uk]
   refine Un.on 14 λs j=>?_;go_simp;refine j.o _ _ (λD=>absurd D (by decide)) ?_;clear j s E aq ar av aw az a0 c6;refine Un.done (by kernel_rfl) ?_ _
   try simp only[UW,Uc,Ul,Uk]
   clear m ba a7;generalize P.setCell ⟨w.heap.size+3,2,K⟩ (.slice (I ⟨H,0,K⟩) (b+1) C)=c9 at*;obtain⟨⟨ao,ap⟩,⟨ae,al,am⟩,-⟩:=a5.o.cells
   go_wp2_with fail
   go_roundw
   case rel=>exact⟨b+1,_,_,cc.o,by rw[ci.o];go_num,by rw[U0,G.o,vt,Wp];simp[gL,cf.o],a5.o⟩
   case measure=>simp[US];omega
  ·have b0:b=b7 c.length a:=by
    have:=λD=>N ((mw (show 0<a by omega) b (len:=c.length)).2 D);have k:=a6.o;exact Nat.le_antisymm k (Nat.le_of_not_lt this)
   obtain⟨p,fF,rfl⟩:=bC i.b9.own;generalize ck:Vg p L.length fF=f at i;obtain⟨⟨ao,ap⟩,⟨ae,al,am⟩,bc,bd,be,bi⟩:=i.cells;have z:=Ur wr (w.heap.size+2) 0 _ _ (.slice g cs.length aJ) i.res;have k:=Ur _ (w.heap.size+2) 1 _ _ (.slice h es.length bW) z;have J:=Ur _ (w.heap.size+2) 2 _ _ f k;have ch:X (iY (((wr.setCell ⟨w.heap.size+2,0,K⟩ (.slice g cs.length aJ)).setCell ⟨w.heap.size+2,1,K⟩ (.slice h es.length bW)).setCell ⟨w.heap.size+2,2,K⟩ f) w.heap.size f L):=
    ((i.b9.put i.res (by decide) (by decide) _ _).put z (by decide) (by decide) _ _).put k (by decide) (by decide) _ _
   have ca:X (aP w (((wr.setCell ⟨w.heap.size+2,0,K⟩ (.slice g cs.length aJ)).setCell ⟨w.heap.size+2,1,K⟩ (.slice h es.length bW)).setCell ⟨w.heap.size+2,2,K⟩ f)):=
    bT (bT (bT i.dg (T8 _) (by omega) _ _) (T8 _) (by omega) _ _) (T8 _) (by omega) _ _
   obtain⟨c3,c4,c5⟩:=cB (show _=I (Obj.cells #[.slice g cs.length aJ,.slice h es.length bW,f] 105 (0,0)) from J);obtain⟨dE,dO,dT⟩:=cB i.res;have dc:wr.frozen? ⟨w.heap.size+2,0,K⟩=T7:=by have:=i.res;simp[UQ,this]
   have dd:wr.frozen? ⟨w.heap.size+2,1,K⟩=T7:=by have:=i.res;simp[UQ,this]
   have df:wr.frozen? ⟨w.heap.size+2,2,K⟩=T7:=by have:=i.res;simp[UQ,this]
   have cd:X (L.map Ux=bP c cs es bo a (b7 c.length a)):=by rw[<-b0];exact G.o
   clear z k J i a9 Q R G a6 b0;subst ck;generalize b*a=n at*;go_wp2;simp[VR,UX,Tryz.results43,go_sem,c3,c4,c5];exact⟨L,cd.o,ch.o,ca.o⟩
structure eM(w W:F)(g:Nat)(cv:U)(cs:List bL)(rv:U)(L:List (List aE×U))(bd:Int)(ev:U)(es:List Int)(bo:Bool):Prop where
 res:W.heap[w.heap.size]? =I (.cells #[aO,aO,.int .i64 0,aO,.bool T7] 50 (0,0))
 box:W.heap[g]? =I (.cells #[cv,rv,.int .i64 bd,ev,.bool bo] 50 (0,0))
 ah:W.ownsRow w.heap.size 63 2 cv cs.length (eH cs)
 rows:W.ownsRow w.heap.size 43 1 rv L.length (L.map VU)
 each:∀p∈L,W.ownsRow w.heap.size 59 3 p.2 p.1.length (aH p.1)
 eI:W.ownsRow w.heap.size 3 1 ev es.length (bz es)
 dg:aP w W
 hg:w.heap.size<g
section
variable {w W W1:F}{g:Nat}{cv:U}{cs:List bL}{rv:U}{L:List (List aE×U)}{bd:Int}{ev:U}{es:List Int}{bo:Bool}{v':U}
def eM.below(h:eM w W g cv cs rv L bd ev es bo)(a:aP W W1):eM w W1 g cv cs rv L bd ev es bo:=
 ⟨(a.block _ (Ue h.res)).trans h.res,(a.block _ (Ue h.box)).trans h.box,aK h.ah a,aK h.rows a,λc b=>aK (h.each c b) a,aK h.eI a,h.dg.trans (a.mono h.dg.size),h.hg⟩
def eM.cells(h:eM w W g cv cs rv L bd ev es bo):(aM W g 0 cv/\aM W g 1 rv/\aM W g 2 (.int .i64 bd)/\aM W g 3 ev/\aM W g 4 (.bool bo))/\∀i,W.frozen? ⟨g,i,K⟩=T7:=by
 have a:=h.box;exact⟨⟨by simp[Us,a],by simp[Us,a],by simp[Us,a],by simp[Us,a],by simp[Us,a]⟩,λi=>by simp[UQ,a]⟩
def fY{base:Nat}{e:Uh}{a:Nat}{v:U}{n:Nat}{b:List U}{c:Array U}{t:Uh}(h:W1.ownsRow base e a v n b)(d:W1.heap[g]? =I (.cells c t (0,0)))(f:t≠e)(i:Nat)(u:U):(W1.setCell ⟨g,i,K⟩ u).ownsRow base e a v n b:=
 h.kept (aQ W1 g i u) (.inr (bw h d f).symm)
def eM.QC(h:eM w W g cv cs rv L bd ev es bo)(a:aR W W1 cv v'){c:bL}(m:W1.ownsRow w.heap.size 63 2 v' (cs++[c]).length (eH (cs++[c]))):eM w (W1.setCell ⟨g,0,K⟩ v') g v' (cs++[c]) rv L bd ev es bo/\aM W1 g 0 cv/\∀i,W1.frozen? ⟨g,i,K⟩=T7:=by
 have j:=(a.fO.block _ (Ue h.res) (bw h.ah h.res (by decide))).trans h.res;have b:=(a.fO.block _ (Ue h.box) (bw h.ah h.box (by decide))).trans h.box;have k:=Ur W1 g 0 _ _ v' b;have d:=h.dg.trans (a.below (λg a=>(h.ah.lt g a).1) h.dg.size);have l:=h.hg;refine⟨⟨?_,k,fY m b (by decide) _ _,fY (bF h.rows a (dQ h.rows h.ah (by decide))) b (by decide) _ _,λf e=>fY (bF (h.each f e) a (dQ (h.each f e) h.ah (by decide))) b (by decide) _ _,fY (bF h.eI a (dQ h.eI h.ah (by decide))) b (by decide) _ _,di d d.size (by omega) _ _,l⟩,by simp[Us,b],λi=>by simp[UQ,b]⟩;rw[Uu _ _ _ _ (by simp;omega)];exact j
def eM.QD(h:eM w W g cv cs rv L bd ev es bo)(a:aR W W1 ev v'){c:Int}(m:W1.ownsRow w.heap.size 3 1 v' (es++[c]).length (bz (es++[c]))):eM w (W1.setCell ⟨g,3,K⟩ v') g cv cs rv L bd v' (es++[c]) bo/\aM W1 g 3 ev/\∀i,W1.frozen? ⟨g,i,K⟩=T7:=by
 have j:=(a.fO.block _ (Ue h.res) (bw h.eI h.res (by decide))).trans h.res;have b:=(a.fO.block _ (Ue h.box) (bw h.eI h.box (by decide))).trans h.box;have k:=Ur W1 g 3 _ _ v' b;have d:=h.dg.trans (a.below (λg a=>(h.eI.lt g a).1) h.dg.size);have l:=h.hg;refine⟨⟨?_,k,fY (bF h.ah a (dQ h.ah h.eI (by decide))) b (by decide) _ _,fY (bF h.rows a (dQ h.rows h.eI (by decide))) b (by decide) _ _,λf e=>fY (bF (h.each f e) a (dQ (h.each f e) h.eI (by decide))) b (by decide) _ _,fY m b (by decide) _ _,di d d.size (by omega) _ _,l⟩,by simp[Us,b],λi=>by simp[UQ,b]⟩;rw[Uu _ _ _ _ (by simp;omega)];exact j
def eM.Sn(h:eM w W g cv cs rv L bd ev es bo)(a:aR W W1 rv v'){x:List aE}{u:U}(n:W.ownsRow w.heap.size 59 3 u x.length (aH x))(m:W1.ownsRow w.heap.size 43 1 v' (L++[(x,u)]).length ((L++[(x,u)]).map VU)):eM w (W1.setCell ⟨g,1,K⟩ v') g cv cs v' (L++[(x,u)]) bd ev es bo/\aM W1 g 1 rv/\∀i,W1.frozen? ⟨g,i,K⟩=T7:=by
 have j:=(a.fO.block _ (Ue h.res) (bw h.rows h.res (by decide))).trans h.res;have b:=(a.fO.block _ (Ue h.box) (bw h.rows h.box (by decide))).trans h.box;have k:=Ur W1 g 1 _ _ v' b;have e:=h.dg.trans (a.below (λg a=>(h.rows.lt g a).1) h.dg.size);have l:=h.hg;refine⟨⟨?_,k,fY (bF h.ah a (dQ h.ah h.rows (by decide))) b (by decide) _ _,fY m b (by decide) _ _,λd c=>?_,fY (bF h.eI a (dQ h.eI h.rows (by decide))) b (by decide) _ _,di e e.size (by omega) _ _,l⟩,by simp[Us,b],λi=>by simp[UQ,b]⟩
 ·rw[Uu _ _ _ _ (by simp;omega)];exact j
 ·have f:W.ownsRow w.heap.size 59 3 d.2 d.1.length (aH d.1):=by
   rcases U1.1 c with c|c
   ·exact h.each d c
   ·simp at c;subst c;exact n
  exact fY (bF f a (dQ f h.rows (by decide))) b (by decide) _ _
end
end Ec
namespace Ec
open Go.RowKit Pk
def uN{w:F}{g:Nat}{C:Array U}{t:Uh}(h:w.heap[g]? =I (.cells C t (0,0))):w.rangeAt g 0 C.toList:=by
 intro b v a;rw[UT];simp only[Us,h];simpa using a
def Bf{w:F}{g:Nat}{C:Array U}{t:Uh}(h:w.heap[g]? =I (.cells C t (0,0))):w.there g 0 C.size:=by
 intro b a;rw[UT];refine⟨?_,?_⟩
 ·simp[Us,h,a]
 ·simp[UQ,h]
theorem mz{g k:Nat}(h:k≠g):∀(vs:List U) (o:Nat) (w:F),(w.setCells g o vs).heap[k]? =w.heap[k]?
 | [],_,_=>rfl
 |v::a,o,w=>by
  rw[World.setCells,mz h a (o+1)];exact Uu _ _ _ _ (by simpa using h)
def A1{P:Uf}{fn:Func}{R:Ending->F->Prop}{a:V6}{w:F}{p:Tmp}{ty:Uh}{g:Nat}{cs:List U}{d:TypeDesc}(k:fn.results=#[.cell p ty])(c:a.defers=[])
 (i:a.tmps.getD p Vk= .pointer (I ⟨g,0,K⟩)) (hc:w.rangeAt g 0 cs) (l:P.underlying ty=I d) (e:d.isRow=Z) (f:(P.info? ty).map (·.size)=I cs.length) (h:R (.returned (.agg cs.toArray)) w):VR P fn R .ret a w:=by
 refine bodyPost_ret (v:=.agg cs.toArray) ?_ c h;have b:=run_loadVar_mid w g 0 ty cs d hc l e f;have j:a.tmps[p]?.getD Vk= .pointer (I ⟨g,0,K⟩):=by simpa using i
 simp[UX,k,j,asAddr,WJ,Result.andThen,b]
end Ec
namespace Ec
open Go.RowKit Pk Pm
def rD(a b:List bL):eH (a++b)=eH a++eH b:=by simp[eH]
def AM(l:List bL)(j:Nat)(h:j<l.length):(eH l)[j*2]? =I (.string l[j].name)/\(eH l)[j*2+1]? =I (.int .i64 l[j].kind):=
 ⟨lQ _ 2 (λ_=>rfl) l j h 0 _ Y,lQ _ 2 (λ_=>rfl) l j h 1 _ Y⟩
def ay.F9:((aB T4).info? 63).map (λi=>(i.zero,i.size,i.bytes))=I (I (.agg #[.string ⟨#[]⟩,.int .i64 0]),2,24):=by kernel_rfl
def ay.Mq:((aB T4).info? 43).map (λi=>(i.zero,i.size,i.bytes))=I (I aO,1,24):=by kernel_rfl
end Ec
end Go.Proofs.YtjidbonhhpkljaaGreat
