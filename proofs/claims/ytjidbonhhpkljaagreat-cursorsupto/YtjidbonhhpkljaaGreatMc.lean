/- Parts. -/
import Derived.Test.YtjidbonhhpkljaaGreatMb
import Derived.Test.YtjidbonhhpkljaaGreatRows
import Derived.ProofKit
import Derived.BigQuiet
import Derived.Laws.CopyOwn
import Derived.Lib.Slices
import Derived.Lib.Small
import Derived.Lib.Walk
import Derived.Lib.BitFns
import Derived.Deep.CutBlock
import Derived.WalkSpells
import Derived.Lib.Bytealg
import Derived.WalkLawsBesides
import Derived.Lib.BufferWrite
import Derived.Deep.RegionHeld3
import Derived.Deep.AppendLies
set_option linter.all false
open Array renaming size->U,toList->dY
open Bool renaming false->aj,false_eq_true->eN,true->af
open ByteArray renaming extract->fw,size->bg,toList->jE
open Eq renaming symm->bq,trans->aB
open Go renaming Addr->aL,Ending->gN,Obj->cz,PanicEntry->py,Program->bn,TypeId->aP,TypeInfo->oI,Value->F,World->ag,bodyPost->jI,info_parts->eW,lt_of_block->bE,madeCells->m7,maxLen->aV,results->dB,wpList_append_fits->rT
open Go.ByteArray renaming toList_eq->uM
open Int renaming toNat->bO
open List renaming all_eq_true->fA,getD->aW,length->I,range->fp,replicate->dH,set->gh,toArray->cR
open Option renaming none->Z,some->K
open Or renaming inl->av,inr->ai
open Go
open Act renaming defers->bU,eval->bp,put->bw
open Addr renaming add->rQ,block->cD
open Builtin renaming copy_->sV,firstCells->uK,lenOf->uL
open Calls renaming mono->bG,quiet_of_same->vO
open Ending renaming panicked->gO,returned->aN
open Extern.BytealgCompare renaming compare->D2
open FrameMode renaming panicking->jx,returning->jj
open Func renaming results->rR
open Instr renaming makeSlice->yW
open IntKind renaming i64->aM,u64->lW,u8->vP
open Lib renaming compareBytes->mz,size_eq->uN
open Maps.Keyed renaming of_law->aex
open Obj renaming cells->aq
open Program renaming cellsOf->sY,underlying->g9
open Proofs.Tryz renaming ntmps132->vQ,prog->ax
open Result renaming ok->cm
open RowKit renaming Below->dZ,intOf->bB,wrap64->cY
open RowKit.Below renaming alloc->pE,block->cT,cell->bA,grown->jy,setCell->vU,trans->fN
open TypeInfo renaming bytes->jm,zero->jH
open Value renaming agg->bZ,bool->ak,cells->jn,int->aJ,oneCell'->m3,ownBlock->bI,pointer->cU,slice->ah,string->ay,tuple->cP
open World renaming alloc->cG,cell?->ap,drewN->cI,drewN_drewN->rS,frozen?->cE,grownBy->kg,ownsRow->aT,ownsRow_nil->iS,rangeAt->pF,setCell->aY,setCells->m5
open World.grownBy renaming refl->O8
open World.ownsRow renaming alloc->lE,cellAt->s0,frozenAt->vV,kept->fI
variable{Q:Go.Act}{R qQ:aL}{Qu:Array Go.Oper}{C args:Array F}{qW qX:Bool}{B s:ByteArray}{M qB:Int}{Qw:Go.IntKind}{qZ:List Int}{L l ps qF:List Nat}{J S:List F}{a b c cap i j k m n q r:Nat}{Ql Qm:cz}{Qs:Go.Oper}{O P QD:Option aL}{QY:Option Nat}{Qo:bn}{Qd Qe:aP}{v x y:F}{W u w:ag}
set_option maxRecDepth 100000
set_option maxHeartbeats 8000000
namespace Go.Proofs.YtjidbonhhpkljaaGreat
namespace Pk
open Go.RowKit
def Gz(h:M=qB):aN (aJ Qw M)=aN (aJ Qw qB):=by rw[h]
def pw (a:Nat):Int:=((2^a:Nat):Int)
def wP(a:Nat):0<pw a:=by
 have:0<2^a:=Nat.pow_pos aa;unfold pw;omega
def Gr(a m:Nat)(h:a<=m):pw a<=pw m:=by
 have:=om (show 0<2 by omega) h;unfold pw;omega
def Y7:pw (n+1)=2*pw n:=by
 unfold pw;rw[rA];omega
def Af(a:Nat)(h:a<=16):pw a<=65536:=Gr a 16 h
def Bs(k:n<=16):
 bc 135 #[z9 n] w λc f=>c=aN (z9<|pw n)/\f=w:=by
 go_enter aE.func135,Tryz.ntmps135;go_wp2
 go_loop [3,4] (λe b=>∃a:Nat,a<=n/\b=z9 a/\e=z9 (pw a)) (λ_ b=>n-bO (bB b))
 exact⟨0,cH _,rfl,rfl⟩;obtain⟨a,i,rfl,rfl⟩:=hrel;have g:=wP a;have h:=Af a aa;by_cases j:a<n;go_wp2
 go_round
 exact⟨a+1,aa,by go_num,by rw[Y7]⟩;simp[bB];omega;have d:a=n:=aa;subst d;go_wp2;go_ret;exact⟨rfl,rfl⟩
def xN (a:Int):Int:=if a<0\/100<a then 6 else 0
def Jd(a:Int)(c:ag):
 bc 141 #[z9 a] c λd f=>d=aN (z9<|xN a)/\f=c:=by
 by_cases b:a<0
 .go_enter aE.func141,Tryz.ntmps141;go_wp2
  all_goals go_ret
  all_goals exact⟨Gz<|by simp[xN,b],rfl⟩
 .by_cases e:100<a
  all_goals
   go_enter aE.func141,Tryz.ntmps141;go_wp2
   all_goals go_ret
   all_goals exact⟨Gz<|by simp[xN,b,e],rfl⟩
end Pk
namespace Pm
def V:List Nat->Nat
 | []=>0
 |b::a=>b+256*V a
def N (a:Nat):List Nat->Nat
 | []=>0
 |x::b=>x+2^a*N a b
def IC(a:List Nat)(h:∀b∈a,b<256):V a<256^I a:=by
 induction a with
 |nil=>simp[V]
 |cons b i d=>
  have f:=h b (by simp);have g:=d (λe c=>h e<|by simp[c]);simp only[V,oh,rA];omega
def Pv(a:List Nat)(f:∀b∈l,b<256)(g:∀b∈a,b<256)(i:I l=I a)(h:V l=V a):l=a:=by
 induction l generalizing a with
 |nil=>cases a with
  |nil=>rfl
  |cons d s=>simp at i
 |cons b n m=>cases a with
  |nil=>simp at i
  |cons d s=>
   simp only[V] at h;have o:=f b aI;have p:=g d aI;have j:b=d:=aa;have k:V n=V s:=aa;rw[j,m s (λe c=>f e<|by simp[c]) (λe c=>g e<|by simp[c]) bu k]
def ID(a b:Nat)(c:a<I l):V (gh l a b)+l[a]*256^a=V l+b*256^a:=by
 induction l generalizing a with
 |nil=>simp at c
 |cons g f d=>
  cases a with
  |zero=>simp[V];omega
  |succ e=>
   have:=d e bu;simp only[b9,V,jK,rA];rw[<-Nat.mul_assoc,<-Nat.mul_assoc];omega
def Pu(a:n<I l):l[n]*256^n<=V l:=by
 have:=ID n 0 a;omega
def Px:V (dH n 0)=0:=by
 induction n with
 |zero=>rfl
 |succ b a=>simp[List.replicate_succ,V,a]
def Pw(a:Nat)(h:∀g∈l,g<256):V (l.take a)=V l%256^a:=by
 induction l generalizing a with
 |nil=>simp[V]
 |cons b c f=>
  cases a with
  |zero=>simp[V,Nat.mod_one]
  |succ d=>
   have j:=h b aI;simp only[List.take_succ_cons,V,(f d λi e=>h i<|by simp[e]),rA];rw[uV (256^d) 256,Nat.mod_mul,show(b+256*V c)%256=b by omega,show(b+256*V c)/256=V c by omega]
def IB(a:Nat)(h:∀g∈l,g<256):(l[a]?.getD 0)=V l/256^a%256:=by
 induction l generalizing a with
 |nil=>simp[V]
 |cons d c f=>
  have j:=h d aI;cases a with
  |zero=>simp[V];omega
  |succ b=>
   simp only[List.getElem?_cons_succ,(f b λi e=>h i<|by simp[e]),V,rA];rw[uV (256^b) 256,<-Nat.div_div_eq_div_mul,show(d+256*V c)/256=V c by omega]
def Ir:N n (l++[m])=N n l+2^(n*I l)*m:=by
 induction l with
 |nil=>simp[N]
 |cons c a b=>
  simp only[tV,N,b,oh];rw[Nat.mul_add,<-Nat.mul_assoc,<-oQ,gH,show n+n*I a=n*(I a+1) by grind]
def D9(a:Nat)(b:List Nat)(h:∀g∈b,g<2^a):N a b<2^(a*I b):=by
 induction b with
 |nil=>simp[N]
 |cons i c f=>
  have k:=h i aI;simp only[N,oh];rw[show a*(I c+1)=a+a*I c by grind,oQ];have d:2^a*(N a c+1)<=2^a*2^(a*I c):=Nat.mul_le_mul_left _ (f λj e=>h j<|by simp[e]);rw[Nat.mul_add] at d;omega
def D (a v:Nat):Nat->List Nat
 |0=>[]
 |n+1=>D a v n++[v/2^(a*n)%2^a]
def xj{c v a:Nat}:I (D c v a)=a:=by
 induction a with
 |zero=>rfl
 |succ d b=>simp[D,b]
def AK{d v c:Nat}:∀b∈D d v c,b<2^d:=by
 induction c with
 |zero=>simp[D]
 |succ f e=>
  intro b a;simp only[D,eP,v5] at a;rcases a with a|a;exact e b a;rw[a];exact Nat.mod_lt _<|Nat.pow_pos aa
def zg{a v b:Nat}:N a (D a v b)=v%2^(a*b):=by
 induction b with
 |zero=>simp[D,N,Nat.mod_one]
 |succ c d=>
  rw[D,Ir,d,xj,show a*(c+1)=a*c+a by rfl,oQ,Nat.mod_mul]
def FU:n%2^(m+1)=n%2^m+2^m*(n/2^m%2):=by
 rw[rA,Nat.mod_mul]
def Ac:256^n=2^(8*n):=by rw[Nat.pow_mul]
def P8{v a:Nat}:v/256^(a/8)%256/2^(a%8)%2=v/2^a%2:=by
 have b:(256:Nat)=2^(a%8)*(2^(8-a%8)):=by rw[<-oQ,show a%8+(8-a%8)=8 by omega]
 have c:v/256^(a/8)%256/2^(a%8)=v/256^(a/8)/2^(a%8)%2^(8-a%8):=by
  conv=>lhs;rw[b]
  rw[Nat.mod_mul_right_div_self,<-b]
 rw[c,Nat.div_div_eq_div_mul,Ac,<-oQ,show 8*(a/8)+a%8=a by omega,show 8-a%8=(7-a%8)+1 by omega,rA,uV,Nat.mod_mul_right_mod]
def acj(d:List Nat)(f e c a b:Nat)(n:f<2^(c*a))(k:V d=f+2^(c*a)*(e%2^b))(g:(a*c+b)/8<I d)(hx:e/2^b%2=1):
 d[(a*c+b)/8]+2^((a*c+b)%8)<256/\V (gh d ((a*c+b)/8)<|d[(a*c+b)/8]+2^((a*c+b)%8))=f+2^(c*a)*(e%2^(b+1)):=by
 have p:V d<2^(a*c+b):=by
  have i:e%2^b+1<=2^b:=Nat.mod_lt _<|Nat.pow_pos aa;have j:=Nat.mul_le_mul_left (2^(c*a)) i;rw[Nat.mul_add,<-oQ] at j;rw[k,uV a c];omega
 have o:=Pu g;have h:2^(a*c+b)=2^((a*c+b)%8)*256^((a*c+b)/8):=by
  rw[Ac,<-oQ];congr 1;omega
 have m:d[(a*c+b)/8]<2^((a*c+b)%8):=by
  have:d[(a*c+b)/8]*256^((a*c+b)/8)<2^((a*c+b)%8)*256^((a*c+b)/8):=aa;exact Nat.lt_of_mul_lt_mul_right this
 refine⟨?_,?_⟩;have:2^((a*c+b)%8+1)<=2^8:=om aa aa;rw[rA] at this;omega
 .have l:=ID _ (d[(a*c+b)/8]+2^((a*c+b)%8)) g;rw[Nat.add_mul,<-h] at l;rw[FU,hx,uW,Nat.mul_add,<-oQ,show c*a+b=a*c+b by grind];omega
def ach(b a:Nat)(hx:¬b/2^a%2=1):b%2^(a+1)=b%2^a:=by
 rw[FU,show b/2^a%2=0 by omega];omega
def Pc(c:Nat)(b:List Nat)(a:Nat)(d:a<I b):N c (b.take<|a+1)=N c (b.take a)+2^(c*a)*b[a]:=by
 rw[gm d,Ir,ng,xA aa]
def Pb(c:Nat)(b:List Nat)(a:Nat)(h:∀d∈b,d<2^c)(e:a<=I b):N c (b.take a)<2^(c*a):=by
 have:=D9 c (b.take a) λd f=>h d<|xz f;rwa [ng,xA e] at this
def aax(b:List Nat)(h:∀a∈b,a<256)(hx:m<256):∀a∈gh b n m,a<256:=bu
def PV(a:k<n)(b:i<m):(k*m+i)/8<(n*m+7)/8:=by
 have:(k+1)*m<=n*m:=Nat.mul_le_mul_right _ a;rw[Nat.succ_mul] at this;omega
end Pm
namespace Pk
open Go.RowKit Pm
def aE.Fp:((aH ax).info? 5).map (λa=>(jH a,a.size,jm a))=K (K<|aJ .u8 0,1,1):=aR
def aE.pN:((aH ax).info? 3).map (λa=>(jH a,a.size,jm a))=K (K<|z9 0,1,8):=aR
def jr (b:List Nat):List F:=b.map fun(a:Nat)=>aJ .u8 (a:Int)
def WY:dY (m7 (jn<|aJ .u8 0)<|n*1)=jr (dH n 0):=by
 have:jn (aJ .u8 0)=#[aJ .u8 0]:=rfl;rw[this,toList_madeCells_one,jr,List.map_replicate,uW];rfl
def IM(b:List Nat)(a:Nat)(h:a<I b):(jr b)[a]? =K (aJ .u8 ((b[a]:Nat):Int)):=by
 simp[jr,h]
def P2(h:aT w n 5 1 (aG m k i) k (jr l))(c:I l=k):
 ∀a,a<k->ap w ⟨m,0+a,Z⟩=K (aJ .u8<|aW (l.map (fun(k:Nat)=>(k:Int))) a 0):=by
 intro a b;rw[fq,s0 h a<|by omega,IM l a<|by omega];simp[aW,show a<I l by omega]
def P3:gh (jr l) n (aJ .u8 (m:Int))=jr (gh l n m):=by simp[jr,List.map_set]
def Rc(h:aT w n 5 1 (aG m k i) k (jr l))(c b a:Nat):
 aT ((aY w ⟨m,c,Z⟩<|aJ .u8<|(b:Int)+pw a).drew) n 5 1 (aG m k i) k (jr<|gh l c<|b+2^a):=by
 have d:=(h.stored c<|aJ .u8<|(b:Int)+pw a).1;rw[show(b:Int)+pw a=((b+2^a:Nat):Int) from by rfl,P3] at d;rw[show(b:Int)+pw a=((b+2^a:Nat):Int) from by rfl];exact d.drew
def C0(a:Nat):bc 135 #[z9<|(a:Int)%8] w λb d=>b=aN (z9<|pw<|a%8)/\d=w:=by
 have c:((a:Int)%8)=((a%8:Nat):Int):=aa;rw[c];exact Bs aa
def DV{x:Int}(a:0<=x)(b:x<256):vP.wrap x=x:=by
 simp[IntKind.wrap,IntKind.signed,IntKind.bits];omega
def Rk(h:n+2^m<256):(n:Int)+pw m<256:=by unfold pw;omega
def IR:(n:Int)/pw m%2=((n/2^m%2:Nat):Int):=by rfl
def IS(b a:Nat)(h:(b:Int)/pw a%2=1):b/2^a%2=1:=by rw[IR] at h;omega
def IT(b a:Nat)(h:¬(b:Int)/pw a%2=1):¬b/2^a%2=1:=by rw[IR] at h;omega
def below_drewN(h:dZ n w u)(a:Nat):dZ n w (cI u a):=fN h ⟨rfl,rfl,rfl,aZ _,λ_ _=>rfl⟩
def yg(h:aT w n Qd m v k S)(a:Nat):aT (cI w a) n Qd m v k S:=by
 induction a with
 |zero=>exact h
 |succ a b=>exact b.drew
def Ra(c:List Nat)(a:Nat)(D:Option aL)(k p L:Nat)(h:ag)(x:a<=16)(an:I c<=100)(v:∀g∈c,g<2^a)
 (ao:0<I c->D=K ⟨k,p,Z⟩) (P:0<I c->k<U h.heap) (a3:∀z,z<I c->ap h ⟨k,p+z,Z⟩=K (z9 ((aW c z 0:Nat):Int))):
 bc 138 #[ah D (I c) L,z9 a] h λE H=>∃d:List Nat,I d=(I c*a+7)/8/\(∀g∈d,g<256)/\V d=N a c/\
  E=aN (ay<|strOfNums<|d.map (fun(A:Nat)=>(A:Int)))/\aD h H:=by
 have⟨aQ,al,aC,aF,aK⟩:=eW aE.Fp;have bi:I c*a<=1600:=s8 an x;have bj:(0:Int)<=(I c:Int)*(a:Int):=aa;have bk:(I c:Int)*(a:Int)<=1600:=aa;go_enter aE.func138,Tryz.ntmps138;go_wp2_with (at_make;refine wpList_make_full _ Y _ _ 133 Y (U h.heap) 5 aQ (aJ .u8 0) 1 aE.underlying133 al aC aF aM aM _ _ ((I c*a+7)/8) Y Y (by first|omega|(push_cast;omega)) (by first|omega|(push_cast;omega)) (by rw[aK];omega) fW (aZ _) ?_;intro aR G ae);rw[WY] at G;have R:aD h aR:=jy (bN _ _) ae (aZ _) aI;generalize F:(I c*a+7)/8=i at*
 go_loopw [7] (λy wr=>∃(b:Nat) (d:List Nat),b<=I c/\y=z9 b/\I d=i/\(∀g∈d,g<256)/\V d=N a (c.take b)/\
  aT wr (U h.heap) 5 1 (aG (U h.heap) i i) i (jr d)/\aD h wr) (λy _=>I c-bO (bB y))
 exact⟨0,dH i 0,cH _,rfl,aI,aI,by simp[Px,N],G,R⟩;obtain⟨b,d,bb,rfl,j,m,n,o,l⟩:=hrel;by_cases s:b<I c
 .obtain rfl:=ao aa;have bK:aW c b 0=c[b]:=bu;have ab:bl h k (p+b) (z9 ((c[b]:Nat):Int)):=bu;have T:k<U h.heap:=P aa;have bL:(c[b]:Nat)<65536:=by have aU:=v _<|dm s;have a0:2^a<=2^16:=om aa x;omega
  have M:N a (c.take b)<2^(a*b):=Pb a c b v aa;have bd:b*a<=100*16:=s8 aa x;have be:(0:Int)<=(b:Int)*(a:Int):=aa;have bh:(b:Int)*(a:Int)<=1600:=aa;have O:=aA<|Pc a c b s;have az:=aA<|s7<|v _<|dm s;generalize c[b]=g at*;generalize N a (c.take b)=C at*;go_wp2_with fail
  go_loopw [8] (λB wr=>∃(f:Nat) (d:List Nat),f<=a/\B=z9 f/\I d=i/\(∀g∈d,g<256)/\V d=C+2^(a*b)*(g%2^f)/\
   aT wr (U h.heap) 5 1 (aG (U h.heap) i i) i (jr d)/\aD h wr) (λB _=>a-bO (bB B))
  exact⟨0,d,cH _,rfl,j,m,bu,o,l⟩;obtain⟨f,d,bz,rfl,j,m,n,o,l⟩:=hrel;have a5:bl wr k (p+b) (n9 g):=aB (bA l (p:=⟨k,p+b,Z⟩) T) ab;have bm:=wP f;have bo:=Af f aa;have br:(0:Int)<=(g:Int)/pw f:=Int.ediv_nonneg aa aa;have bs:(g:Int)/pw f<=65536:=by have:=Int.ediv_le_self (a:=(g:Int)) (pw f) aa;omega
  by_cases ar:f<a
  .by_cases r:(g:Int)/pw f%2=1
   .have Q:=beq_iff_eq.2 r
    skip
    go_wp2_with fail;go_quiet ((go_at_call 135;exact vO<|Bs<|by omega));go_wp2_with fail;rw[show(b:Int)*(a:Int)+(f:Int)=((b*a+f:Nat):Int) from by rfl];have u:(b*a+f)/8<I d:=by rw[j,<-F];exact PV s ar
    have t:=aA<|acj d C g a b f M n u<|IS g f r;have a1:b*a+f<=1616:=aa;generalize a2:b*a+f=e at*;have w:=yg o nq;have S:=below_drewN l nq;generalize cI wr nq=J at*;have W:=s0 w (e/8) aa;rw[IM d _ u] at W;have a7:=vV w<|e/8;have bM:d[e/8]<256:=m _<|dm u;have a9:(e:Int)/8<(i:Int):=aa;have ba:e/8<i:=aa;generalize bP:d[e/8]=q at*
    skip
    have ad:X (bO ((e:Int)/8)=e/8):=show _=_ by omega
    have a4:ap J ⟨U h.heap,bO<|(e:Int)/8,Z⟩=K (aJ .u8 (q:Int)):=bu;have a8:cE J ⟨U h.heap,bO<|(e:Int)/8,Z⟩=aj:=bu;have bC:aM.wrap ((e:Int)/8)=((e/8:Nat):Int):=by simp[kF];omega
    have bD:aM.wrap ((e:Int)%8)=((e%8:Nat):Int):=by simp[kF];omega
    have bv:=wP<|e%8;have bx:pw (e%8)<=128:=Gr (e%8) 7 aa;have bF:vP.wrap (pw<|e%8)=pw (e%8):=DV aa aa;have bH:vP.wrap ((q:Int)+pw (e%8))=(q:Int)+pw (e%8):=DV aa<|Rk t.o.1
    go_region_with (go_at_call 135;refine bG (C0 e) ?_;rintro E H ⟨rfl,rfl⟩)
    all_goals
     go_wp2
     go_roundw
     case rel=>
      try rw[ad.o]
      exact⟨f+1,gh d (e/8)<|q+2^(e%8),aa,by go_num,by rw[List.length_set];exact j,aax d m t.o.1,t.o.2,Rc w (e/8) q<|e%8,(vU S (aZ _) _).drew⟩
     case measure=>simp[bB];omega
   .have Q:=beq_eq_false_iff_ne.2 r;go_wp2_with fail;go_quiet ((go_at_call 135;exact vO<|Bs<|by omega));go_wp2
    go_roundw
    case rel=>exact⟨f+1,d,aa,by go_num,j,m,by rw[n,ach g f<|IT g f r],yg o nq,below_drewN l nq⟩
    case measure=>simp[bB];omega
  .have aw:f=a:=by omega
   subst aw;go_wp2
   go_roundw
   case rel=>exact⟨b+1,d,aa,by go_num,j,m,by rw[n,O.o,az.o],o,l⟩
   case measure=>simp[bB];omega
 have am:b=I c:=aa;subst am;rw[jq] at n;have a6:=run_convert_bytes_arg (P:=(aH ax)) wr 133 5 aE.underlying133 aE.underlying5 (U h.heap) 0 i i (d.map (fun(A:Nat)=>(A:Int))) (by simp[j]) (P2 o j) 9 aE.underlying9;go_wp2;go_ret;exact⟨d,by rw[j,F],m,n,rfl,l⟩
def OE(a:Int)(b:0<=a)(c:a<2^62):aM.wrap a=a:=by rw[kF];omega
def YB(c b a:Nat)(g:a<=16)(hx:b<65536)(f:c<2^a):bits .or aM (c:Int) (cY<|(b:Int)*2^a)=((c+2^a*b:Nat):Int):=by
 have e:2^a<=2^16:=om aa g;have h:2^a*b<=2^16*65536:=s8 e aa;have d:cY ((b:Int)*2^a)=((2^a*b:Nat):Int):=by
  rw[show(b:Int)*2^a=((2^a*b:Nat):Int) from bu];generalize 2^a*b=i at*;unfold cY;omega
 rw[d,(bits_nat aM 62 az OE c (2^a*b) (by omega)<|by omega).2,Nat.or_comm,<-Nat.two_pow_add_eq_or_of_lt f b,Nat.add_comm]
def j5(h:aT w n Qd k v i S)(g:m<=n):aT w m Qd k v i S:=by
 refine⟨h.1,?_⟩;rcases h.2 with a|⟨d,b,c,a,e,f⟩;exact av a;exact ai ⟨d,b,c,a,dW g e,f⟩
def fc(h:aT w n Qd m v k S)(i:aD w u):aT u n Qd m v k S:=by
 refine⟨h.1,?_⟩;rcases h.2 with a|⟨b,d,e,a,f,c,g⟩;exact av a;exact ai ⟨b,d,e,a,f,bV (cT i b<|bE c) c,g⟩
def jR{rest:List Oper}{L:Exit->Act->ag->Prop}
 (E:Qs.guard=Z) (s o:Operand) (i:aP) (H:Qs.op=Op.call {callee:=Callee.builtin Builtin.append,args:= #[s,o],argTypes:= #[i,i]})
 (base:Nat) (c:aP) (g:oI) (r:F) (b bytes:Nat) (y:g9 Qo i=K (.slice c)) (A:Qo.info? c=K g) (P:jH g=K r) (B:g.size=b) (R:jm g=bytes) (S:r.cells.size=b) (T:0<b)
 (v:F) (d:Nat) (j:List F) (J:bp Q s=v) (n:aT w base c b v d j)
 (k:aL) (m p:Nat) (e:List F) (hx:bp Q o= .slice (K k) m p) (ar:0<m) (G:I e=m*b) (D:∀V q,e[V]? =K q->ap w (k.add V)=K q) (z:∀q∈e,m3 q=af)
 (M:d+m<=aV) (N:(d+m)*bytes<=140737488355328) (O:base<=U w.heap)
 (C:∀f a,aT a base c b f (d+m) (j++e)->((kg w a Z/\aT a (U w.heap) c b f (d+m) (j++e))\/(bI f=bI v/\kg w a (bI v)))->wpList Qo Qu L rest (bw Q Qs.dst f) a):
 wpList Qo Qu L (Qs::rest) Q w:=by
 rcases n.2 with⟨rfl,rfl⟩|⟨u,t,ae,rfl,al,ao,aw,am,an,az⟩;have ad:j=[]:=s4<|cN n.1;subst ad;exact wpList_append_grows w E s o i H c g r b bytes y A P B R S T Z 0 0 [] J (λ_=>⟨rfl,rfl⟩) aI (λW x=>de x) k m p e hx G D z aa M N
  λf a h l=>C f a (j5 h O)<|av ⟨l,h⟩
 by_cases ab:d+m<=t;exact rT w E s o i H base c g b y A B u d t j J n k m p e hx G D z ab λa h l=>C _ a h<|ai ⟨rfl,l⟩;exact wpList_append_grows w E s o i H c g r b bytes y A P B R S T (K ⟨u,0,Z⟩) d t j J (λx=>de x) n.1 (λW X=>by cases X;exact n.cells (g:=u) Y) k m p e hx G D z aa M N
  λf a h l=>C f a (j5 h O)<|av ⟨l,h⟩
def lO(h:n<I qZ):aW qZ n 0=qZ[n]:=bu
def cO (a:List Int):List F:=a.map<|aJ aM
def MW(b c:List Int)(v w:Option aL)(h l M i m N:Nat)(f:ag)(T:I b<=aV)(U:I c<=aV)
 (A:0<I b->v=K ⟨h,l,Z⟩) (x:∀d,d<I b->ap f ⟨h,l+d,Z⟩=K (z9<|aW b d 0))
 (B:0<I c->w=K ⟨i,m,Z⟩) (y:∀d,d<I c->ap f ⟨i,m+d,Z⟩=K (z9<|aW c d 0)):
 bc 17 #[ah v (I b) M,ah w (I c) N] f λo W=>o=aN (ak<|decide (b=c))/\∃e,W=cI f e:=by
 unfold aV at T U;by_cases z:I b=I c
 .have S:((I b:Int) !=(I c:Int))=aj:=by simp[z]
  have u:=aA z;go_enter aE.func17,Tryz.ntmps17;go_wp2_with fail
  go_loopw [5] (λr wr=>∃a:Nat,a<=I b/\r=z9 a/\b.take a=c.take a/\∃e,wr=cI f e) (λr _=>I b-bO (bB r))
  exact⟨0,cH _,rfl,rfl,0,rfl⟩;obtain⟨a,Y,rfl,C,e,D⟩:=hrel;have g:=aA D;have n:=aA C;clear D C;by_cases j:a<I b;have q:a<I c:=by rw[<-u.o];exact j
  obtain rfl:=A aa;obtain rfl:=B aa;have P:=x a j;rw[lO j,show ap f ⟨h,l+a,Z⟩=ap wr ⟨h,l+a,Z⟩ from gG g.o] at P;have Q:=y a q;rw[lO q,show ap f ⟨i,m+a,Z⟩=ap wr ⟨i,m+a,Z⟩ from gG g.o] at Q;have F:X (b[a]≠c[a]->b≠c):=λp o=>p (by subst o;rfl);have H:X (b[a]=c[a]->b.take (a+1)=c.take (a+1)):=λp=>by rw[gm j,gm q,n.o,p]
  clear x y A B n;generalize b[a]=s at*;generalize c[a]=t at*;by_cases k:s=t;have O:(s !=t)=aj:=by simp[k]
  have J:=H.o k;have L:=aA J;go_wp2_with fail;go_quiet (fail);go_wp2
  go_roundw
  exact⟨a+1,aa,by go_num,L.o,e+nq,bV g.o<|rS _ _ _⟩;simp[bB];omega;have O:(s !=t)=af:=by simp[k]
  have G:=aA<|F.o k;go_wp2_with fail;go_quiet (fail);go_wp2;go_ret;refine⟨?_,e+nq,bV g.o<|rS _ _ _⟩;rw[decide_eq_false G.o];rfl;have R:b=c:=by
   have:=n.o;rwa [iF aa,iF<|by rw[<-u.o];omega] at this
  have E:=aA R;go_wp2;go_ret;exact⟨gG<|decide_eq_true E.o,e,g.o⟩
 .have S:((I b:Int) !=(I c:Int))=af:=by simp;omega
  have V:decide (b=c)=aj:=bu;rw[V];go_enter aE.func17,Tryz.ntmps17;go_wp2;go_ret;exact⟨rfl,0,rfl⟩
def YI(h:w.heap[m]? =K (aq (cR S) Qd (0,0)))(b:I S=k)(a:n<=m)(c:k<=aV):
 aT w n Qd 1 (aG m k k) k S:=
 ⟨aa,ai ⟨m,k,cR S,rfl,a,h,aZ _,c,by simp[b],bu⟩⟩
def IU(h:aT w n Qd 1 (aG m k k) k S):w.heap[m]? =K (aq (cR S) Qd (0,0)):=by
 rcases h.2 with⟨a,_⟩|⟨g,f,b,a,_,c,_,_,d,e⟩;simp at a;simp only[j9,iG,nM,and_true,true_and] at a;obtain⟨rfl,rfl⟩:=a;rw[c];have:dY b=S:=by rw[<-e];exact bq (iF<|by simp[d])
 rw[<-this]
def aaw(a:n<8):
 gh (cO<|qZ++(dH n (-77)++dH (8-n) 0)) (I qZ+n) (z9<|-77)=cO (qZ++(dH (n+1) (-77)++dH (8-(n+1)) 0)):=by
 unfold cO;rw[<-List.map_set];congr 1;rw[List.set_append_right _ _ aa,show I qZ+n-I qZ=n by omega,List.set_append_right _ _ aI];simp only[List.length_replicate,Nat.sub_self];rw[show 8-n=(8-(n+1))+1 by omega,List.replicate_succ,cj,List.replicate_succ' (n:=n)];simp
def WZ:dY (m7 (jn<|z9 0)<|n*1)=cO (dH n 0):=by
 have:jn (z9 0)=#[z9 0]:=rfl;rw[this,toList_madeCells_one,cO,List.map_replicate,uW]
def aaG:splice (cO<|dH (I qZ+8) 0) 0 (cO qZ)=cO (qZ++(dH 0 (-77)++dH (8-0) 0)):=by
 unfold splice cO;simp[List.map_replicate]
def Fj(h:n<I qZ):(cO qZ)[n]? =K (z9 qZ[n]):=by simp[cO,h]
def zR(a:List Int):I (cO a)=I a:=by simp[cO]
def WI{g:Nat}(j:0<I qZ->O=K ⟨n,m,Z⟩)(f:0<I qZ->n<U w.heap)
 (i:∀a,a<I qZ->bl w n (m+a) (z9<|aW qZ a 0)) (h:aD w u):
 0<I (cO qZ)->K (⟨g,0,Z⟩:aL)=K ⟨g,0,Z⟩/\∃e,O=K e/\∀a v,(cO qZ)[a]? =K v->ap u (e.add a)=K v:=by
 intro b;rw[zR] at b;refine⟨rfl,⟨n,m,Z⟩,j b,?_⟩;intro a v c;have d:a<I qZ:=by have:=(fF.1 c).1;rwa [zR] at this
 rw[Fj d] at c;rw[kQ,bA h (p:=⟨n,m+a,Z⟩)<|f b,i a d,lO d];exact c
def WH(q:0<I qZ->O=K ⟨n,m,Z⟩)(j:0<I qZ->n<U w.heap)
 (l:∀c,c<I qZ->bl w n (m+c) (z9<|aW qZ c 0)) (b:aD w u) (o:U w.heap<=k)
 (a:u.heap[k]? =K (aq (cR<|cO<|dH (I qZ+8) 0) 3 (0,0))):
 ∃d,(sV #[22,22] 3 #[aG k (I qZ+8)<|I qZ+8,ah O (I qZ) cap]).run (aH ax) u=cm (n9<|I qZ) d/\
  X (d.heap[k]? =K (aq (cR<|cO<|qZ++(dH 0 (-77)++dH (8-0) 0)) 3 (0,0)))/\aD w d:=by
 have⟨x,p,t,s,v⟩:=eW aE.pN;have f:((aH ax).info? 3).map (·.size)=K 1:=by rw[p];simp[s]
 by_cases h:0<I qZ
 .obtain⟨_,g,rfl,r⟩:=WI (g:=k) q j l b (by rw[zR];exact h);have e:=run_copy_row (P:=(aH ax)) u 22 22 3 3 k 0 (I qZ+8) (I qZ+8) g (I qZ) cap _ 3 (cO qZ) aE.underlying22 f a (by rw[zR];exact bq<|xA aa) r (by simp[cO])<|ints_oneCell aM qZ;rw[zR] at e;refine⟨_,e,?_,below_setRow b o _⟩;show _=_;rw[<-aaG];simpa [splice,zR] using setRow_heap u k _ _ 3 _ a
 have i:qZ=[]:=s4 aa;subst i;exact⟨u,run_copy_none (P:=(aH ax)) u 22 22 3 3 _ O _ _ _ cap aE.underlying22 f aI,by show _=_;simpa using a,b⟩
def KY(a:List Int)(k:Option aL)(f p l:Nat)(b:ag)(T:I a*8<=140737488351232)
 (F:0<I a->k=K ⟨f,p,Z⟩) (y:0<I a->f<U b.heap) (B:∀j,j<I a->ap b ⟨f,p+j,Z⟩=K (z9<|aW a j 0)):
 bc 11 #[ah k (I a) l] b λw r=>∃m,w=aN (aG m (I a+8)<|I a+8)/\
  aT r (U b.heap) 3 1 (aG m (I a+8)<|I a+8) (I a+8) (cO<|a++dH 8 (-77))/\aD b r:=by
 have⟨N,D,J,L,M⟩:=eW aE.pN;go_enter aE.func11,Tryz.ntmps11;go_wp2_with (first
  |(at_make;refine wpList_make_full _ Y _ _ 22 Y (U b.heap) 3 N (z9 0) 1 aE.underlying22 D J L aM aM _ _ (I a+8) Y Y (by first|omega|(push_cast;omega)) (by first|omega|(push_cast;omega)) (jC M) fW (aZ _) ?_;intro O o C;have z:aD b O:=jy (bN _ _) C (aZ _) aI;rw[WZ] at o;have s:=aA<|IU o))
 have⟨P,G,t,A⟩:=WH (cap:=l) F y B z (aZ _) s.o;rw[G];go_wp2_with fail;have E:aT P (U b.heap) 3 1 (aG (U b.heap) (I a+8)<|I a+8) (I a+8) (cO<|a++(dH 0 (-77)++dH (8-0) 0)):=
  YI t.o (by simp[cO]) (aZ _) fW
 go_loopw [4] (λi wr=>∃(c d:Nat),c<=8/\d=I a+c/\i=n9 d/\
  aT wr (U b.heap) 3 1 (aG (U b.heap) (I a+8)<|I a+8) (I a+8) (cO<|a++(dH c (-77)++dH (8-c) 0))/\aD b wr) (λi _=>I a+8-bO (bB i))
 exact⟨0,_,aa,rfl,rfl,E,A⟩;obtain⟨c,d,V,g,rfl,e,n⟩:=hrel;have u:=aA g;by_cases x:c<8;have S:d<I a+8:=aa;obtain⟨q,Q⟩:∃q,ap wr ⟨U b.heap,d,Z⟩=K q:=by
  rw[s0 e d aa];exact⟨_,Fj<|by simp;omega⟩
 have R:=vV e d;have h:=(e.stored (I a+c)<|z9<|-77).1;rw[aaw x,<-g] at h;have v:=aA h;clear h e g;go_wp2
 go_roundw
 exact⟨c+1,d+1,aa,cA u.o,by go_num,v.o,vU n (aZ _) _⟩;simp[bB];omega;have H:c=8:=aa;subst H;go_wp2;go_ret;exact⟨_,rfl,bu,n⟩
end Pk
namespace Pm
def Eg(a:List Nat):V a=N 8 a:=by
 induction a with
 |nil=>rfl
 |cons d c b=>simp only[V,N,b]
def iM (b:Nat)(a:List Nat):List Nat:=D 8 (N b a)<|(I a*b+7)/8
def LN:∀a∈iM n l,a<256:=λa b=>AK a b
def wN:I (iM n l)=(I l*n+7)/8:=xj
def LO(c:Nat)(b a:List Nat)(d:I a=(I b*c+7)/8)(e:∀g∈a,g<256)(f:V a=N c b):a=iM c b:=by
 refine Pv _ e LN (by rw[wN,d]) ?_;rw[Eg<|iM c b,iM,zg,<-f,<-d,<-Ac,s7<|IC a e]
end Pm
namespace Pk
open Go.RowKit Pm
def strOf(b:List Nat):ByteArray:=strOfNums<|b.map (fun(a:Nat)=>(a:Int))
def jf:bg (strOf l)=I l:=by
 unfold strOf strOfNums;simp[bg]
def xV (b:Nat)(c:List Int):Bool:=List.all c λa=>decide (0<=a)&&decide (a<pw b)
def JX(h:xV n qZ=af):∀a∈qZ,0<=a/\a<pw n:=by
 intro a b;have:=fA.1 h a b;simpa using this
def Uh(h:∀a,(b:a<I qZ)->0<=qZ[a]/\qZ[a]<pw n):xV n qZ=af:=by
 unfold xV;rw[fA];intro d c;obtain⟨a,b,rfl⟩:=m9 c;have:=h a b;simp[this.1,this.2]
def toNat_lt(h:xV n qZ=af):∀a∈qZ.map bO,a<2^n:=by
 intro a b;obtain⟨d,c,rfl⟩:=jW.1 b;have:=JX h d c;unfold pw at this;omega
def acP(h:xV n qZ=af)(c:∀a,a<I qZ->ap w ⟨m,k+a,Z⟩=K (z9<|aW qZ a 0)):
 ∀a,a<I (qZ.map bO)->ap w ⟨m,k+a,Z⟩=K (z9 ((aW (qZ.map bO) a 0:Nat):Int)):=by
 intro a d;have b:a<I qZ:=bu;rw[c a b];have:=JX h _<|dm b;simp[aW,b,Int.toNat_of_nonneg this.1]
def Rb(b:Nat)(l:n<=16)(r:¬ 100<I qZ)(e:xV n qZ=af)
 (s:0<I qZ->O=K ⟨m,k,Z⟩) (q:0<I qZ->m<U w.heap) (j:∀a,a<I qZ->bl w m (k+a) (z9<|aW qZ a 0)):
 bc 138 #[ah O (I qZ) b,z9 n] w λc f=>c=aN (ay<|strOf<|iM n<|qZ.map bO)/\aD w f:=by
 have d:=Ra (qZ.map bO) n O m k b w l bS (toNat_lt e) bu bu<|acP e j;rw[er] at d;refine bG d ?_;rintro c f ⟨o,p,g,h,rfl,i⟩;have:=LO n (qZ.map bO) o bu g h;subst this;exact⟨rfl,i⟩
def adQ(a:Nat)(h:a<=16):cY ((2:Int)^a)=pw a:=by
 have c:=wP a;have d:=Af a h;have b:(2:Int)^a=pw a:=by rfl
 rw[b];unfold cY;omega
end Pk
namespace Ec
open Pk Pm
def jP:Nat->Nat->List Nat
 |0,a=>[]
 |f+1,a=>if a<128 then[a] else(a%128+128)::jP f (a/128)
def bh (a:Nat):List Nat:=jP 10 a
def xd{f a:Nat}(h:a<128):jP (f+1) a=[a]:=by simp[jP,h]
def vG{f a:Nat}(h:¬a<128):jP (f+1) a=(a%128+128)::jP f (a/128):=by simp[jP,h]
def ads{f:Nat}(b:Nat):∀c∈jP f b,c<256:=by
 induction f generalizing b with
 |zero=>simp[jP]
 |succ f g=>
  intro c a;by_cases d:b<128;rw[xd d] at a;simp at a;omega;rw[vG d] at a;rcases gy.1 a with e|e;omega;exact g _ c e
def sM(f a:Nat):I (jP f a)<=f:=by
 induction f generalizing a with
 |zero=>simp[jP]
 |succ f c=>
  by_cases b:a<128;rw[xd b];simp;rw[vG b];have:=c<|a/128;simp;omega
def YX{f:Nat}(h:n<128^(f+1)):n/128<128^f:=by
 rw[rA] at h;exact Nat.div_lt_of_lt_mul aa
def WU(h:n<18446744073709551616):n<128^10:=by
 have:(128:Nat)^10=1180591620717411303424:=az;omega
def n4(a:List Nat):strOf (a++l)=strOf a++strOf l:=by
 unfold strOf strOfNums;apply AI;simp
def zz (a:Int):Nat:=if a<0 then bO (-2*a-1) else bO<|2*a
def vJ(a: -9223372036854775808<=M)(b:M<=9223372036854775807):zz M<18446744073709551616:=by
 unfold zz;split<;>omega
end Ec
namespace Pm
def Ps(b:List Nat)(h:∀d∈b,d<256)(a:Nat)(c:a/8<I b):b[a/8]/2^(a%8)%2=V b/2^a%2:=by
 have:=IB (a/8) h;rw[dV c,tZ] at this;rw[this,P8]
def Pt(a:List Nat)(h:∀c∈a,c<256)(b:Nat)(d:¬b/8<I a):V a/2^b%2=0:=by
 rw[Nat.div_eq_of_lt];refine cL (IC a h) ?_;rw[Ac];exact om aa aa
def Xu(v c a b:Nat):v/2^(c*a)%2^(b+1)=v/2^(c*a)%2^b+2^b*(v/2^(a*c+b)%2):=by
 rw[FU,Nat.div_div_eq_div_mul,<-oQ,uV c a]
end Pm
namespace Pk
open Go.RowKit Pm
def bytesOf(s:ByteArray):List Nat:=s.data.toList.map UInt8.toNat
def xJ(s:ByteArray):∀a∈bytesOf s,a<256:=by
 intro a b;obtain⟨c,_,rfl⟩:=jW.1 b;exact c.toNat_lt
def cM(s:ByteArray):I (bytesOf s)=bg s:=by simp[bytesOf]
def B9(s:ByteArray)(h:n<bg s):(bytesOf s)[n]'(by rw[cM];exact h)=s[n].toNat:=by
 simp only[bytesOf,oO];rfl
def lm (a:List Nat):List Int:=a.map (fun(b:Nat)=>(b:Int))
def tq:cO qZ++[z9 M]=cO (qZ++[M]):=by simp[cO]
def Xv(s:ByteArray)(c g:Nat)(f:ag)(K:s.size<=aV)(M:c<=16)(am:g<=100):
 bc 111 #[ay s,aJ aM c,aJ aM g] f λt r=>∃v,t=aN v/\
  aT r (U f.heap) 3 1 v g (cO<|lm<|D c (V<|bytesOf s) g)/\aD f r:=by
 have⟨Q,G,N,O,P⟩:=eW aE.pN;unfold aV at K;have w:=xJ s;have x:=cM s
 skip
 go_enter aE.func111,Tryz.ntmps111;go_wp2_with fail
 go_loopw [7,8] (λR o wr=>∃b:Nat,b<=g/\o=aJ aM b/\aT wr (U f.heap) 3 1 R b (cO<|lm<|D c (V<|bytesOf s) b)/\aD f wr) (λ_ o _=>g-(bB o).toNat)
 exact⟨0,cH _,rfl,iS _ _ _ _,bN _ _⟩;obtain⟨b,ao,rfl,h,e⟩:=hrel;by_cases aw:b<g
 .have ar:b*c<=100*16:=s8 aa M;go_wp2_with fail
  go_loopw [9,10] (λS q wr=>∃d:Nat,d<=c/\q=aJ aM d/\S=aJ aM ((V (bytesOf s)/2^(c*b)%2^d:Nat):Int)/\aT wr (U f.heap) 3 1 u7 b (cO<|lm<|D c (V<|bytesOf s) b)/\aD f wr) (λ_ q _=>c-(bB q).toNat)
  exact⟨0,cH _,rfl,aI,h,e⟩;obtain⟨d,aU,rfl,rfl,h,e⟩:=hrel;have l:=aA<|Xu (V<|bytesOf s) c b d;have A:X (d=c->D c (V<|bytesOf s) (b+1)=D c (V<|bytesOf s) b++[V (bytesOf s)/2^(c*b)%2^d]):=by intro B;subst B;rfl
  have aC:V (bytesOf s)/2^(c*b)%2^d<65536:=by
   have ad:2^d<=2^16:=om aa aa;omega
  generalize V (bytesOf s)/2^(c*b)%2^d=T at*;by_cases a0:d<c
  .have ae:b*c+d<=1616:=by omega
   have aF:=wP d;have aG:=Af d (by omega);go_wp2_with fail;rw[show(b:Int)*(c:Int)+(d:Int)=((b*c+d:Nat):Int) from by rfl];generalize al:b*c+d=a at*;have aQ:=wP<|a%8;have aR:pw (a%8)<=128:=Gr (a%8) 7 aa;have a1:aM.wrap ((a:Int)/8)=(a:Int)/8:=by simp[kF];omega
   have a2:aM.wrap ((a:Int)%8)=(a:Int)%8:=by simp[kF];omega
   by_cases n:a/8<s.size
   .have an:(0:Int)<=(a:Int)/8:=by omega
    have H:(a:Int)/8<(s.size:Int):=aa;have I:decide ((a:Int)/8<(s.size:Int))=af:=bu;have u:=Ps (bytesOf s) w a<|bV x n;rw[B9 s n] at u;have j:=aA u;have a3:s[a/8].toNat<256:=s[a/8].toNat_lt;have aH:(0:Int)<=(s[a/8].toNat:Int)/pw (a%8):=Int.ediv_nonneg aa aa;have aK:(s[a/8].toNat:Int)/pw (a%8)<=255:=cA<|Int.ediv_le_self (a:=(s[a/8].toNat:Int)) (pw<|a%8) aa;by_cases k:(s[a/8].toNat:Int)/pw (a%8)%2=1
    .have C:=beq_iff_eq.2 k;have m:X (V (bytesOf s)/2^a%2=1):=by show _=_;rw[<-j.o];exact IS _ _ k
     go_quiet ((go_at_call 135;exact vO<|C0 a));go_wp2_with (go_at_call 135;refine bG (Bs<|by omega) ?_;rintro t r ⟨rfl,rfl⟩)
     go_roundw
     case rel=>exact⟨d+1,aa,by go_num,by rw[l.o,m.o];congr 1;unfold pw;omega,yg h nq,below_drewN e nq⟩
     case measure=>simp[bB];omega
    .have C:=beq_eq_false_iff_ne.2 k;have m:X (V (bytesOf s)/2^a%2=0):=by show _=_;rw[<-j.o];have:=IT _ _ k;omega
     go_quiet ((go_at_call 135;exact vO<|C0 a));go_wp2
     go_roundw
     case rel=>exact⟨d+1,aa,by go_num,by rw[l.o,m.o];simp,yg h nq,below_drewN e nq⟩
     case measure=>simp[bB];omega
   .have H:¬(a:Int)/8<(s.size:Int):=by omega
    have I:decide ((a:Int)/8<(s.size:Int))=aj:=bu;have j:X _:=Pt (bytesOf s) w a<|bV x n;go_quiet ((go_at_call 135;exact vO<|C0 a));go_wp2
    go_roundw
    case rel=>exact⟨d+1,aa,by go_num,by rw[l.o,j.o];simp,yg h nq,below_drewN e nq⟩
    case measure=>simp[bB];omega
  .have L:d=c:=by omega
   go_wp2_with (at_builtin;refine wpList_append_own _ Y _ _ 22 Y (U f.heap) 3 Q (aJ aM 0) 1 8 aE.underlying22 G N O P Y az _ _ _ Y (h.alloc _) ⟨U wr.heap,0,Z⟩ 1 1 [aJ aM (T:Int)] Y Y ?c1 ?c2 ?c3 ?c4 ?c5 ?_)
   case c1=>
    intro p W i
    match p,i with
    |0,i=>simp at i;subst i;simp[rQ]
   case c2=>intro W z;simp at z;subst z;rfl
   case c3=>unfold aV;omega
   case c4=>omega
   case c5=>have:=e.size;simp;omega
   .intro a4 ab y F _;have E:aD f ab:=jy (e.alloc e.size _) F (by have:=e.size;simp;omega) λp i=>(h.lt p i).1;rw[tq] at y;go_wp2
    go_roundw
    case rel=>exact⟨b+1,aa,by go_num,by rw[A.o L];simpa [lm] using y,E⟩
    case measure=>simp[bB];omega
 have J:b=g:=by omega
 subst J;go_wp2;go_ret;exact⟨_,rfl,h,e⟩
def IZ(h:∀a∈l,a<256):bytesOf (strOf l)=l:=by
 unfold bytesOf strOf strOfNums;simp only[List.map_map];have:∀a∈l,(UInt8.toNat ∘ (fun(b:Int)=>UInt8.ofNat<|bO b) ∘ fun(b:Nat)=>(b:Int)) a=a:=nE;rw[vZ this];simp
def xI{s a:ByteArray}(h:bytesOf s=bytesOf a):s=a:=by
 have b:dY s.data=dY a.data:=by
  unfold bytesOf at h;exact List.map_inj_right (λd e c=>UInt8.toNat_inj.1 c) |>.1 h
 cases s;cases a;simp at b;simp[b]
def toList_inj{s b:ByteArray}(h:s.toList=b.toList):s=b:=by
 have c:∀a:ByteArray,a.toList=a.data.toList:=λa=>uM a;rw[c,c] at h;cases s;cases b;simp at h;simp[h]
def JL{s:ByteArray}(h:n<bg s):fw s n (n+1)=⟨#[s[n]]⟩:=by
 apply xI;unfold bytesOf;congr 1;rw[ByteArray.data_extract];simp only[Array.toList_extract];have a:n<I (dY s.data):=h;rw[show List.extract (dY s.data) n (n+1)=(s.data.toList.drop n).take 1 from aI,ru a];rfl
def bQ (s:ByteArray)(a:Nat):cz:=aq #[ay s,n9 a] 182 (0,0)
def g4 (a:Nat):List py:=[{v:=.iface 205<|bZ #[n9 a],recovered:=aj}]
def yp{s:ByteArray}(h:w.heap[n]? =K (bQ s m)):
 ap w ⟨n,0,Z⟩=K (ay s)/\ap w ⟨n,1,Z⟩=K (n9 m)/\cE w ⟨n,0,Z⟩=aj/\cE w ⟨n,1,Z⟩=aj:=by
 unfold bQ at h;refine⟨?_,?_,?_,?_⟩;simp[ap,h];simp[ap,h];simp[cE,h];simp[cE,h]
def JD:cI (aY (cI w m) R v) n=cI (aY w R v) (m+n):=by
 rw[show aY (cI w m) R v=cI (aY w R v) m from by rfl,rS]
def lP(c b:Nat)(s:ByteArray)(a:ag)(h:a.heap[c]? =K (bQ s b)):
 bc 97 #[(aK c)] a λd e=>d=gO (g4 b)/\e=a:=by
 have⟨f,g,i,j⟩:=yp h;go_enter aE.func97,Tryz.ntmps97;go_wp2;exact⟨rfl,rfl,rfl⟩
def acA{s:ByteArray}(c:bg s<=aV)(k:¬m<bg s)(l:m<=bg s)(h:w.heap[n]? =K (bQ s m)):
 bc 128 #[(aK n),z9 1] w λa b=>a=gO (g4 m)/\∃d,b=cI w d:=by
 have⟨e,f,g,i⟩:=yp h;unfold aV at c
 skip
 have j:decide ((bg s:Int)-(m:Int)<1)=af:=bS;go_enter aE.func128,Tryz.ntmps128;go_wp2_with fail;go_quiet (fail);go_wp2_with (go_at_call 97;refine bG (lP n m s _<|by exact h) ?_;rintro a b ⟨rfl,rfl⟩);exact⟨rfl,rfl,nq,rfl⟩
def acD{s:ByteArray}(b:bg s<=aV)(c:k<bg s)(h:w.heap[n]? =K (bQ s k)):
 bc 128 #[(aK n),z9 1] w λa e=>a=aN (ay ⟨#[s[k]]⟩)/\∃d,e=cI (aY w ⟨n,1,Z⟩<|z9 ((k+1:Nat):Int)) d:=by
 have⟨f,g,i,j⟩:=yp h;unfold aV at b;have l:decide ((bg s:Int)-(k:Int)<1)=aj:=bS;have o:(0:Int)<=(k:Int)+1:=aa;have p:(k:Int)+1<=(bg s:Int):=aa;have q:(k:Int)<=(k:Int)+1:=aa;have r:bO ((k:Int)+1)=k+1:=aa;have t:=JL c;go_enter aE.func128,Tryz.ntmps128;go_wp2_with fail;go_quiet (fail);generalize nq=m at*;go_wp2_with fail;go_quiet (fail);go_wp2;go_ret;exact⟨rfl,m+nq,JD⟩
def B7(d a:Nat)(s:ByteArray)(f:bg s<=aV)(g:¬a<bg s)(i:a<=bg s)(h:w.heap[d]? =K (bQ s a)):
 bc 129 #[(aK d)] w λc e=>c=gO (g4 a)/\∃b,e=cI w b:=by
 skip
 go_enter aE.func129,Tryz.ntmps129;go_wp2_with (go_at_call 128;refine bG (acA f g i h) ?_;rintro c e ⟨rfl,b,rfl⟩);exact⟨rfl,rfl,b,rfl⟩
def B8(c a:Nat)(s:ByteArray)(d:ag)(g:bg s<=aV)(i:a<bg s)(h:d.heap[c]? =K (bQ s a)):
 bc 129 #[(aK c)] d λe f=>e=aN (aJ .u8 (s[a].toNat:Int))/\∃b,f=cI (aY d ⟨c,1,Z⟩<|z9 ((a+1:Nat):Int)) b:=by
 skip
 go_enter aE.func129,Tryz.ntmps129;go_wp2_with (go_at_call 128;refine bG (acD g i h) ?_;rintro e f ⟨rfl,b,rfl⟩);go_ret;exact⟨rfl,b,rfl⟩
def EX(b a:Nat)(s:ByteArray)(e:bg s<=aV)(m:a<bg s)(h:w.heap[b]? =K (bQ s a)):
 bc 93 #[(aK b)] w λc d=>c=gO (g4 a)/\∃f,d=cI w f:=by
 have⟨g,i,j,k⟩:=yp h;unfold aV at e
 skip
 have l:decide ((a:Int)<(bg s:Int))=af:=bS;go_enter aE.func93,Tryz.ntmps93;go_wp2_with fail;go_quiet (fail);go_wp2_with (go_at_call 97;refine bG (lP b a s _<|by exact h) ?_;rintro c d ⟨rfl,rfl⟩);exact⟨rfl,rfl,nq,rfl⟩
def EY(b a:Nat)(s:ByteArray)(d:bg s<=aV)(m:¬a<bg s)(h:w.heap[b]? =K (bQ s a)):
 bc 93 #[(aK b)] w λc f=>c=aN (cP #[])/\∃e,f=cI w e:=by
 have⟨g,i,j,k⟩:=yp h;unfold aV at d;have l:decide ((a:Int)<(bg s:Int))=aj:=bS;go_enter aE.func93,Tryz.ntmps93;go_wp2_with fail;go_quiet (fail);go_wp2;go_end0;exact⟨rfl,nq,rfl⟩
def FV(s:ByteArray):
 bc 65 #[ay s] w λa b=>a=aN (aK<|U w.heap)/\b=cG w (bQ s 0):=by
 go_enter aE.func65,Tryz.ntmps65;go_wp2;go_ret;exact⟨rfl,rfl⟩
def vA{s:ByteArray}(h:w.heap[n]? =K (bQ s m))(a:Nat):(cI (aY w ⟨n,1,Z⟩<|n9 k) a).heap[n]? =K (bQ s k):=by
 show(aY w ⟨n,1,Z⟩<|n9 k).heap[n]? =_;unfold bQ at*;rw[ek w n 1 _ _ _ h];rfl
def Kp (a:Nat)(b c:ag):Prop:=kg b c<|K a
def Kp.refl(b:Nat)(a:ag):Kp b a a:=O8 a _
def Kp.size(h:Kp n w u):U w.heap<=U u.heap:=y5 h
def Kp.trans(h:Kp n w u)(a:Kp n u W):Kp n w W:=
 ⟨aB a.os h.os,aB a.tape h.tape,aB a.output h.output,dW (y5 h)<|y5 a,λd b c=>aB (m4 a d (cL b<|y5 h) c)<|m4 h d b c⟩
def Kp.drewN(h:Kp n w u)(a:Nat):Kp n w (cI u a):=Kp.trans h ⟨rfl,rfl,rfl,aZ _,λ_ _ _=>rfl⟩
def Kp.alloc(h:Kp n w u)(a:cz):Kp n w (cG u a):=Kp.trans h<|xq u a _
def Kp.grown(h:Kp n w u)(a:kg u W QY)(g:∀b,QY=K b->U w.heap<=b):Kp n w W:=
 ⟨aB a.os h.os,aB a.tape h.tape,aB a.output h.output,dW (y5 h) a.size,λd c e=>aB (a.block d (cL c<|y5 h) λf=>bu)<|m4 h d c e⟩
def Kp.set(h:Kp n w u)(a:Nat)(v:F)(e:Nat):Kp n w (cI (aY u ⟨n,a,Z⟩ v) e):=
 Kp.trans h ⟨rfl,rfl,rfl,aI,λd f c=>by
  show(aY u ⟨n,a,Z⟩ v).heap[d]? =_;exact ei _ _ _ _ λb=>c<|by cases b;rfl⟩
def Kp.below(h:Kp n w u)(d:n<=U w.heap):dZ n w u:=⟨h.os,h.tape,h.output,y5 h,λa c=>m4 h a aa λb=>bu⟩
def Kp.iW(h:aD w u):Kp r w u:=⟨h.os,h.tape,h.output,h.size,λb a _=>cT h b a⟩
def Kp.own(b:Kp n w u)(h:aT w m k i v j S)(d:n<m):aT u m k i v j S:=
 fI h b (by
  cases a:bI v with
  |none=>exact av Y
  |some c=>exact ai (λk=>by cases k;have:=(h.lt n a).1;omega))
def Kp.block(c:Kp n w u)(h:w.heap[m]? =K Ql)(b:m≠n):u.heap[m]? =K Ql:=by
 rw[m4 c m (bE h) λa=>b<|by cases a;rfl];exact h
def HF(b:ag)(a c d:cz):(cG (cG (cG b a) c) d).heap[U b.heap]? =K a:=by
 rw[fM _ _ _ bS,fM _ _ _ aI];exact lF b a
def HG(a:ag)(b c d:cz):(cG (cG (cG a b) c) d).heap[U a.heap+1]? =K c:=by
 rw[fM _ _ _ aI];have:=lF (cG a b) c;rwa [show(cG a b).heap.size=U a.heap+1 from aI] at this
def HH(a:ag)(b c d:cz):(cG (cG (cG a b) c) d).heap[U a.heap+1+1]? =K d:=by
 have:=lF (cG (cG a b) c) d;rwa [show(cG (cG a b) c).heap.size=U a.heap+1+1 from aI] at this
end Pk
end Go.Proofs.YtjidbonhhpkljaaGreat
namespace Go.Proofs.YtjidbonhhpkljaaGreat.Ec
open Go.RowKit Go.Proofs.YtjidbonhhpkljaaGreat.Pk
structure aC where
 null:Bool
 n:Int
 s:ByteArray
def aC.agg(v:aC):F:=bZ #[ak v.null,z9 v.n,ay v.s]
def bM (a:List aC):List F:=a.flatMap λv=>[ak v.null,z9 v.n,ay v.s]
structure wu(w:ag)(ao:Option aL)(b off:Nat)(l:List aC):Prop where
 addr:0<I l->ao=K ⟨b,off,Z⟩
 lt:0<I l->b<U w.heap
 c0:∀j (h:j<I l),ap w ⟨b,off+j*3,Z⟩=K (ak l[j].null)
 c1:∀j (h:j<I l),ap w ⟨b,off+j*3+1,Z⟩=K (z9 l[j].n)
 c2:∀j (h:j<I l),ap w ⟨b,off+j*3+2,Z⟩=K (ay l[j].s)
def wu.below{d:List aC}(h:wu w O n m d)(c:aD w u):wu u O n m d:=
 ⟨h.addr,λe=>cL (h.lt e) c.size,
  λa b=>aB (bA c (p:=⟨n,m+a*3,Z⟩)<|h.lt aa)<|h.c0 a b,
  λa b=>aB (bA c (p:=⟨n,m+a*3+1,Z⟩)<|h.lt aa)<|h.c1 a b,
  λa b=>aB (bA c (p:=⟨n,m+a*3+2,Z⟩)<|h.lt aa)<|h.c2 a b⟩
def mV (a b:aC):Bool:=(a.null==b.null)&&(a.n==b.n)&&(jE a.s==jE b.s)
def tK{a b:aC}:mV a b=af↔a=b:=by
 unfold mV;constructor;intro c;simp only[fe,beq_iff_eq] at c;have⟨⟨d,e⟩,f⟩:=c;cases a;cases b;simp only at d e f;rw[d,e,toList_inj f];rintro rfl;simp
def I_(c:ag)(a b:aC):(binOp .eql 59 (bZ #[ak a.null,z9 a.n,ay a.s])<|bZ #[ak b.null,z9 b.n,ay b.s]).run (aH ax) c=cm (ak<|mV a b) c:=by
 go_simp;unfold mV;by_cases d:a.null=b.null<;>by_cases e:a.n=b.n<;>by_cases f:jE a.s=jE b.s<;>simp[d,e,f]
def MQ(c:ag)(a b:aC):(binOp .neq 59 (bZ #[ak a.null,z9 a.n,ay a.s])<|bZ #[ak b.null,z9 b.n,ay b.s]).run (aH ax) c=cm (ak<|!mV a b) c:=by
 go_simp;unfold mV;by_cases d:a.null=b.null<;>by_cases e:a.n=b.n<;>by_cases f:jE a.s=jE b.s<;>simp[d,e,f]
def aac{c d:List aC}(J:I c<=aV)(K:I d<=aV)
 (h:wu w O n m c) (l:wu w P i j d):
 bc 29 #[ah O (I c) k,ah P (I d) a] w λt M=>∃n,t=aN (ak n)/\(n=af↔c=d)/\∃f,M=cI w f:=by
 unfold aV at J K;by_cases y:I c=I d
 .have H:((I c:Int) !=(I d:Int))=aj:=by simp[y]
  have x:=aA y;go_enter aE.func29,Tryz.ntmps29;go_wp2_with fail
  go_loopw [5] (λv wr=>∃b:Nat,b<=I c/\v=z9 b/\c.take b=d.take b/\∃f,wr=cI w f) (λv _=>I c-bO (bB v))
  exact⟨0,cH _,rfl,rfl,0,rfl⟩;obtain⟨b,N,rfl,L,f,e⟩:=hrel;have s:=aA L;by_cases o:b<I c
  .have q:b<I d:=by rw[<-x.o];exact o
   obtain rfl:=h.addr aa;obtain rfl:=l.addr aa;have Q:bl wr n (m+b*3) (ak c[b].null):=bV e<|h.c0 b o;have R:bl wr n (m+b*3+1) (z9 c[b].n):=bV e<|h.c1 b o;have S:bl wr n (m+b*3+2) (ay c[b].s):=bV e<|h.c2 b o;have T:bl wr i (j+b*3) (ak d[b].null):=bV e<|l.c0 b q;have U:bl wr i (j+b*3+1) (z9 d[b].n):=bV e<|l.c1 b q;have V:bl wr i (j+b*3+2) (ay d[b].s):=bV e<|l.c2 b q;have p:=aA e;have C:X (c[b]≠d[b]->c≠d):=λg t=>g (by subst t;rfl);have E:X (c[b]=d[b]->c.take (b+1)=d.take (b+1)):=λg=>by rw[gm o,gm q,s.o,g]
   have z:=λw=>MQ w c[b] d[b];clear e h l s;generalize c[b]=A at*;generalize d[b]=B at*;by_cases r:A=B
   .have u:=tK.2 r;have F:=aA<|E.o r;rw[u] at z;go_wp2_with fail;go_quiet (fail);go_wp2
    go_roundw
    exact⟨b+1,aa,by go_num,F.o,f+nq,bV p.o<|rS _ _ _⟩;simp[bB];omega
   have u:mV A B=aj:=by rw[Bool.eq_false_iff];intro g;exact r<|tK.1 g
   have D:=aA<|C.o r;rw[u] at z;go_wp2_with fail;go_quiet (fail);go_wp2;go_ret;exact⟨aj,rfl,by simp;exact D.o,f+nq,bV p.o<|rS _ _ _⟩
  have G:c=d:=by
   have:=s.o;rwa [iF<|by omega,iF<|by rw[<-x.o];omega] at this
  have p:=aA e;clear e;go_wp2;go_ret;exact⟨af,rfl,by simp;exact G,f,p.o⟩
 .have H:((I c:Int) !=(I d:Int))=af:=by simp;omega
  go_enter aE.func29,Tryz.ntmps29;go_wp2;go_ret;exact⟨aj,rfl,bu,0,rfl⟩
end Go.Proofs.YtjidbonhhpkljaaGreat.Ec
namespace Go.Proofs.YtjidbonhhpkljaaGreat
abbrev eC(a:Ec.aC):Array F:= #[.bool a.null,.int .i64 a.n,.string a.s]
end Go.Proofs.YtjidbonhhpkljaaGreat
namespace Go.Proofs.YtjidbonhhpkljaaGreat
namespace Ec
open Go.RowKit Pk Pm
structure dx(w w':ag)(v v':F):Prop where
 dK:kg w w' (bI v)
 at_:∀g,bI v'=K g->bI v=K g\/U w.heap<=g
def dx.refl(a:ag)(v:F):dx a a v v:=⟨O8 a _,λ_ b=>av b⟩
def dx.trans(a:dx w u v x)(c:dx u W x y):dx w W v y:=by
 refine⟨⟨aB c.dK.os a.dK.os,aB c.dK.tape a.dK.tape,aB c.dK.output a.dK.output,dW a.dK.size c.dK.size,?_⟩,?_⟩;intro d f g;rw[c.dK.block d (cL f a.dK.size) λi=>?_,a.dK.block d f g];rcases a.at_ d (bq i) with b|b;exact g<|bq b;omega;intro e h;rcases c.at_ e h with b|b;exact a.at_ e b;exact ai<|dW a.dK.size b
def dx.alloc(h:dx w u v x)(a:cz):dx w (cG u a) v x:=
 h.trans ⟨xq u a _,λ_ h=>av h⟩
def dx.below(h:dx w u v x)(c:∀a,bI v=K a->n<=a)(b:n<=U w.heap):dZ n w u:=
 jy (bN n w) h.dK b c
def dx.append
 (h:(kg (w.alloc Ql) u Z/\aT u (w.alloc Ql).heap.size n m x k S)\/(bI x=bI v/\kg (w.alloc Ql) u (bI v))):dx w u v x:=by
 refine((dx.refl w v).alloc Ql).trans ?_;rcases h with⟨a,b⟩|⟨a,b⟩;refine⟨⟨a.os,a.tape,a.output,a.size,λf e _=>a.block f e aI⟩,λc d=>ai (b.lt c d).1⟩;exact⟨b,λc d=>av bu⟩
def zG(a:ap w ⟨n,0,Z⟩=K (aJ .u8 (m:Int))):
 (convert 133 9<|aG n 1 1).run (aH ax) w=cm (ay<|strOf [m]) w:=
 run_convert_bytes_arg w 133 5 aE.underlying133 aE.underlying5 n 0 1 1 [(m:Int)] Y (λb c=>by
  have:b=0:=aa;subst this;exact a) 9 aE.underlying9
def BZ(h:dZ ((cG w<|aq #[v] Qd).drew).heap.size (cG w<|aq #[v] Qd).drew u):ap u ⟨U w.heap,0,Z⟩=K v:=
 aB (bA h (p:=⟨U w.heap,0,Z⟩) aI) aI
def uZ(h:dZ ((w.alloc Ql).drew).heap.size (w.alloc Ql).drew u):aD w u:=
 fN (((bN _ _).alloc (aZ _) Ql).drew) (h.mono aI)
def En(h:aD w.drew u):aD w (u.alloc Ql):=
 (fN ((bN _ _).drew) h).alloc h.size Ql
def pU(d:ag):∀(b:Nat) (c:F),[v][b]? =K c->ap (cG d<|aq #[v] Qd) ((⟨U d.heap,0,Z⟩:aL).add b)=K c:=by
 intro b c a
 match b,a with
 |0,a=>simp at a;subst a;simp[rQ]
def SG(a:ag)(b:Nat):(convert 133 9<|aG (U a.heap) 1 1).run (aH ax) (cG a<|aq #[aJ .u8 (b:Int)] 5)=cm (ay<|strOf [b]) (cG a<|aq #[aJ .u8 (b:Int)] 5):=
 zG aI
def Ou{f a:Nat}(h:a<128):bc 133 #[aJ .u64 a] w λb c=>b=aN (ay<|strOf<|jP (f+1) a)/\aD w c:=by
 rw[xd h];have d:=SG w a;go_enter aE.func133,Tryz.ntmps133;go_wp2;go_ret;exact⟨rfl,pE (bN _ _) (aZ _) _⟩
def adi{f:Nat}(t:f<=9):∀(a:Nat) (c:ag),a<128^(f+1)->a<18446744073709551616->
 bc 133 #[aJ .u64 a] c λg l=>g=aN (ay<|strOf<|jP (f+1) a)/\aD c l:=by
 induction f with
 |zero=>intro a c d _;exact Ou (by simpa using d)
 |succ f h=>
  intro a c m v;have h:=h aa;by_cases d:a<128
  .exact Ou d
  .rw[vG d];have n:=YX m;have o:X (∀c,bc 133 #[aJ .u64<|(a:Int)/128] c λg l=>g=aN (ay<|strOf<|jP (f+1)<|a/128)/\aD c l):=λc=>by
    have:=h (a/128) c n aa;rwa [show((a/128:Nat):Int)=(a:Int)/128 from aa] at this
   obtain⟨b,k⟩:∃b,b=a%128+128:=⟨_,rfl⟩;have y:vP.wrap (vP.wrap ((a:Int).tmod 128)+128)=(b:Int):=by
    rw[Int.tmod_eq_emod_of_nonneg aa,DV (x:=(a:Int)%128) aa aa,DV aa aa];omega
   have x:lW.wrap ((a:Int)/128)=(a:Int)/128:=by simp[IntKind.wrap,IntKind.signed,IntKind.bits];omega
   have s:∀(e:ag) (i:Nat),ap e ⟨i,0,Z⟩=K (aJ .u8 (b:Int))->(convert 133 9<|aG i 1 1).run (aH ax) e=cm (ay<|strOf [b]) e:=λe i d=>zG d;rw[<-k,show strOf (b::jP (f+1) (a/128))=strOf [b]++strOf (jP (f+1)<|a/128) from n4 [b]];have u:I (jP (f+1)<|a/128)<=f+1:=sM _ _;have q:X (b=a%128+128):=k;clear h m n k;generalize jP (f+1) (a/128)=p at*;have w:¬ 9223372036854775807<(strOf [b]).size+(strOf p).size:=by rw[Pk.jf,Pk.jf];simp;omega
   go_enter aE.func133,Tryz.ntmps133;go_wp2_with fail
   go_region_with (go_at_call 133;refine bG (o.o _) ?_;rintro g z ⟨rfl,j⟩;try (have r:=BZ j))
   all_goals
    go_wp2;go_ret;exact⟨rfl,by first|exact uZ j|exact En j⟩
def Ay(a:Nat)(b:ag)(h:a<18446744073709551616):bc 133 #[aJ .u64 a] b λc d=>c=aN (ay<|strOf<|bh a)/\aD b d:=
 adi aa a b (WU h) h
def wrap_u64:lW.wrap M=M%18446744073709551616:=by rfl
def ov (a:Int):Bool:=decide (1<=a)&&decide (a<=3)
def e4 (b a:Int):Bool:=((a==0||a==2)&&ov b)||(a==1&&b==1)||(a==3&&b==2)
def CB(a:Int)(b:ag):bc 120 #[z9 a] b λc f=>c=aN (ak<|ov a)/\f=b:=by
 by_cases d:1<=a<;>by_cases e:a<=3
 all_goals
  go_enter aE.func120,Tryz.ntmps120;go_wp2
  all_goals go_ret
  all_goals exact⟨by simp[ov,d,e],rfl⟩
def vi(a:Int):a=0\/a=1\/a=2\/a=3\/((a==0)=aj/\(a==1)=aj/\(a==2)=aj/\(a==3)=aj):=by
 by_cases b:a=0;exact av b;by_cases c:a=1;exact ai<|av c;by_cases d:a=2;exact ai<|ai<|av d;by_cases e:a=3;exact ai<|ai<|ai<|av e;exact ai<|ai<|ai<|ai ⟨bu,bu,bu,bu⟩
def Kc(a b:Int)(d:ag):bc 83 #[z9 a,z9 b] d λi c=>i=aN (ak<|e4 a b)/\c=d:=by
 rcases vi b with rfl|rfl|rfl|rfl|⟨e,f,g,h⟩
 .rw[show e4 a 0=ov a from by simp[e4]];go_enter aE.func83,Tryz.ntmps83;go_wp2_with (go_at_call 120;refine bG (CB a _) ?_;rintro b c ⟨rfl,rfl⟩);go_ret;exact⟨rfl,rfl⟩
 .rw[show e4 a 1=(a==1) from by simp[e4]];go_enter aE.func83,Tryz.ntmps83;go_wp2
  all_goals go_ret
  all_goals exact⟨rfl,rfl⟩
 .rw[show e4 a 2=ov a from by simp[e4]];go_enter aE.func83,Tryz.ntmps83;go_wp2_with (go_at_call 120;refine bG (CB a _) ?_;rintro b c ⟨rfl,rfl⟩);go_ret;exact⟨rfl,rfl⟩
 .rw[show e4 a 3=(a==2) from by simp[e4]];go_enter aE.func83,Tryz.ntmps83;go_wp2
  all_goals go_ret
  all_goals exact⟨rfl,rfl⟩
 .rw[show e4 a b=aj from by simp[e4,e,f,g,h]];go_enter aE.func83,Tryz.ntmps83;go_wp2
  all_goals go_ret
  all_goals exact⟨rfl,rfl⟩
def Bj(a:(M==1)=aj)(b:(M==2)=aj)(e:(M==3)=aj):e4 M qB=aj:=by
 have d:ov M=aj:=by
  simp at a b e;unfold ov;by_cases c:1<=M;have:¬M<=3:=aa;simp[this];simp[c]
 simp[e4,d,a,b]
def Lg(a:(qB==0)=aj)(b:(qB==1)=aj)(c:(qB==2)=aj)(d:(qB==3)=aj):e4 M qB=aj:=by simp[e4,a,b,c,d]
def Ui(d f:Int)(g:ag):bc 132 #[z9 d,z9 f] g λl m=>l=aN (ak<|e4 d f)/\m=g:=by
 rcases vi f with rfl|rfl|rfl|rfl|⟨h,i,j,k⟩
 .rcases vi d with rfl|rfl|rfl|rfl|⟨e,a,b,c⟩
  case inr.inr.inr.inr=>rw[Bj a b c];go_enter aE.func132,vQ;go_wp2;go_ret;exact⟨rfl,rfl⟩
  all_goals (go_enter aE.func132,vQ;go_wp2;go_ret;exact⟨rfl,rfl⟩)
 .rcases vi d with rfl|rfl|rfl|rfl|⟨e,a,b,c⟩
  case inr.inr.inr.inr=>rw[Bj a b c];go_enter aE.func132,vQ;go_wp2;go_ret;exact⟨rfl,rfl⟩
  all_goals (go_enter aE.func132,vQ;go_wp2;go_ret;exact⟨rfl,rfl⟩)
 .rcases vi d with rfl|rfl|rfl|rfl|⟨e,a,b,c⟩
  case inr.inr.inr.inr=>rw[Bj a b c];go_enter aE.func132,vQ;go_wp2;go_ret;exact⟨rfl,rfl⟩
  all_goals (go_enter aE.func132,vQ;go_wp2;go_ret;exact⟨rfl,rfl⟩)
 .rcases vi d with rfl|rfl|rfl|rfl|⟨e,a,b,c⟩
  case inr.inr.inr.inr=>rw[Bj a b c];go_enter aE.func132,vQ;go_wp2;go_ret;exact⟨rfl,rfl⟩
  all_goals (go_enter aE.func132,vQ;go_wp2;go_ret;exact⟨rfl,rfl⟩)
 .rw[Lg h i j k];rcases vi d with rfl|rfl|rfl|rfl|⟨e,a,b,c⟩
  all_goals (go_enter aE.func132,vQ;go_wp2;go_ret;exact⟨rfl,rfl⟩)
def j0 (a c b:Int):Int:=if a<0\/100<a then 6 else if e4 c b then 0 else 2
def R3(b c a:Int)(h:ag):bc 123 #[z9 b,z9 c,z9 a] h λk e=>k=aN (z9<|j0 b c a)/\e=h:=by
 by_cases f:b<0\/100<b
 .have d:=Jd b h;rw[show xN b=6 from by simp[xN,f]] at d;rw[show j0 b c a=6 from by simp[j0,f]];go_enter aE.func123,Tryz.ntmps123;go_wp2_with (go_at_call 141;refine bG d ?_;rintro a e ⟨rfl,rfl⟩)
  all_goals go_ret
  all_goals exact⟨rfl,rfl⟩
 .have d:=Jd b h;rw[show xN b=0 from by simp[xN,f]] at d;have g:=Kc c a;by_cases i:e4 c a=af
  .rw[show j0 b c a=0 from by simp[j0,f,i]];rw[i] at g;go_enter aE.func123,Tryz.ntmps123;go_wp2_with (first|(go_at_call 141;refine bG d ?_;rintro a e ⟨rfl,rfl⟩)|(go_at_call 83;refine bG (g _) ?_;rintro a e ⟨rfl,rfl⟩))
   all_goals go_ret
   all_goals exact⟨rfl,rfl⟩
  .have j:e4 c a=aj:=by simpa using i
   rw[show j0 b c a=2 from by simp[j0,f,j]];rw[j] at g;go_enter aE.func123,Tryz.ntmps123;go_wp2_with (first|(go_at_call 141;refine bG d ?_;rintro a e ⟨rfl,rfl⟩)|(go_at_call 83;refine bG (g _) ?_;rintro a e ⟨rfl,rfl⟩))
   all_goals go_ret
   all_goals exact⟨rfl,rfl⟩
def OP(e: -9223372036854775808<=M)(f:M<=9223372036854775807)(a:ag):
 bc 137 #[z9 M] a λb c=>b=aN (aJ .u64<|zz M)/\c=a:=by
 by_cases d:M<0
 all_goals
  go_enter aE.func137,Tryz.ntmps137;go_wp2
  all_goals go_ret
  all_goals exact⟨Gz<|by unfold zz;split<;>omega,rfl⟩
def gR (v:aC)(a:Int):Bool:=
 if v.null then(v.n==0)&&(jE v.s==[]) else if a==1 then jE v.s==[] else if a==2 then(v.n==0||v.n==1)&&(jE v.s==[]) else(v.n==0)&&decide ((bg v.s:Int)<=32)
def tC(h:qW=qX):aN (ak qW)=aN (ak qX):=by rw[h]
def x8(v:aC)(a:Int)(c:ag)(b:a=1\/a=2\/a=3):
 bc 47 #[bZ<|eC v,z9 a] c λd e=>d=aN (ak<|gR v a)/\aD c e:=by
 cases f:v.null
 .rcases b with rfl|rfl|rfl
  all_goals
   go_enter aE.func47,Tryz.ntmps47;go_wp2
   all_goals go_ret
   all_goals refine⟨tC ?_,pE (bN _ _) (aZ _) _⟩
   all_goals rw[rO]
   all_goals simp[gR, *]
   all_goals try omega
 .rcases b with rfl|rfl|rfl
  all_goals
   go_enter aE.func47,Tryz.ntmps47;go_wp2
   all_goals go_ret
   all_goals refine⟨tC ?_,pE (bN _ _) (aZ _) _⟩
   all_goals rw[rO]
   all_goals simp[gR, *]
   all_goals try omega
def K3(v:aC)(a:Int)(e:ag)(b:a=1\/a=2\/a=3):
 bc 82 #[bZ<|eC v,z9 a] e λd f=>d=aN (ak<|gR v a)/\aD e f:=by
 have c:=CB a;rw[show ov a=af from by rcases b with rfl|rfl|rfl<;>rfl] at c;cases g:v.null
 .rcases b with rfl|rfl|rfl
  all_goals
   go_enter aE.func82,Tryz.ntmps82;go_wp2
   all_goals go_ret
   all_goals refine⟨tC ?_,pE (bN _ _) (aZ _) _⟩
   all_goals rw[rO]
   all_goals simp[gR, *]
   all_goals try omega
 .rcases b with rfl|rfl|rfl
  all_goals
   go_enter aE.func82,Tryz.ntmps82;go_wp2_with (go_at_call 120;refine bG (c _) ?_;rintro d f ⟨rfl,rfl⟩)
   all_goals go_ret
   all_goals refine⟨tC ?_,pE (bN _ _) (aZ _) _⟩
   all_goals rw[rO]
   all_goals simp[gR, *]
   all_goals try omega
def iQ (a:Int):List Int->Nat
 | []=>0
 |y::b=>if y=a then iQ a b+1 else 0
def byteOf(a:Int):Nat:=bO<|a%256
def lT:Nat->List Int->List Nat
 |0,_=>[]
 |f+1,b=>match b with
  | []=>[]
  |x::a=>bh (iQ x<|x::a)++([byteOf x]++lT f ((x::a).drop<|iQ x<|x::a))
def eV (a:List Int):List Nat:=lT (I a) a
def ML(b:Int)(a:List Int):iQ b a<=I a:=by
 induction a with
 |nil=>simp[iQ]
 |cons e d c=>simp only[iQ];split<;>simp<;>omega
def E_(a:Nat)(h:a<iQ M qZ):∃e:a<I qZ,qZ[a]=M:=by
 induction qZ generalizing a with
 |nil=>simp[iQ] at h
 |cons i g b=>
  simp only[iQ] at h
  split at h
  rename_i f;cases a with
  |zero=>exact⟨aI,bu⟩
  |succ m=>
   have⟨c,d⟩:=b m aa;exact⟨bu,bu⟩
  omega
def MM(b:Int)(a:List Int)(h:iQ b a<I a):a[iQ b a]≠b:=by
 induction a with
 |nil=>simp at h
 |cons e f d=>
  simp only[iQ] at h ⊢;by_cases c:e=b;simp only[c,if_true] at h ⊢;have:=d<|cN h;simpa using this;simp only[c,if_false] at h ⊢;simpa using c
def oE (b:List Int)(a:Nat):Nat:=iQ (aW b a 0)<|b.drop a
def B_(b:List Int)(a:Nat)(h:a<I b):0<oE b a:=by
 unfold oE;rw[ru h,lO h];simp[iQ]
def z_(b:List Int)(a:Nat)(h:a<I b):a+oE b a<=I b:=by
 have:=ML (aW b a 0)<|b.drop a;unfold oE;rw[uT] at this;omega
def y_(c:List Int)(a b:Nat)(h:b<oE c a):∃g:a+b<I c,c[a+b]=aW c a 0:=by
 have⟨e,f⟩:=E_ b h;have d:a+b<I c:=bu;exact⟨d,bu⟩
def A_(b:List Int)(a:Nat)(h:a+oE b a<I b):b[a+oE b a]≠aW b a 0:=by
 have:=MM (aW b a 0) (b.drop a) (by unfold oE at h;rw[uT];omega);simpa [oE] using this
def Q_(f:Nat)(b:List Int)(a:Nat)(h:a<I b):lT (f+1) (b.drop a)=bh (oE b a)++([byteOf<|aW b a 0]++lT f (b.drop<|a+oE b a)):=by
 unfold oE;rw[ru h,lO h];simp only[lT];rw[<-ru h,List.drop_drop]
def M_(f:Nat)(b:List Int)(a:Nat)(h:¬a<I b):lT f (b.drop a)=[]:=by
 rw[za aa];cases f<;>rfl
def Ey:byteOf M<256:=by unfold byteOf;omega
def B6(a:Int):a%256=(byteOf a:Int):=by unfold byteOf;omega
def O_(f:Nat)(b:List Int):I (lT f b)<=11*f:=by
 induction f generalizing b with
 |zero=>simp[lT]
 |succ f d=>
  cases b with
  |nil=>simp[lT]
  |cons a c=>
   simp only[lT];have e:=sM 10<|iQ a<|a::c;have g:=d<|(a::c).drop<|iQ a<|a::c;simp only[cJ,rY];unfold bh;omega
def Ls(b:cD R<U w.heap)(a:ap w R=K v)(h:dZ ((cG w Ql).drew).heap.size (cG w Ql).drew u):ap u R=K v:=
 aB (bA (uZ h) b) a
def Lt(b:cD R<U w.heap)(a:ap w R=K v)(h:aD w.drew u):ap u R=K v:=
 aB (bA h nE) a
def R_(a4:I qZ<=100)
 (a1:0<I qZ->O=K ⟨n,m,Z⟩) (ab:0<I qZ->n<U w.heap) (aQ:∀d,d<I qZ->bl w n (m+d) (z9<|aW qZ d 0)):
 bc 112 #[ah O (I qZ) k] w λo R=>o=aN (ay<|strOf<|eV qZ)/\aD w R:=by
 go_enter aE.func112,Tryz.ntmps112;go_wp2_with fail
 go_loopw [3,4] (λa5 Q wr=>∃(a f:Nat) (e:List Nat),a<=I qZ/\a5=ay (strOf e)/\Q=z9 a/\I qZ<=a+f/\f<=100/\I e+11*f<=1100/\e++lT f (qZ.drop a)=eV qZ/\aD w wr) (λ_ Q _=>I qZ-bO (bB Q))
 exact⟨0,I qZ,[],cH _,rfl,rfl,aa,a4,bS,rfl,bN _ _⟩;obtain⟨a,f,e,bm,rfl,rfl,bo,bk,be,ad,z⟩:=hrel
 rename ag=>C
 have bz:U w.heap<=U C.heap:=z.size;have ba:(strOf e).size<=1100:=by rw[Pk.jf];omega
 have a9:X (∃q,q=strOf e):=⟨_,rfl⟩;generalize Y:strOf e=q at*;by_cases u:a<I qZ
 .obtain rfl:=a1 aa;have L:∀d,d<I qZ->bl C n (m+d) (z9<|aW qZ d 0):=λd aU=>(bA z (ab aa)).trans<|aQ d aU;have az:=aA<|Q_ (f-1) qZ a u;have bu:=B_ qZ a u;have bs:=z_ qZ a u;have ar:X (∀i,i<oE qZ a->∃v:a+i<I qZ,qZ[a+i]=aW qZ a 0):=λi v=>y_ qZ a i v;have aw:X (∀y:a+oE qZ a<I qZ,qZ[a+oE qZ a]≠aW qZ a 0):=λy=>A_ qZ a y;have J:=L a u
  skip
  generalize oE qZ a=g at*;generalize bK:aW qZ a 0=l at*
  skip
  go_wp2_with fail
  go_loopw [5] (λd a7=>∃b:Nat,b<=g/\d=n9 b/\∃i,a7=cI C i) (λd _=>I qZ+1-bO (bB d))
  exact⟨0,aa,rfl,0,rfl⟩;obtain⟨b,bC,rfl,i,p⟩:=hrel;have aC:X (wr=cI C i):=p;have al:ap wr ⟨n,m+a,Z⟩=K (aJ aM l):=by simp_all
  by_cases N:b<g
  .obtain⟨v,an⟩:=ar.o b N;have A:ap wr ⟨n,m+(a+b),Z⟩=K (z9 l):=by
    rw[p];have:=L (a+b) v;rwa [lO v,an] at this
   have am:decide ((a:Int)+(b:Int)<(I qZ:Int))=af:=bS;clear J p an;go_wp2_with fail;go_quiet (fail);go_wp2
   go_roundw
   case rel=>exact⟨b+1,by omega,by go_num,i+nq,by rw[aC.o];exact rS _ _ _⟩
   case measure=>simp[bB];omega
  .have F:X (b=g):=by show b=g;omega
   have a2:vP.wrap l=l%256:=by rfl
   rw[B6] at a2;have bH:lW.wrap (b:Int)=(b:Int):=by rw[wrap_u64];omega
   generalize bL:byteOf l=r at*
   skip
   have bF:=sM 10 g;have bb:(strOf<|bh g).size<=10:=by rw[Pk.jf];unfold bh;omega
   have T:X (∀c:ag,bc 133 #[aJ .u64 (b:Int)] c λo R=>o=aN (ay<|strOf<|bh g)/\aD c R):=λc=>by
    rw[F.o];exact Ay g c aa
   generalize aG:strOf (bh g)=V at*;have bd:(strOf [r]).size=1:=by rfl
   have bv:¬ 9223372036854775807<q.size+V.size:=by omega
   have bx:¬ 9223372036854775807<q.size+V.size+(strOf [r]).size:=by omega
   have bi:∀(c:ag) (G:Nat),ap c ⟨G,0,Z⟩=K (aJ .u8 (r:Int))->(convert 133 9<|ah (K ⟨G,0,Z⟩) 1 1).run (aH ax) c=cm (ay<|strOf [r]) c:=λc G y=>zG y;have E:X (aD w wr):=by show dZ _ _ _;rw[p];exact below_drewN z i
   have ae:n<U wr.heap:=cL (ab aa) E.o.size;have br:(a:Int)<(I qZ:Int):=by omega
   have x:X (∀c:ag,aD w c->∃(B f:Nat) (e:List Nat),B<=I qZ/\ay (q++V++strOf [r])=ay (strOf e)/\aJ aM ((a:Int)+(b:Int))=n9 B/\I qZ<=B+f/\f<=100/\I e+11*f<=1100/\e++lT f (qZ.drop B)=eV qZ/\aD w c):=λc aK=>by
    have W:=az.o;rw[show f-1+1=f by omega] at W;have aF:=F.o;have a8:=sM 10 g;refine⟨a+b,f-1,e++(bh g++[r]),aa,?_,aI,aa,aa,?_,?_,aK⟩
    .rw[<-Y,<-aG,n4,n4,ByteArray.append_assoc]
    .rw[cJ,cJ];unfold bh;simp;omega
    .rw[<-ad,W,aF];simp[ij]
   have bD:0<b:=by omega
   by_cases P:a+b<I qZ
   .have A:∃D,ap wr ⟨n,m+(a+b),Z⟩=K (z9 D)/\D≠l:=by
     refine⟨aW qZ (a+b) 0,by rw[p];exact L (a+b) P,?_⟩;have o:=F.o;subst o;rw[lO P];exact aw.o P
    have⟨D,A,a3⟩:=A;have am:decide ((a:Int)+(b:Int)<(I qZ:Int))=af:=bS;have bj:(D==l)=aj:=by grind
    clear J p N a3;go_wp2_with fail;go_quiet (fail);try clear A
    go_wp2_with fail;have t:ap (cI wr nq) ⟨n,m+a,Z⟩=K (z9 l):=al;have H:n<(cI wr nq).heap.size:=ae;have j:=aA<|below_drewN E.o nq;generalize cI wr nq=S at*;have s:cD (⟨n,m+a,Z⟩:aL)<U S.heap:=H
    go_region_with (go_at_call 133;refine(T.o _).mono ?_;rintro o a6 ⟨rfl,h⟩;(try have aR:=BZ h);(first|have M:=Lt s t h|have M:=Ls s t h))
    all_goals go_wp2
    all_goals go_roundw
    all_goals first
     |exact x.o _<|j.o.trans<|(uZ h).mono j.o.size
     |exact x.o _<|j.o.trans<|(En h).mono j.o.size
     |(simp[bB];omega)
   .have am:decide ((a:Int)+(b:Int)<(I qZ:Int))=aj:=by simp;omega
    clear J p N;go_wp2_with fail;go_quiet (fail);go_wp2_with fail;have t:ap (cI wr nq) ⟨n,m+a,Z⟩=K (z9 l):=al;have H:n<(cI wr nq).heap.size:=ae;have j:=aA<|below_drewN E.o nq;generalize cI wr nq=S at*;have s:cD (⟨n,m+a,Z⟩:aL)<U S.heap:=H
    go_region_with (go_at_call 133;refine(T.o _).mono ?_;rintro o a6 ⟨rfl,h⟩;(try have aR:=BZ h);(first|have M:=Lt s t h|have M:=Ls s t h))
    all_goals go_wp2
    all_goals go_roundw
    all_goals first
     |exact x.o _<|j.o.trans<|(uZ h).mono j.o.size
     |exact x.o _<|j.o.trans<|(En h).mono j.o.size
     |(simp[bB];omega)
 have a0:=M_ f qZ a u;have ao:X (strOf (eV qZ)=q):=by show _=_;rw[<-ad,a0,l5];exact Y
 go_wp2;go_ret;exact⟨by rw[ao.o];rfl,z⟩
def DG{s:ByteArray}:strOf (bytesOf s)=s:=by
 unfold strOf bytesOf strOfNums;apply AI;apply Array.ext';have c:∀a:UInt8,((λb:Int=>UInt8.ofNat<|bO b) ∘ (λb:Nat=>(b:Int)) ∘ UInt8.toNat) a=a:=λa=>aI;simp;rw[vZ λa _=>c a];simp
def cM(s:ByteArray):I (bytesOf s)=bg s:=by
 unfold bytesOf;simp
def xJ(s:ByteArray):∀b∈bytesOf s,b<256:=by
 intro b a;unfold bytesOf at a;obtain⟨c,_,rfl⟩:=jW.1 a;exact c.toNat_lt
def dc (a:Int)(v:aC):List Nat:=if a=1 then bh (zz v.n) else if a=2 then[byteOf v.n] else bh (bg v.s)++bytesOf v.s
def yj(a:Int)(v:aC)(h:bg v.s<=32):I (dc a v)<=42:=by
 have b:=sM 10<|zz v.n;have c:=sM 10<|bg v.s;unfold dc
 split
 unfold bh;omega
 split
 simp;rw[cJ,cM];unfold bh;omega
structure jd(v:aC):Prop where
 lo: -9223372036854775808<=v.n
 hi:v.n<=9223372036854775807
 sz:bg v.s<=32
def dx.box(h:dx (w.alloc Ql) u v x):dx w u v x:=((dx.refl w v).alloc Ql).trans h
def P5(h:dZ (w.alloc Ql).heap.size (w.alloc Ql) u):aD w u:=
 fN ((bN _ _).alloc (aZ _) Ql) (h.mono aI)
def Rh(h:dZ ((cG w<|aq #[v,x,y] Qd).drew).heap.size (cG w<|aq #[v,x,y] Qd).drew u):bl u (U w.heap) 2 y:=
 aB (bA h (p:=⟨U w.heap,2,Z⟩) aI) aI
def CX(v:aC)(b:Int)(i:ag)(m:b=1\/b=2\/b=3)(n:jd v):
 bc 134 #[bZ<|eC v,z9 b] i λc p=>c=aN (ay<|strOf<|dc b v)/\aD i p:=by
 have⟨g,h,q⟩:=n;rcases m with rfl|rfl|rfl
 .rw[show dc 1 v=bh (zz v.n) from by simp[dc]];have k:=OP g h;have e:=λa=>Ay (zz v.n) a<|vJ g h;go_enter aE.func134,Tryz.ntmps134;go_wp2_with first
   |(go_at_call 137;refine bG (k _) ?_;rintro c j ⟨rfl,rfl⟩)
   |(go_at_call 133;refine bG (e _) ?_;rintro c j ⟨rfl,d⟩)
  go_ret;exact⟨rfl,P5 d⟩
 .rw[show dc 2 v=[byteOf v.n] from by simp[dc]];have o:vP.wrap v.n=v.n%256:=by rfl
  rw[B6] at o;have r:∀(a:ag) (f:Nat),ap a ⟨f,0,Z⟩=K (aJ .u8 (byteOf v.n:Int))->(convert 133 9<|aG f 1 1).run (aH ax) a=cm (ay<|strOf [byteOf v.n]) a:=λa f l=>zG l;go_enter aE.func134,Tryz.ntmps134;go_wp2;go_ret;exact⟨rfl,pE (pE (bN _ _) (aZ _) _) aI _⟩
 .rw[show dc 3 v=bh v.s.size++bytesOf v.s from by simp[dc],n4,DG];have e:=λa=>Ay v.s.size a aa;have t:=sM 10 v.s.size;have u:¬ 9223372036854775807<(strOf<|bh v.s.size).size+v.s.size:=by rw[Pk.jf];unfold bh;omega
  go_enter aE.func134,Tryz.ntmps134;go_wp2_with fail;have w:lW.wrap (v.s.size:Int)=(v.s.size:Int):=by rw[wrap_u64];omega
  go_region_with (go_at_call 133;refine bG (e _) ?_;rintro c j ⟨rfl,d⟩;have s:=Rh d)
  all_goals
   go_wp2;go_ret;exact⟨rfl,uZ d⟩
def wid (a:Nat):Nat:=if a<=1 then 0 else if a<=2 then 1 else if a<=4 then 2 else if a<=8 then 3 else if a<=16 then 4 else if a<=32 then 5 else if a<=64 then 6 else 7
def AB(a:Nat):wid a<=7:=by
 unfold wid
 repeat' split
 all_goals omega
def Ox:∀a,a<101->∀b,b<8->(2^b<a↔b<wid a):=by decide +kernel
def AA(h:n<=100)(a:Nat)(d:a<n):a<2^wid n:=by
 have b:=AB n;have c:=(Ox n aa (wid n) aa);omega
def adB:∀a,a<128->Lib.bitLen a=wid (a+1):=by decide +kernel
def Oy(b:Nat)(r:b<=100)(c:ag):bc 110 #[z9 b] c λd g=>d=aN (z9<|wid b)/\g=c:=by
 have s:=AB b;have l:X (∀a,a<=7->(pw a<(b:Int)↔a<wid b)):=λa o=>by
  have:=Ox b aa a aa;unfold pw;omega
 generalize wid b=e at*;go_enter aE.func110,Tryz.ntmps110;go_wp2_with fail
 go_loopw [3] (λf wr=>∃a:Nat,a<=e/\f=z9 a/\wr=c) (λf _=>8-bO (bB f))
 exact⟨0,cH _,rfl,rfl⟩;obtain⟨a,o,rfl,rfl⟩:=hrel;have i:X (∀c,bc 135 #[z9 a] c λd g=>d=aN (z9<|pw a)/\g=c):=λc=>Bs (by omega);have h:=l.o a aa;generalize pw a=p at*;by_cases j:a<e;have n:=h.2 j;go_wp2_with (go_at_call 135;refine bG (i.o _) ?_;rintro d q ⟨rfl,rfl⟩)
 go_roundw
 exact⟨a+1,aa,by go_num,trivial⟩;simp[bB];omega;have n:¬p<(b:Int):=λm=>j<|h.1 m;have k:X (a=e):=by show a=e;omega
 go_wp2_with (go_at_call 135;refine bG (i.o _) ?_;rintro d q ⟨rfl,rfl⟩);go_ret;exact⟨by rw[<-k.o];rfl,rfl⟩
def acz:∀a:Nat,a<128->∀h:a<Lib.len8tab.size,Lib.len8tab[a].toNat=Lib.bitLen a:=by decide +kernel
def WB(b:0<=M)(e:M<=127):bc 175 #[aJ .u64 M] w λa d=>a=aN (z9<|Lib.bitLen<|bO M)/\d=w:=by
 go_enter aE.func175,Tryz.ntmps175;go_wp2
 all_goals (go_ret;refine⟨congrArg aN<|congrArg (aJ aM) ?_,rfl⟩)
 all_goals
  have c:=acz (bO M) aa aa;have f:=Lib.bitLen_le8' M b aa;rw[c];unfold cY;omega
def WE(a:Int)(c:ag)(e:0<=a)(f:a<=127):bc 167 #[aJ .u64 a] c λb d=>b=aN (z9<|Lib.bitLen<|bO a)/\d=c:=by
 go_enter aE.func167,Tryz.ntmps167;go_wp2_with (go_at_call 175;refine bG (WB e f) ?_;rintro b d ⟨rfl,rfl⟩);go_ret;exact⟨rfl,rfl⟩
def adC(a:Nat)(h:a<=100)(b:ag):bc 158 #[z9 a] b λc d=>c=aN (z9<|wid a)/\d=b:=by
 by_cases g:a<2
 .rw[show wid a=0 from by unfold wid;rw[if_pos aa]];go_enter aE.func158,Tryz.ntmps158;go_wp2;go_ret;exact⟨rfl,rfl⟩
 .have f:X (∀b,bc 167 #[aJ .u64<|(a:Int)-1] b λc d=>c=aN (z9<|wid a)/\d=b):=λb=>by
   have e:=WE ((a:Int)-1) b aa aa;rw[adB _ aa,show bO ((a:Int)-1)+1=a by omega] at e;exact e
  go_enter aE.func158,Tryz.ntmps158;go_wp2_with (go_at_call 167;refine bG (f.o _) ?_;rintro c d ⟨rfl,rfl⟩);go_ret;exact⟨rfl,rfl⟩
def Apart(a v:F):Prop:=bI a=Z\/bI a≠bI v
def Apart.symm(h:Apart x v):Apart v x:=by
 rcases h with h|h;cases b:bI v with
 |none=>exact av b
 |some c=>exact ai bu
 exact ai λa=>h<|bq a
def js(h:aT w n m k x i S)(b:dx w u v y)(a:Apart x v):aT u n m k x i S:=
 fI h b.dK a
def Apart.oX(e:Apart x v)(h:aT w n m k x i S)(f:dx w u v y):Apart x y:=by
 rcases e with a|a;exact av a;cases b:bI x with
 |none=>exact av b
 |some c=>
  right
  intro m;rw[b] at m a;have g:=(h.lt c b).2;rcases f.at_ c (bq m) with d|d;exact a<|bq d;omega
def je (f:ag)(v:F)(b:List aC):Prop:=∃a c e d,v=ah a (I b) d/\wu f a c e b
def je.below{a:List aC}(h:je w v a)(e:aD w u):je u v a:=by
 obtain⟨b,c,f,d,rfl,h⟩:=h;exact⟨b,c,f,d,rfl,h.below e⟩
def yF(a:List aC):I (bM a)=I a*3:=by
 induction a with
 |nil=>rfl
 |cons d c b=>unfold bM at b ⊢;simp at b ⊢;omega
def DO{a:aC}{b:List aC}:bM (a::b)=[ak a.null,z9 a.n,ay a.s]++bM b:=by simp[bM]
def yE{a b:List aC}:bM (a++b)=bM a++bM b:=by simp[bM]
def yG{a:aC}:bM [a]=[ak a.null,z9 a.n,ay a.s]:=by simp[bM]
def tJ(b:List aC):∀(a:Nat) (h:a<I b),(bM b)[a*3]? =K (ak b[a].null)/\(bM b)[a*3+1]? =K (aJ aM b[a].n)/\(bM b)[a*3+2]? =K (ay b[a].s):=by
 induction b with
 |nil=>intro a h;simp at h
 |cons f e d=>
  intro a h;rw[DO];cases a with
  |zero=>simp
  |succ a=>
   have:=d a (by simpa using h);have c:(a+1)*3=a*3+3:=by omega
   rw[c,rX<|by simp,rX<|by simp,rX<|by simp];simpa [show a*3+3+1-3=a*3+1 by omega,show a*3+3+2-3=a*3+2 by omega] using this
def je.gB{base:Nat}{b:List aC}(h:aT w base 59 3 v (I b) (bM b)):je w v b:=by
 rcases h.2 with⟨rfl,g⟩|⟨d,f,i,rfl,j,m,n,k,l,o⟩;have:b=[]:=s4 g;subst this;exact⟨Z,0,0,0,rfl,⟨λh=>by simp at h,λh=>by simp at h,λa h=>by simp at h,λa h=>by simp at h,λa h=>by simp at h⟩⟩;have e:=h.cells (g:=d) Y;refine⟨K ⟨d,0,Z⟩,d,0,f,rfl,⟨λ_=>rfl,λ_=>(h.lt d Y).2,?_,?_,?_⟩⟩;intro a c;have:=e _ _ (tJ b a c).1;simpa [kQ] using this;intro a c;have:=e _ _ (tJ b a c).2.1;simpa [kQ] using this;intro a c;have:=e _ _ (tJ b a c).2.2;simpa [kQ] using this
def idx:List aC->aC->Nat
 | [],_=>0
 |y::b,a=>if mV y a then 0 else idx b a+1
def Vc(a:List aC)(b:aC):idx a b<=I a:=by
 induction a with
 |nil=>simp[idx]
 |cons e d c=>simp only[idx];split<;>simp<;>omega
def Kh(b:List aC)(d:aC):∀a,(h:a<I b)->a<idx b d->mV b[a] d=aj:=by
 induction b with
 |nil=>intro a h;simp at h
 |cons i g f=>
  intro a h c;simp only[idx] at c
  split at c
  omega;rename_i e;cases a with
  |zero=>simpa using e
  |succ a=>exact f a (cN h) aa
def Cz{a:List aC}{b:aC}(h:idx a b<I a):a[idx a b]=b:=by
 induction a with
 |nil=>simp at h
 |cons e f d=>
  simp only[idx] at h ⊢;by_cases c:mV e b=af;simp only[c,if_true];exact tK.1 c;simp only[c] at h ⊢;exact d<|cN h
def tA (a:List aC)(b:aC):Int:=if idx a b<I a then(idx a b:Int) else -1
def Aa(a:List aC)(v:F)(c:aC)(d:ag)(h:je d v a)(E:I a<=100):
 bc 136 #[v,bZ<|eC c] d λz A=>z=aN (z9<|tA a c)/\aD d A:=by
 obtain⟨B,C,H,D,rfl,t⟩:=h;have y:=aA<|Kh a c;have u:X (∀h:idx a c<I a,a[idx a c]=c):=λh=>Cz h;have w:X (tA a c=if idx a c<I a then(idx a c:Int) else -1):=rfl;generalize tA a c=p at*;generalize idx a c=e at*;go_enter aE.func136,Tryz.ntmps136;go_wp2_with fail
 go_loopw [5] (λn wr=>∃b:Nat,b<=e/\n=z9 b/\∃k,wr=cI (d.alloc<|aq (eC c) 59) k) (λn _=>I a-bO (bB n))
 exact⟨0,cH _,rfl,0,rfl⟩;obtain⟨b,G,rfl,k,j⟩:=hrel;have m:X (aD d wr):=by show dZ _ _ _;rw[j];exact below_drewN ((bN _ _).alloc (aZ _) _) k
 have x:=aA j;have N:ap wr ⟨U d.heap,0,Z⟩=K (ak c.null):=nE;have O:ap wr ⟨U d.heap,1,Z⟩=K (z9 c.n):=nE;have P:ap wr ⟨U d.heap,2,Z⟩=K (ay c.s):=nE;by_cases f:b<I a
 .have i:=t.below m.o;obtain rfl:=t.addr aa;have J:=i.c0 b f;have L:=i.c1 b f;have M:=i.c2 b f;have s:=λd=>I_ d a[b] c;have o:X ((b<e->mV a[b] c=aj)/\(b=e->a[b]=c)):=⟨λh=>y.o b f h,λh=>by subst h;exact u.o f⟩;clear i j;generalize a[b]=Q at*;by_cases q:b<e
  .have g:=o.o.1 q;rw[g] at s;go_wp2_with fail;go_quiet (fail);go_wp2
   go_roundw
   exact⟨b+1,aa,by go_num,k+nq,bV x.o<|rS _ _ _⟩;simp[bB];omega
  have r:b=e:=aa;have g:=tK.2<|o.o.2 r;have l:X (p=(b:Int)):=bu;rw[g] at s;clear g r q;go_wp2_with fail;go_quiet (fail);go_wp2;go_ret;exact⟨gG l.o,below_drewN m.o nq⟩
 have l:X (p= -1):=by show _=_;rw[w.o,if_neg aa]
 clear j;go_wp2;go_ret;exact⟨gG l.o,m.o⟩
def dQ (a:Int)(b:List aC):List Nat:=b.flatMap<|dc a
def LU{a:List aC}(h:n<I a):dQ M (a.take<|n+1)=dQ M (a.take n)++dc M a[n]:=by
 rw[gm h];unfold dQ;rw[oN,pH]
def CY(d:Int)(a:List aC)(h:∀b∈a,jd b):I (dQ d a)<=42*I a:=by
 induction a with
 |nil=>simp[dQ]
 |cons b j f=>
  have c:=f (λg e=>h g<|by simp[e]);have i:=yj d b (h b<|by simp).sz;unfold dQ at c ⊢;simp at c ⊢;omega
def fG:Int->List aC->List Nat
 |_,[]=>[]
 |a,v::b=>bh (zz<|cY<|v.n-a)++fG v.n b
def fQ:Int->List aC->Int
 |a,[]=>a
 |_,v::b=>fQ v.n b
def ET(a:Int)(b:List aC)(c:aC):fG a (b++[c])=fG a b++bh (zz<|cY<|c.n-fQ a b):=by
 induction b generalizing a with
 |nil=>simp[fG,fQ]
 |cons f e d=>simp[fG,fQ,d]
def FO(a:Int){b:List aC}{c:aC}:fQ a (b++[c])=c.n:=by
 induction b generalizing a with
 |nil=>simp[fQ]
 |cons f e d=>simp[fQ,d]
def Jz(a:Int)(b:List aC):I (fG a b)<=10*I b:=by
 induction b generalizing a with
 |nil=>simp[fG]
 |cons c g d=>
  have e:=d c.n;have f:=sM 10<|zz<|cY<|c.n-a;simp only[fG,cJ,oh];unfold bh;omega
def Wy(b:List aC)(h:∀c∈b,jd c)(a:Int)(e: -9223372036854775808<=a)(f:a<=9223372036854775807): -9223372036854775808<=fQ a b/\fQ a b<=9223372036854775807:=by
 induction b generalizing a with
 |nil=>exact⟨e,f⟩
 |cons d j i=>exact i (λc g=>h c<|by simp[g]) d.n (h d aI).lo (h d aI).hi
def uF(a:Int): -9223372036854775808<=cY a/\cY a<=9223372036854775807:=by unfold cY;omega
def vq:∀b∈[aJ aM M],m3 b=af:=by
 intro b a;simp at a;subst a;rfl
def iE (f:ag)(v:F)(a:List Int):Prop:=∃d b e g,v=ah d (I a) g/\(0<I a->d=K ⟨b,e,Z⟩)/\(0<I a->b<U f.heap)/\∀c,c<I a->bl f b (e+c) (z9<|aW a c 0)
def iE.gB{base:Nat}(h:aT w base 3 1 v (I qZ) (cO qZ)):iE w v qZ:=by
 rcases h.2 with⟨rfl,d⟩|⟨a,c,g,rfl,i,l,m,j,k,n⟩;have:qZ=[]:=s4 d;subst this;exact⟨Z,0,0,0,rfl,λh=>by simp at h,λh=>by simp at h,λf h=>by simp at h⟩;have e:=h.cells (g:=a) Y;refine⟨K ⟨a,0,Z⟩,a,0,c,rfl,λ_=>rfl,λ_=>(h.lt a Y).2,?_⟩;intro f b;have:=e _ _<|Fj b;rw[lO b];simpa [kQ] using this
def Wx:laidOutB (aH ax)=af:=aR
def Mz:(59:aP)<(aH ax).types.size:=of_decide_eq_true aR
def VM:(aH ax).keyTypeAt 2 59=af:=aR
def CG:Maps.Keyed (aH ax) 59:=aex (deep_law_laid Wx (m:=2) aa Mz VM<|by rw[aE.underlying59])
def Jc:sY (aH ax) 59=3:=aR
def RS:sY (aH ax) 4=1:=aR
def RU:sY (aH ax) 3=1:=aR
def RV:sY (aH ax) 9=1:=aR
def aaB(h:59<n):∃m,n=m+1:=⟨n-1,aa⟩
def aaA:∃m,(aH ax).types.size=m+1:=aaB Mz
def VI:(aH ax).keyType 59=af:=aR
def kl (a:aC):Lit:=.string<|keyBytes [.bool a.null,.int aM a.n,.string<|dY a.s.data]
def wf_i64(a: -9223372036854775808<=M)(b:M<=9223372036854775807):(Lit.int aM M).wf=af:=by
 simp[Lit.wf,IntKind.min,IntKind.max,IntKind.signed,IntKind.bits];omega
def Fy(a:aC)(h:jd a):keyOf (aH ax) 59 (bZ<|eC a)=K (kl a):=by
 have⟨m,c⟩:=aaA;have e:=wf_i64 h.lo h.hi;have d:bg a.s<=aV:=by have:=h.sz;unfold aV;omega
 have b:(bZ<|eC a).formed (aH ax) 59=af:=by simp[Value.formed,aE.underlying59,Jc]
 unfold keyOf;simp only[aE.underlying59,VI,b,Bool.and_self,if_true,c];unfold Program.keyLits;simp[aE.underlying59,Jc,RS,RU,RV,jn,Program.keyLits,aE.underlying4,aE.underlying3,aE.underlying9,e,d,kl]
def Ko{a b:aC}(hx:jd a)(hy:jd b)(h:kl a=kl b):a=b:=by
 have c:=CG.inj (Fy a hx)<|bV h<|Fy b hy;cases a;cases b;simp at c;simp[c]
def Kr(a:aC):WideAt.IsKeyLit (kl a):=trivial
def ins (a:List aC)(v:aC):List aC:=if idx a v<I a then a else a++[v]
def Kg(a:List aC)(b:aC)(e:List aC)(h:idx a b<I a):idx (a++e) b=idx a b:=by
 induction a with
 |nil=>simp at h
 |cons f g d=>
  simp only[idx,tV] at h ⊢;by_cases c:mV f b=af;simp[c];simp only[c] at h ⊢;have:=d<|cN h;simp[this]
def zS(a:List aC)(b:aC)(h:¬idx a b<I a)(v:aC):idx (a++[v]) b=if mV v b then I a else I a+1:=by
 induction a with
 |nil=>simp[idx]
 |cons e f d=>
  simp only[idx,tV] at h ⊢;by_cases c:mV e b=af;simp[c] at h;simp only[c] at h ⊢;have:=d<|cN h;rw[if_neg aI,this]
  split<;>simp
def CA(a:List aC)(v:aC):idx (ins a v) v=idx a v/\idx (ins a v) v<I (ins a v)/\(¬idx a v<I a->idx a v=I a):=by
 have d:=Vc a v;unfold ins;by_cases b:idx a v<I a;simp only[b,if_true];exact⟨trivial,trivial,λb=>absurd trivial b⟩;have c:mV v v=af:=tK.2 Y;have:=zS a v b v;rw[c] at this;simp only[b,if_false];simp at this;rw[this];refine⟨aa,aI,λ_=>aa⟩
def kI (s:List aC×List Nat)(v:aC):List aC×List Nat:=(ins s.1 v,s.2++[idx (ins s.1 v) v])
def dfold(a:List aC):List aC×List Nat:=a.foldl kI ([],[])
def dfold_succ{a:List aC}(h:n<I a):dfold (a.take<|n+1)=kI (dfold<|a.take n) a[n]:=by
 unfold dfold;rw[gm h,List.foldl_append];rfl
def Vo(a:List aC)(v:aC):I (ins a v)<=I a+1/\I a<=I (ins a v):=by
 unfold ins;split<;>simp
def Vp{b:List aC}{v a:aC}(h:a∈ins b v):a∈b\/a=v:=by
 unfold ins at h
 split at h
 exact av h;rcases eP.1 h with h|h;exact av h;exact ai<|cN h
def wE(b:List aC):∀a,a<=I b->(dfold<|b.take a).1.length<=a/\(dfold<|b.take a).2.length=a/\(∀e∈(dfold<|b.take a).2,e<(dfold<|b.take a).1.length)/\(∀f∈(dfold<|b.take a).1,f∈b):=by
 intro a
 induction a with
 |zero=>intro _;simp[dfold]
 |succ a l=>
  intro d;have⟨m,g,h,i⟩:=l aa;rw[dfold_succ<|by omega];have n:=Vo (dfold<|b.take a).1 b[a];have k:=CA (dfold<|b.take a).1 b[a];unfold kI;refine⟨bu,by simp[g],?_,?_⟩;intro e c;simp only at c ⊢;rcases eP.1 c with c|c
  .have:=h e c;omega
  .simp at c;rw[c];exact k.2.1
  .intro f j;rcases Vp j with d|d;exact i f d;rw[d];exact dm _
structure Knows(D:DataW Unit)(d:List aC):Prop where
 map:Maps.IsMap D
 has:∀x,jd x->Maps.has D (kl x)=decide (idx d x<I d)
 at_:∀x,jd x->idx d x<I d->D.atKey (kl x) (.lit<|.int aM 0)= .lit (.int aM (idx d x:Int))
def Knows.empty:Knows (.map []) []:=⟨Maps.isMap_empty,λb _=>by rfl,λb _ a=>by simp at a⟩
def Knows.put{D:DataW Unit}{b:List aC}(h:Knows D b)(v:aC)(k:jd v)(j:¬idx b v<I b):Knows (D.put (kl v)<|.lit<|.int aM (I b:Int)) (b++[v]):=by
 have l:mV v v=af:=tK.2 Y;refine⟨h.map.put _ _,?_,?_⟩
 .intro a e;by_cases c:a=v
  .subst c;rw[Maps.has_put_same h.map<|Kr a];have:=zS b a j a;rw[l] at this;simp at this;simp[this]
  .rw[Maps.has_put_other λf=>c<|Ko e k f,h.has a e];by_cases d:idx b a<I b
   .rw[Kg b a [v] d];simp;omega
   .rw[zS b a d v];have:mV v a=aj:=by
     rw[Bool.eq_false_iff];intro g;exact c<|bq<|tK.1 g
    rw[this];simp;omega
 .intro a e d;by_cases c:a=v
  .subst c;rw[Maps.atKey_put_same h.map<|Kr a];have:=zS b a j a;rw[l] at this;simp at this;rw[this]
  .rw[Maps.atKey_put_other λf=>c<|Ko e k f];by_cases i:idx b a<I b
   .rw[Kg b a [v] i];exact h.at_ a e i
   .exfalso
    rw[zS b a i v] at d;have:mV v a=aj:=by
     rw[Bool.eq_false_iff];intro g;exact c<|bq<|tK.1 g
    rw[this] at d;simp at d
def aE.mg:((aH ax).info? 59).map (λa=>(jH a,a.size,jm a))=K (K<|bZ #[ak aj,z9 0,ay ⟨#[]⟩],3,32):=aR
def ON:(zeroValue 3).run (aH ax) w=cm (z9 0) w:=aR
def tv(h:aT w n m k v i S):∃b a,v=ah b i a:=by
 rcases h.2 with⟨rfl,rfl⟩|⟨d,a,c,rfl,_⟩;exact⟨Z,0,rfl⟩;exact⟨_,_,rfl⟩
def lU(d:ag):∀(b:Nat) (c:F),[v,x,y][b]? =K c->ap (cG d<|aq #[v,x,y] Qd) ((⟨U d.heap,0,Z⟩:aL).add b)=K c:=by
 intro b c a
 match b,a with
 |0,a=>simp at a;subst a;simp[rQ]
 |1,a=>simp at a;subst a;simp[kQ]
 |2,a=>simp at a;subst a;simp[kQ]
def lz(a:aC):∀c∈[ak a.null,z9 a.n,ay a.s],m3 c=af:=by
 intro c b;simp at b;rcases b with rfl|rfl|rfl<;>rfl
def gq (b:Int)(a:List aC):List Nat:=bh (dfold a).1.length++(dQ b (dfold a).1++iM (wid (dfold a).1.length) (dfold a).2)
def ints (b:List Nat):List Int:=b.map fun(a:Nat)=>(a:Int)
def fV (a:aC):Int:=if a.null then 0 else 1
def there(a:List aC):List aC:=a.filter λb=> !b.null
def jB (c b:Int)(a:List aC):List Nat:=if b=1 then fG 0 a else if b=2 then gq c a else if b=3 then eV (a.map aC.n) else dQ c a
def g5 (c b:Int)(a:List aC):List Nat:=eV (a.map fV)++jB c b (there a)
def acK{a:List aC}{b:aC}(h:b∈there a):b∈a:=(List.mem_filter.1 h).1
def N5(a:List aC):I (there a)<=I a:=List.length_filter_le _ _
def acL(b:List aC)(a:Nat)(h:a<I b):there (b.take<|a+1)=if b[a].null then there (b.take a) else there (b.take a)++[b[a]]:=by
 unfold there;rw[gm h,List.filter_append];cases c:b[a].null<;>simp[c]
def WJ(b:List aC)(a:Nat)(h:a<I b):(b.take<|a+1).map fV=(b.take a).map fV++[fV b[a]]:=by
 rw[gm h,gD];rfl
def MT(a:List Int)(h:I a<=100):I (eV a)<=1100:=by
 have:=O_ (I a) a;unfold eV;omega
def MV(c:F)(b:List Int)(a:ag)(i:I b<=100)(h:iE a c b):
 bc 112 #[c] a λd j=>d=aN (ay<|strOf<|eV b)/\aD a j:=by
 obtain⟨k,l,n,m,rfl,e,f,g⟩:=h;exact R_ i e f g
def P9(m:n<=16)(t:I l<=100)(j:∀o∈l,o<2^n)(h:iE w v (ints l)):
 bc 138 #[v,z9 n] w λa p=>a=aN (ay<|strOf<|iM n l)/\aD w p:=by
 obtain⟨q,r,x,c,rfl,d,e,f⟩:=h;have u:I (ints l)=I l:=er _;have k:(ints l).map bO=l:=by
  unfold ints;rw[List.map_map,vZ (g:=id) λy _=>aI];simp
 have g:xV n (ints l)=af:=by
  apply Uh;intro b s;have i:b<I l:=aa;have a:(ints l)[b]=(l[b]:Int):=by simp[ints]
  have:=j _<|dm i;rw[a];unfold pw;omega
 have:=Rb c m (by omega) g d e f;rwa [k] at this
def Br{a:List aC}{b:aC}(h:idx a b<I a):tA a b=(idx a b:Int):=by unfold tA;rw[if_pos h]
def CZ{a:List aC}{b:aC}(h:¬idx a b<I a):tA a b= -1:=by unfold tA;rw[if_neg h]
def Cm{a:List aC×List Nat}{b:aC}(h:idx a.1 b<I a.1):kI a b=(a.1,a.2++[idx a.1 b]):=by
 unfold kI;have c:ins a.1 b=a.1:=by unfold ins;rw[if_pos h]
 rw[c]
def Cn{a:List aC×List Nat}{b:aC}(h:¬idx a.1 b<I a.1):kI a b=(a.1++[b],a.2++[I a.1]):=by
 have c:=CA a.1 b;unfold kI;rw[c.1,c.2.2 h];have d:ins a.1 b=a.1++[b]:=by unfold ins;rw[if_neg h]
 rw[d]
def YV{base:Nat}{a:List aC}{b:aC}(g:aT w base 59 3 v (I a+1) (bM a++[ak b.null,z9 b.n,ay b.s]))(f:¬idx a b<I a)(i:I a+1<=100):
 bc 136 #[v,bZ<|eC b] w λe h=>e=aN (n9<|I a)/\aD w h:=by
 rw[<-yG,<-yE] at g;have j:I (a++[b])=I a+1:=by simp
 have c:=Aa (a++[b]) v b w (je.gB (base:=base)<|by grind) (by omega);have d:=zS a b f b;rw[tK.2 Y,if_pos Y] at d;rw[Br<|by omega,d] at c;exact c
def Sk{b:List aC}(aw:M=1\/M=2\/M=3)(N:∀c∈b,jd c)(bh:I b<=100)(aH:je w v b):
 bc 113 #[v,z9 M,z9 0] w λa5 k=>a5=aN (ay<|strOf<|dQ M b)/\aD w k:=by
 have⟨bs,bd,bm,bo,br⟩:=eW aE.pN;have⟨aU,ao,aK,aQ,aR⟩:=eW aE.mg;obtain⟨ba,x,C,bb,rfl,q⟩:=aH;have R:=aA<|wE b
 skip
 go_enter aE.func113,Tryz.ntmps113;go_wp2_with fail
 go_loopw [7,8,9,10,11] (λa6 V a1 a0 B wr=>∃(a:Nat),a<=I b/\B=z9 a/\a6=ay (strOf<|dQ M<|b.take a)/\a1=aF/\a0=z9 0/\aT wr (U w.heap) 59 3 V (dfold<|b.take a).1.length (bM (dfold<|b.take a).1)/\aD w wr) (λ_ _ _ _ B _=>I b-bO (bB B))
 exact⟨0,cH _,rfl,rfl,rfl,rfl,iS _ _ _ _,bN _ _⟩;obtain⟨a,ar,rfl,rfl,rfl,rfl,n,z⟩:=hrel;have t:=aA z;have L:U w.heap<=U wr.heap:=z.size;have⟨ab,ad,ae,al⟩:=R.o a ar;by_cases i:a<I b
 .obtain rfl:=q.addr (by omega);have l:X (∀e,aD w e->bl e x (C+a*3) (ak b[a].null)/\bl e x (C+a*3+1) (z9 b[a].n)/\bl e x (C+a*3+2) (ay b[a].s)):=λe y=>
   ⟨(q.below y).c0 a i,(q.below y).c1 a i,(q.below y).c2 a i⟩
  have⟨bv,bx,bz⟩:=l.o wr z;have H:=aA<|N _<|dm i;have D:X (dfold (b.take<|a+1)=kI (dfold<|b.take a) b[a]):=dfold_succ i;have S:X (dQ M (b.take<|a+1)=dQ M (b.take a)++dc M b[a]):=LU i;have bi:(strOf<|dQ M<|b.take a).size<=4200:=by
   have:=CY M (b.take a) λc aI=>N c<|xz aI;rw[ng] at this;rw[Pk.jf];omega
  generalize b[a]=c at*;generalize dfold (b.take a)=T at*;have⟨d,r⟩:=T;simp only at ab ad ae al n;have bj:(strOf<|dc M c).size<=42:=by rw[Pk.jf];exact yj M c H.o.sz
  have E:X (∀e,bc 134 #[bZ<|eC c,z9 M] e λf k=>f=aN (ay<|strOf<|dc M c)/\aD e k):=λe=>CX c M e aw H.o;have G:X (strOf (dQ M<|b.take<|a+1)=strOf (dQ M<|b.take a)++strOf (dc M c)):=by show _=_;rw[S.o,n4]
  generalize strOf (dQ M<|b.take a)=P at*;generalize strOf (dc M c)=a8 at*;have m:X (bc 136 #[u8,bZ<|eC c] wr λf k=>f=aN (z9<|tA d c)/\aD wr k):=Aa d u8 c wr (je.gB n) aa;by_cases p:idx d c<I d
  .have u:X (kI (d,r) c=(d,r++[idx d c])):=Cm p;rw[(Br p)] at m;generalize idx d c=a9 at*;go_wp2_with fail;refine m.o.mono ?_;rintro f s ⟨rfl,g⟩;have h:=fN t.o<|g.mono L;have⟨a2,a3,a4⟩:=l.o s h;have o:=fc n g;have aG:=g.size;go_wp2_with first
    |(go_at_call 134;refine(E.o _).mono ?_;rintro f a7 ⟨rfl,j⟩)
   go_roundw
   exact⟨a+1,by omega,by go_num,by rw[G.o],rfl,rfl,by rw[D.o,u.o];exact fc o j,fN h<|j.mono h.size⟩;simp[bB];omega
  have u:X (kI (d,r) c=(d++[c],r++[I d])):=Cn p;rw[(CZ p)] at m;go_wp2_with fail;refine m.o.mono ?_;rintro f s ⟨rfl,g⟩;have h:=fN t.o<|g.mono L;have⟨a2,a3,a4⟩:=l.o s h;have o:=fc n g;have aG:=g.size;go_wp2_with first
   |(at_builtin;refine jR Y _ _ 43 Y (U w.heap) 59 aU _ 3 32 aE.underlying43 ao aK aQ aR Y az _ (I d) _ Y (lE o _) ⟨U s.heap,0,Z⟩ 1 1 [ak c.null,z9 c.n,ay c.s] Y az Y (lU _) (lz c) (by unfold aV;omega) aa bS ?_;intro bH O K an;have J:=dx.append an;have A:aD w O:=fN h<|J.below (λW am=>(o.lt W am).1) h.size;have⟨bC,bD,bF⟩:=l.o O A;have bk:=J.dK.size)
   |(go_at_call 134;refine(E.o _).mono ?_;rintro f a7 ⟨rfl,j⟩)
  rw[<-yG,<-yE] at K
  go_roundw
  exact⟨a+1,by omega,by go_num,by rw[G.o],rfl,rfl,by rw[D.o,u.o];simpa using fc K j,fN A<|j.mono A.size⟩;simp[bB];omega
 have be:b.take a=b:=iF aa;have Q:X (strOf (dQ M<|b.take a)=strOf (dQ M b)):=bu;generalize strOf (dQ M<|b.take a)=P at*;go_wp2;go_ret;exact⟨by rw[<-Q.o];rfl,t.o⟩
def Sl{b:List aC}(bx:M=1\/M=2\/M=3)(aQ:∀c∈b,jd c)(bC:I b<=100)(aR:je w v b):
 bc 113 #[v,z9 M,z9 1] w λa9 k=>a9=aN (ay<|strOf<|fG 0 b)/\aD w k:=by
 have⟨bT,bs,bL,bP,bQ⟩:=eW aE.pN;have⟨a3,aH,a0,a1,a2⟩:=eW aE.mg;obtain⟨bm,z,D,bo,rfl,s⟩:=aR;have W:=aA<|wE b
 skip
 go_enter aE.func113,Tryz.ntmps113;go_wp2_with fail
 go_loopw [7,8,9,10,11] (λbe ae a5 a4 C wr=>∃(a:Nat),a<=I b/\C=z9 a/\be=ay (strOf<|fG 0<|b.take a)/\a5=aF/\a4=z9 (fQ 0<|b.take a)/\aT wr (U w.heap) 59 3 ae (dfold<|b.take a).1.length (bM (dfold<|b.take a).1)/\aD w wr) (λ_ _ _ _ C _=>I b-bO (bB C))
 exact⟨0,cH _,rfl,rfl,rfl,rfl,iS _ _ _ _,bN _ _⟩;obtain⟨a,aI,rfl,rfl,rfl,rfl,p,B⟩:=hrel;have x:=aA B;have P:U w.heap<=U wr.heap:=B.size;have⟨am,an,ao,ar⟩:=W.o a aI;by_cases m:a<I b
 .obtain rfl:=s.addr (by omega);have l:X (∀d,aD w d->bl d z (D+a*3) (ak b[a].null)/\bl d z (D+a*3+1) (z9 b[a].n)/\bl d z (D+a*3+2) (ay b[a].s)):=λd A=>
   ⟨(s.below A).c0 a m,(s.below A).c1 a m,(s.below A).c2 a m⟩
  have⟨bV,bW,b0⟩:=l.o wr B;have G:X (dfold (b.take<|a+1)=kI (dfold<|b.take a) b[a]):=dfold_succ m;have ab:X (fG 0 (b.take<|a+1)=fG 0 (b.take a)++bh (zz<|cY<|b[a].n-fQ 0 (b.take a))):=by show _=_;rw[gm m,ET]
  have H:X (fQ 0 (b.take<|a+1)=b[a].n):=by show _=_;rw[gm m,FO]
  have bD:(strOf<|fG 0<|b.take a).size<=1000:=by
   have:=Jz 0<|b.take a;rw[ng] at this;rw[Pk.jf];omega
  have⟨bz,br⟩:=Wy (b.take a) (λc aU=>aQ c<|xz aU) 0 aa aa;generalize b[a]=c at*;generalize dfold (b.take a)=ad at*;have⟨e,t⟩:=ad;simp only at am an ao ar p;generalize fQ 0 (b.take a)=g at*;have⟨Q,R⟩:=uF<|c.n-g;have bK:=sM 10<|zz<|cY<|c.n-g;have bF:(strOf<|bh<|zz<|cY<|c.n-g).size<=10:=by rw[Pk.jf];unfold bh;omega
  have L:X (∀d,bc 137 #[z9<|cY<|c.n-g] d λf k=>f=aN (aJ .u64<|zz<|cY<|c.n-g)/\k=d):=λd=>OP Q R d;have K:X (∀d,bc 133 #[aJ .u64<|zz<|cY<|c.n-g] d λf k=>f=aN (ay<|strOf<|bh<|zz<|cY<|c.n-g)/\aD d k):=λd=>Ay _ d<|vJ Q R;have J:X (strOf (fG 0<|b.take<|a+1)=strOf (fG 0<|b.take a)++strOf (bh<|zz<|cY<|c.n-g)):=by show _=_;rw[ab.o,n4]
  generalize strOf (fG 0<|b.take a)=T at*;generalize strOf (bh<|zz<|cY<|c.n-g)=bj at*;have o:X (bc 136 #[u8,bZ<|eC c] wr λf k=>f=aN (z9<|tA e c)/\aD wr k):=Aa e u8 c wr (je.gB p) aa;by_cases r:idx e c<I e
  .have y:X (kI (e,t) c=(e,t++[idx e c])):=Cm r;rw[(Br r)] at o;generalize idx e c=bk at*;go_wp2_with fail;refine o.o.mono ?_;rintro f u ⟨rfl,i⟩;have h:=fN x.o<|i.mono P;have⟨a6,a7,a8⟩:=l.o u h;have q:=fc p i;have aK:=i.size;go_wp2_with first
    |(go_at_call 137;refine(L.o _).mono ?_;rintro f bi ⟨rfl,rfl⟩)
    |(go_at_call 133;refine(K.o _).mono ?_;rintro f E ⟨rfl,j⟩;have⟨ba,bb,bd⟩:=l.o E<|fN h<|j.mono h.size)
   go_roundw
   exact⟨a+1,by omega,by go_num,by rw[J.o],rfl,by rw[H.o],by rw[G.o,y.o];exact fc q j,fN h<|j.mono h.size⟩;simp[bB];omega
  have y:X (kI (e,t) c=(e++[c],t++[I e])):=Cn r;rw[(CZ r)] at o;go_wp2_with fail;refine o.o.mono ?_;rintro f u ⟨rfl,i⟩;have h:=fN x.o<|i.mono P;have⟨a6,a7,a8⟩:=l.o u h;have q:=fc p i;have aK:=i.size;go_wp2_with first
   |(at_builtin;refine jR Y _ _ 43 Y (U w.heap) 59 a3 _ 3 32 aE.underlying43 aH a0 a1 a2 Y az _ (I e) _ Y (lE q _) ⟨U u.heap,0,Z⟩ 1 1 [ak c.null,z9 c.n,ay c.s] Y az Y (lU _) (lz c) (by unfold aV;omega) aa bS ?_;intro b4 S O aG;have N:=dx.append aG;have n:aD w S:=fN h<|N.below (λal aw=>(q.lt al aw).1) h.size;have⟨b1,b2,b3⟩:=l.o S n;have bH:=N.dK.size)
   |(go_at_call 137;refine(L.o _).mono ?_;rintro f bi ⟨rfl,rfl⟩)
   |(go_at_call 133;refine(K.o _).mono ?_;rintro f E ⟨rfl,j⟩;have⟨ba,bb,bd⟩:=l.o E<|fN n<|j.mono n.size)
  rw[<-yG,<-yE] at O
  go_roundw
  exact⟨a+1,by omega,by go_num,by rw[J.o],rfl,by rw[H.o],by rw[G.o,y.o];simpa using fc O j,fN n<|j.mono n.size⟩;simp[bB];omega
 have bv:b.take a=b:=iF aa;have V:X (strOf (fG 0<|b.take a)=strOf (fG 0 b)):=bu;generalize fQ 0 (b.take a)=g at*;generalize strOf (fG 0<|b.take a)=T at*;go_wp2;go_ret;exact⟨by rw[<-V.o];rfl,x.o⟩
def So{b:List aC}(br:M=1\/M=2\/M=3)(bz:∀c∈b,jd c)(bv:I b<=100)(a4:je w v b):
 bc 113 #[v,z9 M,z9 3] w λbe p=>be=aN (ay<|strOf<|eV<|b.map aC.n)/\aD w p:=by
 have⟨am,W,ad,ae,al⟩:=eW aE.pN;have⟨a8,a0,a5,a6,a7⟩:=eW aE.mg;obtain⟨bm,D,P,bo,rfl,z⟩:=a4;have ar:=aA<|wE b
 skip
 go_enter aE.func113,Tryz.ntmps113;go_wp2_with fail
 go_loopw [7,8,9,10,11] (λbh V an a9 O wr=>∃(a:Nat),a<=I b/\O=z9 a/\bh=ay ⟨#[]⟩/\aT wr (U w.heap) 3 1 an a (cO<|(b.take a).map aC.n)/\Apart V an/\a9=z9 0/\aT wr (U w.heap) 59 3 V (dfold<|b.take a).1.length (bM (dfold<|b.take a).1)/\aD w wr) (λ_ _ _ _ O _=>I b-bO (bB O))
 exact⟨0,cH _,rfl,rfl,iS _ _ _ _,av Y,rfl,iS _ _ _ _,bN _ _⟩;obtain⟨a,a2,rfl,rfl,K,t,rfl,u,G⟩:=hrel;have B:=aA G;have N:U w.heap<=U wr.heap:=G.size;have⟨aH,aK,aQ,aR⟩:=ar.o a a2;by_cases n:a<I b;obtain rfl:=z.addr aa;have r:X (∀i,aD w i->bl i D (P+a*3) (ak b[a].null)/\bl i D (P+a*3+1) (z9 b[a].n)/\bl i D (P+a*3+2) (ay b[a].s)):=λi E=>
  ⟨(z.below E).c0 a n,(z.below E).c1 a n,(z.below E).c2 a n⟩
 have⟨bC,bD,bF⟩:=r.o wr G;have R:X (dfold (b.take<|a+1)=kI (dfold<|b.take a) b[a]):=dfold_succ n;have S:X ((b.take<|a+1).map aC.n=(b.take a).map aC.n++[b[a].n]):=by show _=_;rw[gm n,gD];rfl
 generalize b[a]=c at*;generalize dfold (b.take a)=aF at*;have⟨d,A⟩:=aF;simp only at aH aK aQ aR u;have s:X (bc 136 #[u8,bZ<|eC c] wr λh p=>h=aN (z9<|tA d c)/\aD wr p):=Aa d u8 c wr (je.gB u) aa;by_cases y:idx d c<I d;have C:X (kI (d,A) c=(d,A++[idx d c])):=Cm y;rw[(Br y)] at s;generalize idx d c=bk at*;go_wp2_with fail;refine s.o.mono ?_;rintro h q ⟨rfl,e⟩;have f:=fN B.o<|e.mono N;have⟨ba,bb,bd⟩:=r.o q f;have k:=fc u e;have a3:=e.size;have m:=fc K e;go_wp2_with first
  |(at_builtin;refine jR Y _ _ 22 Y (U w.heap) 3 am (z9 0) 1 8 aE.underlying22 W ad ae al Y az _ a _ Y (lE m _) ⟨U q.heap,0,Z⟩ 1 1 [z9 c.n] Y az Y (pU _) vq (by unfold aV;omega) (by omega) (by simp;omega) ?_;intro bj ao o J)
 have g:=dx.append J;rw[tq] at o;refine⟨⟨a+1,aa,aI,rfl,bV S.o o,t.oX k g,rfl,by rw[R.o,C.o];exact js k g t,fN f<|g.below (λj l=>(m.lt j l).1) f.size⟩,by simp[bB];omega⟩;have C:X (kI (d,A) c=(d++[c],A++[I d])):=Cn y;rw[(CZ y)] at s;go_wp2_with fail;refine s.o.mono ?_;rintro h q ⟨rfl,e⟩;have f:=fN B.o<|e.mono N;have⟨ba,bb,bd⟩:=r.o q f;have k:=fc u e;have a3:=e.size;have m:=fc K e;go_wp2_with first
  |(at_builtin;refine jR Y _ _ 43 Y (U w.heap) 59 a8 _ 3 32 aE.underlying43 a0 a5 a6 a7 Y az _ (I d) _ Y (lE k _) ⟨U q.heap,0,Z⟩ 1 1 [ak c.null,z9 c.n,ay c.s] Y az Y (lU _) (lz c) (by unfold aV;omega) aa bS ?_;intro bi Q L aU;have x:=dx.append aU;have H:aD w Q:=fN f<|x.below (λj l=>(k.lt j l).1) f.size;have⟨bH,bK,bL⟩:=r.o Q H;have bx:=x.dK.size;have ab:=js m x t.symm)
  |(at_builtin;refine jR Y _ _ 22 Y (U w.heap) 3 am (z9 0) 1 8 aE.underlying22 W ad ae al Y az _ a _ Y (lE ab _) ⟨U Q.heap,0,Z⟩ 1 1 [z9 c.n] Y az Y (pU _) vq (by unfold aV;omega) (by omega) (by simp;omega) ?_;intro bj ao o J)
 rw[<-yG,<-yE] at L;have g:=dx.append J;have T:Apart bi u9:=(t.symm.oX m x).symm;rw[tq] at o;refine⟨⟨a+1,aa,aI,rfl,bV S.o o,T.oX L g,rfl,by rw[R.o,C.o];simpa using js L g T,fN H<|g.below (λj l=>(ab.lt j l).1) H.size⟩,by simp[bB];omega⟩;have a1:b.take a=b:=iF aa;rw[a1] at K;have bs:I (b.map aC.n)=I b:=er _;have aw:X (bc 112 #[u9] wr λh p=>h=aN (ay<|strOf<|eV<|b.map aC.n)/\aD wr p):=
  MV u9 (b.map aC.n) wr aa (iE.gB (base:=U w.heap) bu)
 go_wp2_with (go_at_call 112;refine aw.o.mono ?_;rintro h ao ⟨rfl,aG⟩);go_ret;exact⟨rfl,fN B.o<|aG.mono N⟩
def Sn{d:List aC}(b3:M=1\/M=2\/M=3)(a8:∀c∈d,jd c)(c5:I d<=100)(cf:je w v d):
 bc 113 #[v,z9 M,z9 2] w λcy i=>cy=aN (ay<|strOf<|gq M d)/\aD w i:=by
 have⟨bd,a7,a9,ba,bb⟩:=eW aE.pN;have⟨cn,b0,ci,ck,cl⟩:=eW aE.mg;obtain⟨cZ,am,aQ,c1,rfl,R⟩:=cf;have bs:=aA<|wE d
 skip
 go_enter aE.func113,Tryz.ntmps113;go_wp2_with fail
 go_loopw [7,8,9,10,11] (λaR a3 be co o wr=>∃(b:Nat),b<=I d/\o=z9 b/\aR=ay ⟨#[]⟩/\aT wr (U w.heap) 3 1 be b (cO<|ints (dfold<|d.take b).2)/\Apart a3 be/\co=z9 0/\aT wr (U w.heap) 59 3 a3 (dfold<|d.take b).1.length (bM (dfold<|d.take b).1)/\aD w wr) (λ_ _ _ _ o _=>I d-bO (bB o))
 exact⟨0,cH _,rfl,rfl,iS _ _ _ _,av Y,rfl,iS _ _ _ _,bN _ _⟩;obtain⟨b,b2,rfl,rfl,B,O,rfl,m,an⟩:=hrel;have ab:=aA an;have aH:U w.heap<=U wr.heap:=an.size;have⟨a5,ar,aw,a6⟩:=bs.o b b2;by_cases D:b<I d
 .obtain rfl:=R.addr (by omega);have H:X (∀e,aD w e->bl e am (aQ+b*3) (ak d[b].null)/\bl e am (aQ+b*3+1) (z9 d[b].n)/\bl e am (aQ+b*3+2) (ay d[b].s)):=λe s=>
   ⟨(R.below s).c0 b D,(R.below s).c1 b D,(R.below s).c2 b D⟩
  have⟨cq,cr,cs⟩:=H.o wr an;have ae:=aA<|a8 _<|dm D;have J:X (dfold (d.take<|b+1)=kI (dfold<|d.take b) d[b]):=dfold_succ D;generalize d[b]=c at*;generalize dfold (d.take b)=al at*;have⟨a,h⟩:=al;simp only at a5 ar aw a6 m B;have L:X (bc 136 #[u8,bZ<|eC c] wr λf i=>f=aN (z9<|tA a c)/\aD wr i):=Aa a u8 c wr (je.gB m) aa;by_cases A:idx a c<I a
  .have q:X (kI (a,h) c=(a,h++[idx a c])):=Cm A;have K:=Br A;rw[K] at L;generalize idx a c=N at*;go_wp2_with fail;refine L.o.mono ?_;rintro f p ⟨rfl,k⟩;have l:=fN ab.o<|k.mono aH;have⟨cu,cv,cx⟩:=H.o p l;have x:=fc m k;have ca:=k.size;have Q:=fc B k;have bu:X (bc 136 #[u8,bZ<|eC c] p λf i=>f=aN (n9 N)/\aD p i):=by
    have a4:=Aa a u8 c p (je.gB x) aa;rw[K] at a4;exact a4
   go_wp2_with first
    |(go_at_call 136;refine bu.o.mono ?_;rintro f T ⟨rfl,j⟩;have C:=fc Q j;have cc:=j.size;have u:=fN l<|j.mono l.size)
    |(at_builtin;refine jR Y _ _ 22 Y (U w.heap) 3 bd (z9 0) 1 8 aE.underlying22 a7 a9 ba bb Y az _ b _ Y (lE C _) ⟨U T.heap,0,Z⟩ 1 1 [n9 N] Y az Y (pU _) vq (by unfold aV;omega) (by omega) (by simp;omega) ?_;intro cK cM E aF)
   have n:=dx.append aF;have y:=fc x j;rw[tq] at E;refine⟨⟨b+1,by omega,aI,rfl,?_,O.oX y n,rfl,by rw[J.o,q.o];exact js y n O,fN u<|n.below (λr z=>(C.lt r z).1) u.size⟩,by simp[bB];omega⟩;rw[J.o,q.o];simp only;rw[show ints (h++[N])=ints h++[(N:Int)] from by simp[ints]];exact E
  .have q:X (kI (a,h) c=(a++[c],h++[I a])):=Cn A;have K:=CZ A;rw[K] at L;go_wp2_with fail;refine L.o.mono ?_;rintro f p ⟨rfl,k⟩;have l:=fN ab.o<|k.mono aH;have⟨cu,cv,cx⟩:=H.o p l;have x:=fc m k;have ca:=k.size;have Q:=fc B k;have bT:I a+1<=100:=aa;go_wp2_with first
    |(at_builtin;refine jR Y _ _ 43 Y (U w.heap) 59 cn _ 3 32 aE.underlying43 b0 ci ck cl Y az _ (I a) _ Y (lE x _) ⟨U p.heap,0,Z⟩ 1 1 [ak c.null,z9 c.n,ay c.s] Y az Y (lU _) (lz c) (by unfold aV;omega) aa bS ?_;intro cA bk aG bW;have P:=dx.append bW;have ao:aD w bk:=fN l<|P.below (λr z=>(x.lt r z).1) l.size;have⟨db,dd,de⟩:=H.o bk ao;have c8:=P.dK.size;have b4:=js Q P O.symm;have bv:=aA<|YV aG A bT)
    |(go_at_call 136;refine bv.o.mono ?_;rintro f T ⟨rfl,j⟩;have C:=fc b4 j;have cc:=j.size;have u:=fN ao<|j.mono ao.size)
    |(at_builtin;refine jR Y _ _ 22 Y (U w.heap) 3 bd (z9 0) 1 8 aE.underlying22 a7 a9 ba bb Y az _ b _ Y (lE C _) ⟨U T.heap,0,Z⟩ 1 1 [n9<|I a] Y az Y (pU _) vq (by unfold aV;omega) (by omega) (by simp;omega) ?_;intro cK cM E aF)
   rw[<-yG,<-yE] at aG;have n:=dx.append aF;have a1:Apart cA u9:=(O.symm.oX Q P).symm;have y:=fc aG j;rw[tq] at E;refine⟨⟨b+1,by omega,aI,rfl,?_,a1.oX y n,rfl,by rw[J.o,q.o];simpa using js y n a1,fN u<|n.below (λr z=>(C.lt r z).1) u.size⟩,by simp[bB];omega⟩;rw[J.o,q.o];simp only;rw[show ints (h++[I a])=ints h++[(I a:Int)] from by simp[ints]];exact E
 .have b1:d.take b=d:=iF aa;have a0:X (gq M d=bh (dfold<|d.take b).1.length++(dQ M (dfold<|d.take b).1++iM (wid (dfold<|d.take b).1.length) (dfold<|d.take b).2)):=by show _=_;rw[b1];rfl
  have ad:X (∀c∈(dfold<|d.take b).1,jd c):=λc aK=>a8 c<|a6 c aK
  rename ag=>aU
  generalize dfold (d.take b)=al at*;have⟨a,h⟩:=al;simp only at a5 ar aw m B a0 ad;obtain⟨bK,c3,rfl⟩:=tv m;have bD:X (∃a2 bi,wu aU bK a2 bi a):=by
   have⟨c0,bH,cp,c2,bV,b6⟩:=je.gB m;cases bV;exact⟨bH,cp,b6⟩
  have ch:=AB<|I a;have bm:X (∀e,aD aU e->bc 138 #[u9,z9 (wid (I a):Nat)] e λf i=>f=aN (ay<|strOf<|iM (wid<|I a) h)/\aD e i):=λe s=>
   P9 (by omega) (by omega) (λbj b5=>AA (by omega) bj<|aw bj b5) (iE.gB (base:=U w.heap) (by
    have:=fc B s;unfold ints at this ⊢;rw[er,ar];exact this))
  have bF:X (∀e,bc 110 #[n9<|I a] e λf i=>f=aN (z9<|wid<|I a)/\i=e):=λe=>Oy (I a) aa e;have bC:X (∀e,bc 133 #[aJ .u64 (I a:Int)] e λf i=>f=aN (ay<|strOf<|bh<|I a)/\aD e i):=λe=>Ay (I a) e aa;have c6:(strOf<|iM (wid<|I a) h).size<=1000:=by
   rw[Pk.jf,wN];have:I h*wid (I a)<=100*7:=s8 aa ch;omega
  have da:=sM 10<|I a;go_wp2_with (go_at_call 133;refine(bC.o _).mono ?_;rintro f T ⟨rfl,j⟩)
  go_loopw [7,12] (λaR o cW=>∃(g:Nat),g<=I a/\o=z9 g/\aR=ay (strOf<|bh (I a)++dQ M (a.take g))/\aD aU cW) (λ_ o _=>I a-bO (bB o))
  exact⟨0,cH _,rfl,by simp[dQ],j⟩;obtain⟨g,c9,rfl,rfl,t⟩:=hrel;have bQ:=t.size;have c4:(strOf<|bh (I a)++dQ M (a.take g)).size<=4300:=by
   have:=CY M (a.take g) λc aK=>ad.o c<|xz aK;rw[ng] at this;rw[Pk.jf,cJ];unfold bh;omega
  by_cases G:g<I a
  .have⟨a2,bi,b7⟩:=bD.o;have S:=b7.below t;obtain rfl:=S.addr aa;have cq:=S.c0 g G;have cr:=S.c1 g G;have cs:=S.c2 g G;have ae:=aA<|ad.o _<|dm G;have bz:X (strOf (bh (I a)++dQ M (a.take<|g+1))=strOf (bh (I a)++dQ M (a.take g))++strOf (dc M a[g])):=by
    show _=_;rw[LU G,<-ij,n4]
   generalize a[g]=c at*;have c7:(strOf<|dc M c).size<=42:=by rw[Pk.jf];exact yj M c ae.o.sz
   have bx:X (∀e,bc 134 #[bZ<|eC c,z9 M] e λf i=>f=aN (ay<|strOf<|dc M c)/\aD e i):=λe=>CX c M e b3 ae.o;generalize strOf (bh (I a)++dQ M (a.take g))=V at*;generalize strOf (dc M c)=W at*;have b8:¬ 9223372036854775807<V.size+W.size:=aa;go_wp2_with (go_at_call 134;refine(bx.o _).mono ?_;rintro f cN ⟨rfl,bL⟩)
   go_roundw
   case rel=>exact⟨g+1,aa,by go_num,by rw[bz.o],fN t<|bL.mono bQ⟩
   case measure=>simp[bB];omega
  have cd:a.take g=a:=iF aa;have br:X (strOf (gq M d)=strOf (bh (I a)++dQ M (a.take g))++strOf (iM (wid<|I a) h)):=by
   show _=_;rw[cd,a0.o,<-ij,n4]
  generalize strOf (bh (I a)++dQ M (a.take g))=V at*;have bo:=aA<|bm.o wr t;generalize strOf (iM (wid<|I a) h)=W at*;have b8:¬ 9223372036854775807<V.size+W.size:=aa;go_wp2_with first
   |(go_at_call 110;refine(bF.o _).mono ?_;rintro f cN ⟨rfl,rfl⟩)
   |(go_at_call 138;refine bo.o.mono ?_;rintro f df ⟨rfl,bP⟩)
  go_ret;exact⟨by rw[br.o];rfl,fN (fN ab.o<|t.mono aH)<|bP.mono aa⟩
def Sq(i:F)(g:List aC)(b a:Int)(h:ag)(c:b=1\/b=2\/b=3)(j:a=0\/a=1\/a=2\/a=3)(e:∀m∈g,jd m)(d:I g<=100)(f:je h i g):
 bc 113 #[i,z9 b,z9 a] h λk l=>k=aN (ay<|strOf<|jB b a g)/\aD h l:=by
 rcases j with rfl|rfl|rfl|rfl;exact Sk c e d f;exact Sl c e d f;exact Sn c e d f;exact So c e d f
def Sp(c e:Int)(a:List aC)(h:∀b∈a,jd b)(m:I a<=100):I (jB c e a)<=100000:=by
 unfold jB
 split
 have:=Jz 0 a;omega
 split
 unfold gq;have d:=wE a (I a)<|aZ _;rw[jq] at d;have⟨j,k,l,f⟩:=d;have o:=CY c (dfold a).1 λb i=>h b<|f b i;have p:=sM 10 (dfold a).1.length;have g:=AB (dfold a).1.length;have n:(dfold a).2.length*wid (dfold a).1.length<=100*7:=s8 aa g;rw[cJ,cJ,wN];unfold bh;omega
 split
 have:=MT (a.map aC.n) bu;omega;have:=CY c a h;omega
def R8(a:List aC)(e c:Int)(f:ag)(aR:e=1\/e=2\/e=3)(aG:c=0\/c=1\/c=2\/c=3)(a1:∀d∈a,jd d)(bm:I a<=100)(a2:je f v a):
 bc 75 #[v,z9 e,z9 c] f λK s=>K=aN (ay<|strOf<|g5 e c a)/\aD f s:=by
 have⟨ab,O,T,V,W⟩:=eW aE.pN;have⟨a6,aK,a3,a4,a5⟩:=eW aE.mg;obtain⟨be,C,J,bh,rfl,x⟩:=a2
 skip
 go_enter aE.func75,Tryz.ntmps75;go_wp2_with fail
 go_loopw [7,8,9] (λad ae H wr=>∃(b:Nat),b<=I a/\H=z9 b/\aT wr (U f.heap) 3 1 ad b (cO<|(a.take b).map fV)/\aT wr (U f.heap) 59 3 ae (I<|there<|a.take b) (bM<|there<|a.take b)/\Apart ad ae/\aD f wr) (λ_ _ H _=>I a-bO (bB H))
 exact⟨0,cH _,rfl,iS _ _ _ _,iS _ _ _ _,av Y,bN _ _⟩;obtain⟨b,bj,rfl,q,j,u,w⟩:=hrel;have z:=aA w;have y:U f.heap<=U wr.heap:=w.size;have br:I (there<|a.take b)<=b:=by have:=N5<|a.take b;rw[ng] at this;omega
 by_cases p:b<I a;obtain rfl:=x.addr aa;have k:X (∀g,aD f g->bl g C (J+b*3) (ak a[b].null)/\bl g C (J+b*3+1) (z9 a[b].n)/\bl g C (J+b*3+2) (ay a[b].s)):=λg m=>
  ⟨(x.below m).c0 b p,(x.below m).c1 b p,(x.below m).c2 b p⟩
 have M:=acL a b p;have L:=aA<|WJ a b p;generalize a[b]=d at*;cases i:d.null
 .rw[i] at M k;have⟨a7,a8,a9⟩:=k.o wr w;have B:X (there (a.take<|b+1)=there (a.take b)++[d]):=bu;have A:X (fV d=1):=by show _=_;unfold fV;rw[i];rfl
  have aF:bM [d]=[ak aj,z9 d.n,ay d.s]:=by rw[yG,i]
  have ar:∀ba∈[ak aj,z9 d.n,ay d.s],m3 ba=af:=by have:=lz d;rwa [i] at this
  go_wp2_with (first
   |(at_builtin;refine jR Y _ _ 22 Y (U f.heap) 3 ab (z9 0) 1 8 aE.underlying22 O T V W Y az _ b _ Y (lE q _) ⟨U wr.heap,0,Z⟩ 1 1 [z9 1] Y az Y (pU _) vq (by unfold aV;omega) (by omega) (by simp;omega) ?_;intro al t r G;have h:=dx.append G;have n:aD f t:=fN z.o<|h.below (λl o=>(q.lt l o).1) y;have⟨bz,bC,bD⟩:=k.o t n;have R:=js j h u.symm;have bo:=h.dK.size)
   |(at_builtin;refine jR Y _ _ 43 Y (U f.heap) 59 a6 _ 3 32 aE.underlying43 aK a3 a4 a5 Y az _ _ _ Y (lE R _) ⟨U t.heap,0,Z⟩ 1 1 [ak aj,z9 d.n,ay d.s] Y az Y (lU _) ar (by unfold aV;omega) aa bS ?_;intro bF bK Q aH))
  have E:=dx.append aH;have N:Apart al u8:=(u.symm.oX j h).symm;have P:=js r E N;rw[tq] at P;rw[<-aF,<-yE] at Q;refine⟨⟨b+1,aa,by simp,by rw[L.o,A.o];exact P,by rw[B.o];simpa using Q,N.oX r E,fN n<|E.below (λl o=>(R.lt l o).1) n.size⟩,by simp[bB];omega⟩
 rw[i] at M k;have⟨a7,a8,a9⟩:=k.o wr w;have B:X (there (a.take<|b+1)=there (a.take b)):=bu;have A:X (fV d=0):=by show _=_;unfold fV;rw[i];rfl
 go_wp2_with (at_builtin;refine jR Y _ _ 22 Y (U f.heap) 3 ab (z9 0) 1 8 aE.underlying22 O T V W Y az _ b _ Y (lE q _) ⟨U wr.heap,0,Z⟩ 1 1 [z9 0] Y az Y (pU _) vq (by unfold aV;omega) (by omega) (by simp;omega) ?_;intro al t r G);have h:=dx.append G;rw[tq] at r;refine⟨⟨b+1,aa,aI,by rw[L.o,A.o];exact r,bV B.o<|js j h u.symm,(u.symm.oX j h).symm,fN z.o<|h.below (λl o=>(q.lt l o).1) y⟩,by simp[bB];omega⟩;have bi:b=I a:=aa;have aQ:a.take b=a:=iF aa;rw[aQ] at q j;have bk:(I<|a.map fV)=I a:=er _;have aU:aT wr (U f.heap) 3 1 u7 (I<|a.map fV) (cO<|a.map fV):=bu;have S:∀d∈there a,jd d:=λd i=>a1 d<|acK i;have bs:=N5 a;have a0:=MT (a.map fV) aa;have aw:=Sp e c (there a) S aa;have am:X (bc 112 #[u7] wr λc s=>c=aN (ay<|strOf<|eV<|a.map fV)/\aD wr s):=MV u7 (a.map fV) wr aa<|iE.gB aU;have an:X (∀g,aD wr g->bc 113 #[u8,z9 e,z9 c] g λK s=>K=aN (ay<|strOf<|jB e c<|there a)/\aD g s):=λg m=>
  Sq u8 (there a) e c g aR aG S aa (je.gB<|fc j m)
 have ao:X (strOf (g5 e c a)=strOf (eV<|a.map fV)++strOf (jB e c<|there a)):=n4 _;have bv:(strOf<|eV<|a.map fV).size<=1100:=by rw[Pk.jf];exact a0
 have bx:(strOf<|jB e c<|there a).size<=100000:=by rw[Pk.jf];exact aw
 generalize strOf (eV<|a.map fV)=bb at*;generalize strOf (jB e c<|there a)=bd at*;go_wp2_with first
  |(go_at_call 112;refine am.o.mono ?_;rintro c bH ⟨rfl,D⟩)
  |(go_at_call 113;refine(an.o _ D).mono ?_;rintro c t ⟨rfl,n⟩)
 go_ret;exact⟨gG ao.o,fN (fN z.o<|D.mono y)<|n.mono<|dW y D.size⟩
structure BY(v:aC):Prop where
 lo: -9223372036854775808<=v.n
 hi:v.n<=9223372036854775807
def G9{s:ByteArray}(h:s.toList=[]):s.size=0:=by
 have a:=uM s;rw[a] at h;show s.data.size=0;rw[<-yJ,h];rfl
def adv{b:aC}(h:BY b)(a:gR b M=af):jd b:=by
 refine⟨h.lo,h.hi,?_⟩;unfold gR at a
 split at a
 simp at a;have:=G9 a.2;omega
 split at a
 simp at a;have:=G9 a;omega
 split at a
 simp at a;have:=G9 a.2;omega;simp at a;omega
def Cp(h:e4 M qB=af):(M=1\/M=2\/M=3)/\(qB=0\/qB=1\/qB=2\/qB=3):=by
 constructor;rcases vi M with rfl|rfl|rfl|rfl|⟨i,e,f,g⟩;simp[e4,ov] at h;exact av Y;exact ai<|av Y;exact ai<|ai Y;rw[Bj e f g] at h;cases h;rcases vi qB with rfl|rfl|rfl|rfl|⟨a,b,c,d⟩;exact av Y;exact ai<|av Y;exact ai<|ai<|av Y;exact ai<|ai<|ai Y;rw[Lg a b c d] at h;cases h
structure bx where
 name:ByteArray
 kind:Int
def k4 (b:List bx):List F:=b.flatMap λa=>[ay a.name,z9 a.kind]
structure tO(w:ag)(ao:Option aL)(b off:Nat)(l:List bx):Prop where
 addr:0<I l->ao=K ⟨b,off,Z⟩
 lt:0<I l->b<U w.heap
 c0:∀j (h:j<I l),ap w ⟨b,off+j*2,Z⟩=K (ay l[j].name)
 c1:∀j (h:j<I l),ap w ⟨b,off+j*2+1,Z⟩=K (z9 l[j].kind)
def tO.below{d:List bx}(h:tO w O n m d)(b:aD w u):tO u O n m d:=
 ⟨h.addr,λe=>cL (h.lt e) b.size,
  λa c=>aB (bA b (p:=⟨n,m+a*2,Z⟩)<|h.lt aa)<|h.c0 a c,
  λa c=>aB (bA b (p:=⟨n,m+a*2+1,Z⟩)<|h.lt aa)<|h.c1 a c⟩
def tO.take{c:List bx}(h:tO w O n m c)(e:Nat):tO w O n m (c.take e):=by
 refine⟨λa=>h.addr ?_,λa=>h.lt ?_,λb d=>?_,λb d=>?_⟩;simp at a;omega;simp at a;omega;rw[ry];exact h.c0 b bu;rw[ry];exact h.c1 b bu
def px (f:ag)(v:F)(a:List bx):Prop:=∃b d e c,v=ah b (I a) c/\I a<=c/\tO f b d e a
def px.below{a:List bx}(h:px w v a)(e:aD w u):px u v a:=by
 obtain⟨b,c,g,d,rfl,f,h⟩:=h;exact⟨b,c,g,d,rfl,f,h.below e⟩
def oU (a:bx):Bool:=decide ((1:Int)<=(bg a.name:Int))&&decide ((bg a.name:Int)<=16)&&ov a.kind
def oK (b:List bx)(a:Nat):Prop:=∀d:a<I b,oU b[a]=af/\∀c (e:c<a),b[c].name≠b[a].name
def nJ (a:List bx):Prop:=1<=I a/\I a<=8/\∀b,oK a b
def Vt(a:bx)(c:ag):
 bc 80 #[bZ #[ay a.name,z9 a.kind]] c λb d=>b=aN (ak<|oU a)/\aD c d:=by
 have e:=CB a.kind;cases f:decide ((1:Int)<=(a.name.size:Int))<;>cases g:decide ((a.name.size:Int)<=16)
 all_goals
  go_enter aE.func80,Tryz.ntmps80;go_wp2_with (go_at_call 120;refine bG (e _) ?_;rintro b d ⟨rfl,rfl⟩)
  all_goals go_ret
  all_goals refine⟨tC ?_,pE (bN _ _) (aZ _) _⟩
  all_goals simp_all [oU]
  all_goals try (intros;omega)
def U1(a:List bx)(s:ByteArray)(A:Nat)(C:I a<=aV)(f:tO w O n m a):
 bc 81 #[ah O (I a) A,ay s] w λi E=>∃p,i=aN (ak p)/\(p=af↔∃d,∃h:d<I a,a[d].name=s)/\aD w E:=by
 unfold aV at C;have u:=aA f;go_enter aE.func81,Tryz.ntmps81;go_wp2_with fail
 go_loopw [9] (λl wr=>∃b:Nat,b<=I a/\l=z9 b/\(∀c,(k:c<I a)->c<b->a[c].name≠s)/\aD w wr) (λl _=>I a-bO (bB l))
 exact⟨0,cH _,rfl,λc _ h=>aa,bN _ _⟩;obtain⟨b,G,rfl,q,e⟩:=hrel;have r:=e.size
 skip
 by_cases j:b<I a
 .have f:=u.o.below e;obtain rfl:=f.addr aa;have H:=f.c0 b j;have J:=f.c1 b j;have v:X (a[b].name=s->∃d,∃h:d<I a,a[d].name=s):=λh=>⟨b,j,h⟩;have y:X (a[b].name≠s->∀c,(k:c<I a)->c<b+1->a[c].name≠s):=λh c k F=>by
   by_cases B:c=b;subst B;exact h;exact q c k aa
  generalize a[b]=o at*;by_cases g:o.name=s
  .have x:=v.o g;have D:(jE o.name==jE s)=af:=by rw[g];simp
   go_wp2;go_ret;exact⟨af,rfl,by simp only[true_iff];exact x,pE e r _⟩
  have z:=aA<|y.o g;have D:(jE o.name==jE s)=aj:=by rw[beq_eq_false_iff_ne];exact λh=>g<|toList_inj h
  go_wp2
  go_roundw
  exact⟨b+1,by omega,by go_num,z.o,pE e r _⟩;simp[bB];omega
 have t:X (¬∃d,∃h:d<I a,a[d].name=s):=by
  rintro⟨d,h,i⟩;exact q d h aa i
 skip
 go_wp2;go_ret;exact⟨aj,rfl,by simp only[eN,false_iff];exact t.o,e⟩
def Oh(a:ag)(b c:F)(d:aP):ap (cG a<|aq #[b,c] d) ⟨U a.heap,0,Z⟩=K b/\ap (cG a<|aq #[b,c] d) ⟨U a.heap,1,Z⟩=K c:=aI
def wK (a b:Int):Int:=if a<b then -1 else if b<a then 1 else 0
def gv (a b:aC):Int:=if a.n<b.n then -1 else if b.n<a.n then 1 else mz (dY a.s.data)<|dY b.s.data
def ado{a b:aC}:gv a b=if wK a.n b.n=0 then mz (dY a.s.data) (dY b.s.data) else wK a.n b.n:=by
 unfold gv wK;by_cases c:a.n<b.n;rw[if_pos c,if_pos c,if_neg aa];rw[if_neg c,if_neg c];by_cases d:b.n<a.n;rw[if_pos d,if_pos d,if_neg aa];rw[if_neg d,if_neg d,if_pos Y]
def Vu(b:Int)(a:ag):bc 159 #[z9 b] a λc d=>c=aN (ak aj)/\d=a:=by
 go_enter aE.func159,Tryz.ntmps159;go_wp2;go_ret;exact⟨rfl,rfl⟩
def Sg(a b:Int)(h:ag):bc 148 #[z9 a,z9 b] h λi c=>i=aN (z9<|wK a b)/\c=h:=by
 have d:=Vu;unfold wK;go_enter aE.func148,Tryz.ntmps148;by_cases e:a<b
 .rw[if_pos e];go_wp2_with (go_at_call 159;refine bG (d _ _) ?_;rintro g c ⟨rfl,rfl⟩);go_ret;exact⟨rfl,rfl⟩
 rw[if_neg e];by_cases f:b<a
 .rw[if_pos f];go_wp2_with (go_at_call 159;refine bG (d _ _) ?_;rintro g c ⟨rfl,rfl⟩);go_ret;exact⟨rfl,rfl⟩
 rw[if_neg f];go_wp2_with (go_at_call 159;refine bG (d _ _) ?_;rintro g c ⟨rfl,rfl⟩);go_ret;exact⟨rfl,rfl⟩
def Sj:bc 160 #[ay s,ay B] w λa b=>a=aN (z9<|mz (dY s.data)<|dY B.data)/\b=w:=by
 go_enter aE.func160,Tryz.ntmps160;go_wp2;rw[run_callFunc_extern aE.func168 aR aR aR (e:=D2) aR,Lib.run_compareString];simp only[Result.andThen];rw[Oper.upon_value];go_wp2;go_ret;exact⟨rfl,rfl⟩
def Z_(a b:ByteArray)(d:ag):bc 149 #[ay a,ay b] d λc e=>c=aN (z9<|mz (dY a.data)<|dY b.data)/\e=d:=by
 go_enter aE.func149,Tryz.ntmps149;go_wp2_with (go_at_call 160;refine bG (Sj) ?_;rintro c e ⟨rfl,rfl⟩);go_ret;exact⟨rfl,rfl⟩
def Si(l:ap w ⟨n,0,Z⟩=K (aJ aM M))(m:ap w ⟨n,1,Z⟩=K (aJ aM qB)):
 bc 147 #[ah (K ⟨n,0,Z⟩) 2 2] w λg k=>g=aN (aJ aM (if M=0 then qB else M))/\k=w:=by
 go_enter aE.func147,Tryz.ntmps147;go_wp2_with fail
 go_loopw [8] (λd wr=>∃b:Nat,b<=2/\d=aJ aM (b:Int)/\(1<=b->M=0)/\(2<=b->qB=0)/\wr=w) (λd _=>2-bO (bB d))
 exact⟨0,aa,rfl,λh=>aa,λh=>aa,rfl⟩;obtain⟨b,j,rfl,e,i,rfl⟩:=hrel
 skip
 match b,j with
 |0,_=>
  by_cases a:M=0;have c:(M !=0)=aj:=by simp[a]
  have f:=aA a;go_wp2
  go_roundw
  refine⟨1,aa,rfl,λ_=>f.o,?_⟩;simp;simp[bB];have c:(M !=0)=af:=by simp[a]
  go_wp2;go_ret;exact⟨rfl,rfl⟩
 |1,_=>
  obtain rfl:M=0:=e aa;by_cases a:qB=0;have c:(qB !=0)=aj:=by simp[a]
  skip
  go_wp2
  go_roundw
  refine⟨2,aa,rfl,?_⟩;simp;try exact a
  simp[bB];have c:(qB !=0)=af:=by simp[a]
  skip
  go_wp2;go_ret;exact⟨rfl,rfl⟩
 |2,_=>
  obtain rfl:M=0:=e aa;obtain rfl:qB=0:=i aa;go_wp2;go_ret;exact⟨rfl,rfl⟩
def B3:aD w ((w.alloc Ql).alloc Qm):=((bN _ _).alloc (aZ _) Ql).alloc aI Qm
def IV(a:ag)(c d:aC):(λb:ag=>ap b ⟨U a.heap,1,Z⟩=K (z9 c.n)/\ap b ⟨U a.heap,2,Z⟩=K (ay c.s)/\ap b ⟨U a.heap+1,1,Z⟩=K (z9 d.n)/\ap b ⟨U a.heap+1,2,Z⟩=K (ay d.s)) (cG (cG a<|aq (eC c) 59)<|aq (eC d) 59):=by
 refine⟨?_,?_,?_,?_⟩<;>simp
def EJ(a b:aC)(d:ag):
 bc 125 #[bZ<|eC a,bZ<|eC b] d λe h=>e=aN (z9<|gv a b)/\aD d h:=by
 have l:=Sg a.n b.n;have m:=Z_ a.s b.s;have n:X (∀(c:ag) (g:Nat),g=U c.heap->bc 147 #[aG g 2 2] ((c.alloc<|aq #[z9<|wK a.n b.n,z9<|mz (dY a.s.data)<|dY b.s.data] 3).drew) λe h=>e=aN (z9<|gv a b)/\h=((c.alloc<|aq #[z9<|wK a.n b.n,z9<|mz (dY a.s.data)<|dY b.s.data] 3).drew)):=λc g p=>by
  rw[ado];subst p;exact Si (by simp) (by simp)
 generalize wK a.n b.n=r at*;generalize mz (dY a.s.data) (dY b.s.data)=s at*;generalize gv a b=t at*;go_enter aE.func125,Tryz.ntmps125;go_upto_region 1 with fail;have j:aD d ((d.alloc<|aq (eC a) 59).alloc<|aq (eC b) 59):=B3;have o:=IV d a b;generalize (d.alloc<|aq (eC a) 59).alloc (aq (eC b) 59)=q at*;have⟨u,v,w,x⟩:=o;generalize U d.heap+1=i at*
 go_region_held (λc=>ap c ⟨U d.heap,1,Z⟩=K (z9 a.n)/\ap c ⟨U d.heap,2,Z⟩=K (ay a.s)/\ap c ⟨i,1,Z⟩=K (z9 b.n)/\ap c ⟨i,2,Z⟩=K (ay b.s)) (go_keep) (first
  |(go_at_call 148;refine bG (l _) ?_;rintro e k ⟨rfl,f⟩;rw[f])
  |(go_at_call 149;refine bG (m _) ?_;rintro e k ⟨rfl,f⟩;rw[f])
  |(go_at_call 147;refine bG (n.o _ _ Y) ?_;rintro e k ⟨rfl,f⟩;rw[f]))
 all_goals go_wp2_with fail
 all_goals go_ret
 all_goals exact⟨rfl,(j.alloc j.size _).drew⟩
theorem Jf:∀d e:List UInt8,mz d e= - mz e d
 | [],[]=>rfl
 | [],_::_=>rfl
 |_::_,[]=>rfl
 |a::ra,f::rb=>by
  simp only[mz];by_cases b:a<f;rw[if_pos b,if_neg<|by grind,if_pos b];rw[if_neg b];by_cases c:f<a;rw[if_pos c,if_pos c];rfl;rw[if_neg c,if_neg c,if_neg b,(Jf ra rb)]
def HL(c d:aC):gv c d= - gv d c:=by
 unfold gv;by_cases a:c.n<d.n;rw[if_pos a,if_neg<|by omega,if_pos a];rw[if_neg a];by_cases b:d.n<c.n;rw[if_pos b,if_pos b];rfl;rw[if_neg b,if_neg b,if_neg a];exact Jf _ _
structure ic where
 there:Bool
 least:aC
 most:aC
def hU:ic:=⟨aj,⟨aj,0,⟨#[]⟩⟩,⟨aj,0,⟨#[]⟩⟩⟩
def eM(b:ag)(a e:Nat)(v:F):kg b (aY b ⟨a,e,Z⟩ v) (K a):=
 ⟨rfl,rfl,rfl,aI,λf _ d=>ei _ _ _ _ λc=>d<|by cases c;rfl⟩
def zx(h:dZ n w u)(a:n<=U u.heap)(b:n<=m):dZ n w (aY u ⟨m,k,Z⟩ v):=
 jy h (eM u m k v) a bu
def ku(h:dZ n w u)(b:n<=U w.heap)(a:n<=m):dZ n w (aY u ⟨m,k,Z⟩ v):=
 zx h (dW b h.size) a
def iI(b:ag)(a:cz):(cG b a).heap[U b.heap]? =K a:=by
 show(Array.push b.heap a)[U b.heap]? =K a;simp
def alloc_old{a:Option cz}(h:n<U w.heap)(hx:w.heap[n]? =a):(w.alloc Ql).heap[n]? =a:=
 aB (cT ((bN (U w.heap) w).alloc (aZ _) Ql) n h) hx
def B2(a:ag):(cG (cG a Ql) Qm).heap[U a.heap+1]? =K Qm:=by
 have:=iI (cG a Ql) Qm;rwa [show(cG a Ql).heap.size=U a.heap+1 by simp] at this
def IX (a:ic):F:=bZ #[ak a.there,ak a.least.null,z9 a.least.n,ay a.least.s,ak a.most.null,z9 a.most.n,ay a.most.s]
def xa(h:w.heap[n]? =K (aq #[v,x,y] Qd (0,0))):
 ap w ⟨n,0,Z⟩=K v/\ap w ⟨n,1,Z⟩=K x/\ap w ⟨n,2,Z⟩=K y:=by
 refine⟨?_,?_,?_⟩<;>simp[ap,h]
def UK{b:List bx}(c:∀a,a<n->oK b a)(d:oK b n):∀a,a<n+1->oK b a:=bu
def SB{a:List bx}(d:1<=I a)(e:I a<=8)(f:∀b,b<n->oK a b)(g:¬n<I a):nJ a:=
 ⟨d,e,λb c=>f b aa c⟩
def PM(a:List bx)(q:ag)(aH:I a<=aV)(aD:px q v a):
 bc 55 #[v] q λe A=>∃f,e=aN (ak f)/\(f=af↔nJ a)/\dZ (U q.heap) q A:=by
 obtain⟨a4,E,M,P,rfl,a9,m⟩:=aD;unfold aV at aH;by_cases x:1<=I a/\I a<=8
 .have⟨x,aw⟩:=x;have ae:=aA m;obtain rfl:=m.addr aa;have Q:decide ((I a:Int)<1)=aj:=bS;have am:decide (8<(I a:Int))=aj:=bS;go_enter aE.func55,Tryz.ntmps55;go_wp2_with fail
  go_loopw [15] (λg wr=>∃b:Nat,b<=I a/\g=z9 b/\(∀g,g<b->oK a g)/\dZ (U q.heap) q wr) (λg _=>I a-bO (bB g))
  exact⟨0,cH _,rfl,λbj d=>aa,bN _ _⟩;obtain⟨b,ba,rfl,S,z⟩:=hrel;have aR:=z.size
  skip
  by_cases t:b<I a
  .have m:=ae.o.below z;have bd:=m.c0 b t;have be:=m.c1 b t;have B:X (∀l,dZ (U wr.heap) wr l->∀r,bc 81 #[ah (K ⟨E,M,Z⟩) b r,ay a[b].name] l λe A=>∃f,e=aN (ak f)/\(f=af↔∃c,∃d:c<b,a[c].name=a[b].name)/\dZ (U l.heap) l A):=λl az r=>by
    have:=U1 (a.take b) a[b].name r (by simp;unfold aV;omega)<|(m.below az).take b;have an:I (a.take b)=b:=bS;have aQ:ah (K ⟨E,M,Z⟩) b r=ah (K ⟨E,M,Z⟩) (I<|a.take b) r:=by rw[an]
    rw[aQ];refine this.mono ?_;rintro e A ⟨f,rfl,y,aC⟩;refine⟨f,rfl,y.trans ?_,aC⟩;constructor;rintro⟨c,d,e⟩;rw[ry] at e;exact⟨c,by omega,e⟩;rintro⟨c,d,e⟩;refine⟨c,by simp;omega,?_⟩;rw[ry];exact e
   have o:=λl=>Vt a[b] l;have u:X (oU a[b]=aj->¬nJ a):=λd h=>by
    have:=(h.2.2 b t).1;rw[d] at this;cases this
   have C:X ((∃c,∃d:c<b,a[c].name=a[b].name)->¬nJ a):=by
    rintro⟨c,d,e⟩ h;exact(h.2.2 b t).2 c d e
   have w:X (oU a[b]=af->(¬∃c,∃d:c<b,a[c].name=a[b].name)->∀g,g<b+1->oK a g):=λao ar=>UK S λ_=>⟨ao,λc aG e=>ar ⟨c,aG,e⟩⟩;have a3:X (∀O:Prop,O=(∃c,∃d:c<b,a[c].name=a[b].name)->True):=λ_ _=>trivial;generalize a8:(∃c,∃d:c<b,a[c].name=a[b].name)=O at*;generalize a[b]=i at*;go_upto_region 6 with fail;have aU:=Oh wr (ay i.name) (z9 i.kind) 63;have J:U wr.heap<(wr.alloc<|aq #[ay i.name,z9 i.kind] 63).heap.size:=aI;have T:dZ (U wr.heap) wr (wr.alloc<|aq #[ay i.name,z9 i.kind] 63):=(bN _ _).alloc (aZ _) _;generalize wr.alloc (aq #[ay i.name,z9 i.kind] 63)=j at*;generalize aF:U wr.heap=G at*
   skip
   have⟨a0,bh⟩:=aU
   go_cut [30] from 16 to 31 (λa1 W=>∃f,a1=ak f/\(f=aj->∀g,g<b+1->oK a g)/\(f=af->¬nJ a)/\dZ G wr W)
   case first=>
    cases h:oU i
    .have D:=aA<|u.o h;rw[h] at o
     first
      |go_region_with (go_at_call 80;refine(o _).mono ?_;rintro e N ⟨rfl,s⟩)
      |fail
     all_goals
      have p:dZ (U j.heap) j N:=((bN (U j.heap) j).drew).trans s;have n:=aA<|T.trans<|p.mono<|uU J;clear s p;go_wp2_with fail
      go_meet
      exact⟨af,rfl,(λd=>de d),λ_=>D.o,n.o⟩
    .have al:=aA<|w.o h;rw[h] at o;have a5:(0:Int)<=(b:Int):=aa;have a6:(b:Int)<=(P:Int):=aa;have a7:b<=P:=aa;clear u w h
     first
      |go_region_with (first
       |(go_at_call 80;refine(o _).mono ?_;rintro e N ⟨rfl,s⟩;have p:dZ (U j.heap) j N:=((bN (U j.heap) j).drew).trans s;have k:=T.trans<|p.mono<|uU J;have bi:=(bA p (p:=⟨G,0,Z⟩) J).trans a0;clear s p)
       |(go_at_call 81;refine(B.o _ k _).mono ?_;rintro e a2 ⟨f,rfl,y,V⟩))
      |fail
     all_goals
      have n:X (dZ G wr a2):=k.trans<|V.mono (by have:=k.size;rw[aF] at this;exact this);clear V k;go_wp2_with fail
      go_meet
      refine⟨f,rfl,λd=>al.o λaK=>?_,λd=>C.o<|y.1 d,n.o⟩;rw[y.2 aK] at d;cases d
   case rest=>
    rename ag=>W
    obtain⟨f,rfl,L,H,k⟩:=hcut;have n:=aA<|z.trans<|k.mono aR;cases f
    .have ab:=aA<|L Y;clear L H k u C w B o;go_wp2
     go_roundw
     case rel=>exact⟨b+1,aa,by go_num,ab.o,n.o⟩
     case measure=>simp[bB];omega
    .have D:=aA<|H Y;clear L H k u C w B o;go_wp2;go_ret;exact⟨aj,rfl,by simp only[eN,false_iff];exact D.o,n.o⟩
  have ad:=aA<|SB x aw S t
  skip
  go_wp2;go_ret;exact⟨af,rfl,by simp only[true_iff];exact ad.o,z⟩
 .have R:¬nJ a:=λd=>x ⟨d.1,d.2.1⟩;clear m;by_cases bb:I a<1
  .have Q:decide ((I a:Int)<1)=af:=by simp;omega
   go_enter aE.func55,Tryz.ntmps55;go_wp2
   all_goals go_ret
   all_goals exact⟨aj,rfl,by simp only[eN,false_iff];exact R,bN _ _⟩
  .have Q:decide ((I a:Int)<1)=aj:=by simp;omega
   have am:decide (8<(I a:Int))=af:=bS;go_enter aE.func55,Tryz.ntmps55;go_wp2
   all_goals go_ret
   all_goals exact⟨aj,rfl,by simp only[eN,false_iff];exact R,bN _ _⟩
structure zk(w:ag)(ao:Option aL)(b off:Nat)(l:List (List aC)):Prop where
 addr:0<I l->ao=K ⟨b,off,Z⟩
 lt:0<I l->b<U w.heap
 c:∀j (h:j<I l),∃v,ap w ⟨b,off+j,Z⟩=K v/\je w v l[j]
def zk.below{c:List (List aC)}(h:zk w O n m c)(a:dZ (U w.heap) w u):zk u O n m c:=
 ⟨h.addr,λd=>cL (h.lt d) a.size,λb g=>by
  have⟨v,e,f⟩:=h.c b g;exact⟨v,aB (bA a (p:=⟨n,m+b,Z⟩)<|h.lt aa) e,f.below a⟩⟩
def zl (f:ag)(v:F)(a:List (List aC)):Prop:=∃b d e c,v=ah b (I a) c/\I a<=c/\zk f b d e a
def zl.below{a:List (List aC)}(h:zl w v a)(e:dZ (U w.heap) w u):zl u v a:=by
 obtain⟨b,c,g,d,rfl,f,h⟩:=h;exact⟨b,c,g,d,rfl,f,h.below e⟩
def aQ (a:List Nat)(b:Nat)(c:List Nat):Prop:=c <+:a.drop b
def BJ:aQ l n []:=List.nil_prefix
def dw:aQ l n (L++qF)↔aQ l n L/\aQ l (n+I L) qF:=by
 unfold aQ;constructor;rintro⟨c,a⟩;refine⟨⟨qF++c,bu⟩,⟨c,?_⟩⟩;rw[<-List.drop_drop,<-a];simp;rintro⟨⟨c,a⟩,⟨d,b⟩⟩;refine⟨d,?_⟩;rw[<-List.drop_drop,<-a] at b;simp at b;rw[<-a,ij,b]
def ux:aQ l n (m::L)↔l[n]? =K m/\aQ l (n+1) L:=by
 rw[show m::L=[m]++L from rfl,dw];have:aQ l n [m]↔l[n]? =K m:=by
  unfold aQ;rw[<-List.head?_drop];cases l.drop n with
  |nil=>simp
  |cons b a=>simp[List.cons_prefix_cons];exact eq_comm
 rw[this];rfl
def mR:aQ l n [m]↔l[n]? =K m:=by
 rw[ux];simp[BJ]
def o9(h:aQ l n L)(a:n<=I l):n+I L<=I l:=by
 have:=h.length_le;rw[uT] at this;omega
def ab9(h:aQ l 0 L)(a:¬ 0+I L<I l):L=l:=by
 unfold aQ at h;rw[tW] at h;exact h.eq_of_length_le aa
def uy(h:L=l):aQ l 0 L:=by
 subst h;unfold aQ;exact List.prefix_refl _
def uA{B:List Nat}{p:Nat}(a:aQ B p l)(b:aQ B p L)(c:I l=I L):l=L:=
 (List.prefix_of_prefix_length_le a b aa).eq_of_length c
def NN{d f c b:Nat}(e:l[d]? =K c)(h:128<=c)(a:aQ l d (jP (f+1) b)):128<=b/\b%128+128=c/\aQ l (d+1) (jP f<|b/128):=by
 by_cases g:b<128;rw[xd g,mR,e] at a;simp at a;omega;rw[vG g,ux,e] at a;simp at a;exact⟨aa,bq a.1,a.2⟩
def Hy{e f a b:Nat}(c:l[e]? =K a)(h:a<128):aQ l e (jP (f+1) b)↔b=a:=by
 by_cases d:b<128;rw[xd d,mR,c];simp;exact eq_comm;rw[vG d,ux,c];simp;omega
structure lJ(B:List Nat)(p j acc:Nat):Prop where
 lt:acc<128^j
 all:∀v,v<18446744073709551616->(aQ B p (bh v)↔∃x,v=acc+128^j*x/\(x≠0\/j=0)/\aQ B (p+j) (jP (10-j) x))
 len:∀x,(x≠0\/j=0)->I (bh<|acc+128^j*x)=j+I (jP (10-j) x)
def lJ.zero(b:List Nat)(e:Nat):lJ b e 0 0:=
 ⟨aI,λv _=>⟨λc=>⟨v,aI,ai Y,c⟩,fun⟨f,a,_,d⟩=>by simp at a;subst a;exact d⟩,λf _=>by simp[bh]⟩
def lJ.more(h:lJ l n m k)(u:m<10)(o:l[n+m]? =K i)(g:128<=i)(q:i<256):lJ l n (m+1) (k+128^m*(i-128)):=by
 have x:=h.lt;have e:10-m=(10-(m+1))+1:=by omega
 have w:∀a,i-128+128*a=128*a+(i-128):=λa=>by omega
 have d:∀a,k+128^m*(i-128)+128^(m+1)*a=k+128^m*(i-128+128*a):=λa=>by
  rw[rA,Nat.mul_add,Nat.mul_assoc];omega
 refine⟨?_,?_,?_⟩;have b:128^m*(i-128)<=128^m*127:=Nat.mul_le_mul_left _ (by omega);rw[rA];omega;intro v p;rw[h.all v p];constructor;rintro⟨a,b,j,c⟩;rw[e] at c;have⟨r,s,t⟩:=NN o g c;refine⟨a/128,?_,av<|by omega,by omega⟩;rw[d,b];congr 2;omega;rintro⟨a,b,j,c⟩;have f:a≠0:=by omega
 refine⟨i-128+128*a,by rw[b,d],av<|by omega,?_⟩;rw[e,vG<|by omega,ux];refine⟨by grind,?_⟩;rw[show(i-128+128*a)/128=a by omega,gH];exact c;intro a f;have f:a≠0:=by omega
 rw[d,h.len _<|av<|by omega,e,vG<|by omega,show(i-128+128*a)/128=a by omega];simp;omega
def lJ.fin(h:lJ l n m k)(j:m<10)(e:l[n+m]? =K i)(c:i<128)(v:Nat)(g:v<18446744073709551616):
 aQ l n (bh v)↔v=k+128^m*i/\(i≠0\/m=0):=by
 rw[h.all v g];have f:10-m=(10-(m+1))+1:=aa;constructor;rintro⟨o,a,b,d⟩;rw[f,Hy e c] at d;subst d;exact⟨a,b⟩;rintro⟨a,b⟩;exact⟨i,a,b,by rw[f,Hy e c]⟩
def lJ.JV(h:lJ l n m k)(d:m<10)(a:c<128)(b:c≠0\/m=0):I (bh<|k+128^m*c)=m+1:=by
 rw[h.len c b,show 10-m=(10-(m+1))+1 by omega,xd a];rfl
def lJ.none(h:lJ l n m k)(i:m<10)(j:¬n+m<I l)(v:Nat)(d:v<18446744073709551616):¬aQ l n (bh v):=by
 rw[h.all v d];rintro⟨e,f,g,a⟩;rw[show 10-m=(10-(m+1))+1 by omega] at a;have b:l[n+m]? =Z:=uS (by omega);by_cases c:e<128
 .rw[xd c,mR,b] at a;simp at a
 .rw[vG c,ux,b] at a;simp at a
def lJ.HC(h:lJ l n 10 m)(v:Nat)(b:v<18446744073709551616):¬aQ l n (bh v):=by
 rw[h.all v b];rintro⟨e,a,c,d⟩;have:(128:Nat)^10=1180591620717411303424:=az;rw[this] at a;omega
def lJ.top(h:lJ l n m k)(d:m<9\/(m=9/\i<=1))(g:i<128):k+128^m*i<18446744073709551616:=by
 have e:=h.lt;rcases d with b|⟨rfl,b⟩;have c:128^(m+1)<=128^9:=om aa aa;have a:(128:Nat)^9=9223372036854775808:=az;rw[rA] at c;have f:128^m*i<=128^m*127:=Nat.mul_le_mul_left _ aa;omega;have a:(128:Nat)^9=9223372036854775808:=az;rw[a] at e ⊢;omega
def lJ.over{B:List Nat}{p b a:Nat}(h:1<a):¬b+128^9*a<18446744073709551616:=by
 have c:(128:Nat)^9=9223372036854775808:=az;rw[c];omega
def jQ(d:m<18446744073709551616)(q:k<18446744073709551616)(b:aQ l n (bh m))(c:aQ l n (bh k)):m=k:=by
 have i:∀f m k n,m<128^f->k<128^f->aQ l n (jP f m)->aQ l n (jP f k)->m=k:=by
  intro f
  induction f with
  |zero=>intro m k n b c;simp at b c;omega
  |succ f h=>
   intro m k n b c a e;by_cases d:m<128
   .rw[xd d,mR] at a;exact bq<|(Hy a d).1 e
   .rw[vG d,ux] at a;have⟨j,o,g⟩:=NN a.1 aa e;have p:=h (m/128) (k/128) (n+1) aa aa a.2 g;omega
 have a:(128:Nat)^10=1180591620717411303424:=az;exact i 10 m k n aa aa b c
def iY (b:List Int):Prop:=∀a∈b,a=0\/a=1
def G3(a:Int)(b:List Int):0<iQ a (a::b):=by simp[iQ]
def P_:∀(f:Nat) (a:List Int),I a<=f->lT (f+1) a=lT f a:=by
 intro f
 induction f with
 |zero=>intro a d;cases a with
  |nil=>rfl
  |cons b c=>simp at d
 |succ f e=>
  intro a d;cases a with
  |nil=>rfl
  |cons b c=>
   have g:=G3 b c;rw[lT,lT];simp only[(e ((b::c).drop<|iQ b<|b::c) bu)]
def N_(f:Nat)(a:List Int)(h:I a<=f):lT f a=eV a:=by
 induction f with
 |zero=>
  have:a=[]:=vX.1 (by omega);subst this;rfl
 |succ f c=>
  by_cases b:I a<=f
  .rw[P_ f a b,c b]
  .unfold eV;rw[show I a=f+1 by omega]
def K_:eV []=[]:=rfl
def MS:eV (M::qZ)=bh (iQ M<|M::qZ)++([byteOf M]++eV ((M::qZ).drop<|iQ M<|M::qZ)):=by
 have a:=G3 M qZ;rw[<-N_ (I qZ) ((M::qZ).drop<|iQ M<|M::qZ) (by grind)];rfl
def F_(a:Nat){m:List Int}(h:m.head? ≠K M):iQ M (dH a M++m)=a:=by
 induction a with
 |zero=>
  cases m with
  |nil=>rfl
  |cons e d=>simp[iQ];intro b;subst b;simp at h
 |succ a c=>rw[List.replicate_succ,tV,iQ,if_pos Y,c]
def L_{m:List Int}(d:n≠0)(h:m.head? ≠K M):eV (dH n M++m)=bh n++([byteOf M]++eV m):=by
 obtain⟨a,rfl⟩:∃a,n=a+1:=⟨n-1,aa⟩;have b:dH (a+1) M++m=M::(dH a M++m):=by rfl
 have c:=F_ (a+1) h;rw[b] at c ⊢;rw[MS,c,<-b];simp
def G_:qZ=dH (iQ M qZ) M++qZ.drop (iQ M qZ):=by
 induction qZ with
 |nil=>rfl
 |cons d c b=>
  simp only[iQ]
  split
  rename_i a;subst a;rw[List.replicate_succ,tV,List.drop_succ_cons,<-b];simp
def D_:(qZ.drop<|iQ M qZ).head? ≠K M:=by
 intro a;rw[List.head?_drop] at a;have⟨b,c⟩:=fF.1 a;exact MM M qZ b c
structure oR(B:List Nat)(p cn:Nat)(l:List Int)(R:List Nat):Prop where
 le:I l<=cn
 bits:iY l
 st:aQ B p R
 ext:∀m:List Int,(m=[]\/l=[]\/m.head? ≠List.getLast? l)->eV (l++m)=R++eV m
 mo:∀L:List Int,I L=cn->iY L->aQ B p (eV L)->∃m,L=l++m/\(m=[]\/l=[]\/m.head? ≠List.getLast? l)
def oR.zero(a:List Nat)(e c:Nat):oR a e c [] []:=
 ⟨cH _,λf d=>by simp at d,BJ,λm _=>rfl,λb _ _ _=>⟨b,rfl,ai<|av Y⟩⟩
def xH(h:M=0\/M=1):byteOf M=bO M:=by rcases h with rfl|rfl<;>rfl
def oR.next(h:oR l n k qZ L)(q:I qZ<k)(c:List Int)(hL:I c=k)(j:iY c)(g:aQ l n (eV c)):
 ∃(e:Nat) (b:Int) (m:List Int),1<=e/\e<=k-I qZ/\(b=0\/b=1)/\(qZ=[]\/List.getLast? qZ≠K b)/\aQ l (n+I L) (bh e)/\aQ l (n+I L+I (bh e)) [bO b]/\
  c=(qZ++dH e b)++m/\m.head? ≠K b:=by
 obtain⟨m,rfl,o⟩:=h.mo c hL j g;rw[cJ] at hL;cases m with
 |nil=>simp at hL;omega
 |cons a f=>
  rw[h.ext _ o,dw] at g;have i:=g.2;rw[MS,dw,dw] at i;have p:a=0\/a=1:=j a aI;refine⟨iQ a<|a::f,a,(a::f).drop<|iQ a<|a::f,G3 a f,?_,p,?_,i.1,?_,?_,D_⟩;have:=ML a<|a::f;omega;rcases o with d|d|d;simp at d;exact av d
  right;simpa [eq_comm] using d
  rw[<-xH p];exact i.2.1;rw[ij,<-G_]
def oR.more(h:oR l n k qZ L)(e:i≠0)(N:i<=k-I qZ)(y:i<18446744073709551616)(d:M=0\/M=1)(J:qZ=[]\/List.getLast? qZ≠K M)
 (f:aQ l (n+I L) (bh i)) (b:aQ l (n+I L+I (bh i)) [bO M]) (F:k<=100) (v:I qZ<k):oR l n k (qZ++dH i M) (L++(bh i++[bO M])):=by
 have u:List.getLast? (qZ++dH i M)=K M:=by
  rw[List.getLast?_append,List.getLast?_replicate,if_neg e];rfl
 refine⟨bS,?_,?_,?_,?_⟩;intro C A;rcases eP.1 A with a|a;exact h.bits C a;rw[(List.mem_replicate.1 a).2];exact d;rw[dw,dw];exact⟨h.st,f,b⟩;intro m w;rw[u] at w;have x:m.head? ≠K M:=bu;rw[ij,h.ext _ bu,L_ e x,xH d];simp
 .intro g s t z;have⟨B,j,m,a,D,E,G,q,c,r,H⟩:=h.next v g s t z;have o:B=i:=jQ aa y q f;subst o;have p:j=M:=by
   rw[mR] at c b;rw[c] at b;simp at b;omega
  subst p;exact⟨m,r,ai<|ai bu⟩
def oR.done(h:oR l n k qZ L)(f:¬I qZ<k):
 I qZ=k/\eV qZ=L/\(∀a:List Int,I a=k->iY a->aQ l n (eV a)->a=qZ):=by
 have d:I qZ=k:=cA h.le;refine⟨d,?_,?_⟩;have:=h.ext []<|av Y;simpa [K_] using this;intro a b c e;obtain⟨m,rfl,_⟩:=h.mo a b c e;rw[cJ] at b;have:m=[]:=vX.1 aa;rw[this];simp
def va(s:ByteArray)(a:Nat)(h:a<bg s):(bytesOf s)[a]? =K s[a].toNat:=by
 rw[dV<|by rw[cM];exact h,B9 s h]
def PL(a:Nat)(h:a<256):bits .and .u8 (a:Int) 127=((a%128:Nat):Int):=by
 have:=bits_mask .u8 8 az wraps_u8 7 az (a:Int) aa aa;rw[show(127:Int)=2^7-1 from az,this];omega
def HW(a:Int)(b:0<=a)(c:a<2^64):lW.wrap a=a:=by rw[wrap_u64];omega
def nu{s:ByteArray}:bytesOf (fw s n m)=((bytesOf s).drop n).take (m-n):=by
 unfold bytesOf;rw[ByteArray.data_extract];simp only[Array.toList_extract,List.extract_eq_take_drop,List.map_take,List.map_drop]
def NY(b:Nat)(a:Nat)(s:ByteArray)(e:bg s<=aV)(l:a<=2147483648)(p:¬n+a<=bg s)(q:n<=bg s)(h:w.heap[b]? =K (bQ s n)):
 bc 128 #[(aK b),n9 a] w λc d=>c=gO (g4 n)/\∃f,d=cI w f:=by
 have⟨g,i,j,k⟩:=yp h;unfold aV at e
 skip
 have o:decide ((a:Int)<0)=aj:=aI;have m:decide ((bg s:Int)-(n:Int)<(a:Int))=af:=bS;go_enter aE.func128,Tryz.ntmps128;go_wp2_with fail;go_quiet (fail);go_wp2_with (go_at_call 97;refine bG (lP b n s _<|by exact h) ?_;rintro c d ⟨rfl,rfl⟩);exact⟨rfl,rfl,nq,rfl⟩
def NZ(b:Nat)(a:Nat)(s:ByteArray)(c:ag)(e:bg s<=aV)(q:n+a<=bg s)(h:c.heap[b]? =K (bQ s n)):
 bc 128 #[(aK b),n9 a] c λd g=>d=aN (ay<|fw s n<|n+a)/\∃f,g=cI (aY c ⟨b,1,Z⟩<|z9 ((n+a:Nat):Int)) f:=by
 have⟨i,j,k,l⟩:=yp h;unfold aV at e;have p:decide ((a:Int)<0)=aj:=aI;have o:decide ((bg s:Int)-(n:Int)<(a:Int))=aj:=bS;have r:(n:Int)+(a:Int)<=(bg s:Int):=aa;have t:(n:Int)<=(n:Int)+(a:Int):=aa;go_enter aE.func128,Tryz.ntmps128;go_wp2_with fail;go_quiet (fail);generalize nq=m at*;go_wp2_with fail;go_quiet (fail);go_wp2;go_ret;exact⟨rfl,m+nq,JD⟩
def Es(c a:Nat)(s:ByteArray)(n:bg s<=aV)(o:a<=bg s)(h:w.heap[c]? =K (bQ s a)):
 bc 152 #[(aK c)] w λd f=>Kp c w f/\((∃b:Int,d=aN (z9 b)/\(b=0\/b=1)/\aQ (bytesOf s) a [b.toNat]/\f.heap[c]? =K (bQ s<|a+1)/\a+1<=bg s)\/
  (∃v,d=gO (g4 v)/\∀b:Int,(b=0\/b=1)->¬aQ (bytesOf s) a [b.toNat])):=by
 have g:=aA h;by_cases k:a<bg s
 .have p:=va s a k;have m:X (∀w,w.heap[c]? =K (bQ s a)->bc 129 #[(aK c)] w λd f=>d=aN (aJ .u8 (s[a].toNat:Int))/\∃e,f=(aY w ⟨c,1,Z⟩<|z9 ((a+1:Nat):Int)).drewN e):=
   λw u=>B8 c a s w n k u
  have y:s[a].toNat<256:=s[a].toNat_lt;have l:=aA p;generalize s[a].toNat=i at*;by_cases x:i<=1
  .have r:decide ((1:Int)<(i:Int))=aj:=by simp;omega
   go_enter aE.func152,Tryz.ntmps152;go_wp2_with (go_at_call 129;refine bG (m.o _ g.o) ?_;rintro d f ⟨rfl,e,rfl⟩);go_ret;refine⟨(Kp.refl _ _).set _ _ e,av ⟨(i:Int),by first|rfl|(congr 2;omega),aa,?_,vA g.o e,aa⟩⟩;rw[mR,l.o];simp
  .have r:decide ((1:Int)<(i:Int))=af:=by simp;omega
   have j:X (∀b:Int,(b=0\/b=1)->¬aQ (bytesOf s) a [b.toNat]):=by
    intro b q;rw[mR,l.o];simp;omega
   go_enter aE.func152,Tryz.ntmps152;go_wp2_with first|(go_at_call 129;refine bG (m.o _ g.o) ?_;rintro d f ⟨rfl,e,rfl⟩)|(go_at_call 97;refine bG (lP c (a+1) s _<|by exact vA g.o _) ?_;rintro d f ⟨rfl,rfl⟩)
   exact⟨rfl,(Kp.refl _ _).set _ _ e,ai ⟨_,rfl,j.o⟩⟩
 .have j:X (∀b:Int,(b=0\/b=1)->¬aQ (bytesOf s) a [b.toNat]):=by
   intro b q t;have:=o9 t (by rw[cM];exact o);rw[cM] at this;simp at this;omega
  go_enter aE.func152,Tryz.ntmps152;go_wp2_with (go_at_call 129;refine bG (B7 c a s n k o g.o) ?_;rintro d f ⟨rfl,e,rfl⟩);exact⟨rfl,(Kp.refl _ _).drewN e,ai ⟨_,rfl,j.o⟩⟩
def Gl:(128:Nat)^n=2^(7*n):=by rw[Nat.pow_mul]
def YC(d b a:Nat)(i:a<=9)(g:d<128^a)(m:b<128):∃e:Nat,bits .or .u64 (d:Int) (lW.wrap<|(b:Int)*2^(7*a))=(e:Int)/\e<18446744073709551616/\((a<=8\/b<=1)->e=d+128^a*b):=by
 have k:128^a<=128^9:=om (by omega) i;have h:(b:Int)*2^(7*a)=((2^(7*a)*b:Nat):Int):=by grind
 have l:lW.wrap ((b:Int)*2^(7*a))=((2^(7*a)*b%18446744073709551616:Nat):Int):=by rw[h,wrap_u64];omega
 rw[l];refine⟨_,((bits_nat .u64 64 (by decide) HW d (2^(7*a)*b%18446744073709551616) (by omega)<|by omega).2),?_,?_⟩;exact Nat.or_lt_two_pow (n:=64) (by omega) (by omega);intro c;have j:2^(7*a)*b<18446744073709551616:=by
  rw[<-Gl];rcases c with c|c;have f:128^a<=128^8:=om (by omega) c;have:=s8 f (show b<=127 by omega);omega;have:=s8 k c;omega
 rw[s7 j,Nat.or_comm,<-Nat.two_pow_add_eq_or_of_lt (by rw[<-Gl];exact g) b,Nat.add_comm,Gl]
def Ot(e b:Nat)(s:ByteArray)(D:bg s<=aV)(Y:b<=bg s)(h:w.heap[e]? =K (bQ s b)):
 bc 130 #[(aK e)] w λf g=>Kp e w g/\((∃v:Nat,f=aN (aJ .u64 (v:Int))/\v<18446744073709551616/\aQ (bytesOf s) b (bh v)/\g.heap[e]? =K (bQ s<|b+I (bh v)))\/
  (∃S,f=gO (g4 S)/\∀v,v<18446744073709551616->¬aQ (bytesOf s) b (bh v))):=by
 skip
 go_enter aE.func130,Tryz.ntmps130;go_wp2_with fail
 go_loopw [3,4] (λd sh wr=>∃(a q j:Nat),a<=10/\sh=z9 ((7*a:Nat):Int)/\d=aJ .u64 (j:Int)/\(a<=9->j=q)/\lJ (bytesOf s) b a q/\b+a<=bg s/\wr.heap[e]? =K (bQ s<|b+a)/\Kp e w wr) (λ_ sh _=>71-(bB sh).toNat)
 exact⟨0,0,0,aa,rfl,rfl,λ_=>rfl,lJ.zero _ _,aa,h,Kp.refl _ _⟩
 skip
 obtain⟨a,q,j,W,rfl,rfl,M,l,P,k,n⟩:=hrel
 skip
 by_cases C:a<=9
 .obtain rfl:=M C;by_cases o:b+a<bg s
  .have p:X (∀w,w.heap[e]? =K (bQ s<|b+a)->bc 129 #[(aK e)] w λf g=>f=aN (aJ .u8 (s[b+a].toNat:Int))/\∃d,g=(aY w ⟨e,1,Z⟩<|z9 ((b+a+1:Nat):Int)).drewN d):=
    λw R=>B8 e (b+a) s w D o R
   have A:s[b+a].toNat<256:=s[b+a].toNat_lt;have u:=aA<|va s (b+a) o;generalize s[b+a].toNat=c at*;have V:bits .and .u8 (c:Int) 127=(c:Int)%128:=by rw[PL c A];omega
   obtain⟨y,r,U,z⟩:=YC j (c%128) a C l.lt aa;rw[show((c%128:Nat):Int)=(c:Int)%128 from by omega] at r;have F:=aA z;clear z;by_cases N:128<=c
   .go_wp2_with (go_at_call 129;refine bG (p.o _ k) ?_;rintro f g ⟨rfl,d,rfl⟩);refine⟨⟨a+1,j+128^a*(c-128),y,aa,by go_num,by first|rfl|rw[r],?_,l.more aa u.o N A,aa,vA k d,n.set _ _ d⟩,by simp[bB];omega⟩;intro T;rw[F.o<|av<|by omega,show c%128=c-128 by omega]
   .have O:(c:Int)%128=(c:Int):=by omega
    rw[O] at r;have B:=λv i=>l.fin (v:=v) aa u.o aa i
    skip
    by_cases t:(c≠0\/a=0)/\(c<=1\/a<=8)
    .have x:X (j+128^a*c<18446744073709551616):=l.top aa aa;have E:X _:=l.JV (c:=c) aa aa t.1;have G:X (y=j+128^a*c):=bu;go_wp2_with (go_at_call 129;refine bG (p.o _ k) ?_;rintro f g ⟨rfl,d,rfl⟩)
     all_goals
      go_ret;exact⟨n.set _ _ d,av ⟨j+128^a*c,by rw[<-G.o];rfl,x.o,(B _ x.o).2 ⟨rfl,t.1⟩,by rw[E.o,<-gH];exact vA k d⟩⟩
    .have m:X (∀v,v<18446744073709551616->¬aQ (bytesOf s) b (bh v)):=by
      intro v i Q;have⟨H,J⟩:=(B v i).1 Q;by_cases L:c<=1\/a<=8;exact t ⟨J,L⟩;obtain rfl:a=9:=aa;rw[H] at i;exact lJ.over (B:=bytesOf s) (p:=b) aa i
     go_wp2_with first|(go_at_call 129;refine bG (p.o _ k) ?_;rintro f g ⟨rfl,d,rfl⟩)|(go_at_call 97;refine bG (lP e (b+a+1) s _<|by exact vA k _) ?_;rintro f g ⟨rfl,rfl⟩)
     all_goals exact⟨rfl,n.set _ _ d,ai ⟨_,rfl,m.o⟩⟩
  .have m:X (∀v,v<18446744073709551616->¬aQ (bytesOf s) b (bh v)):=λv i=>l.none aa (by rw[cM];exact o) v i;go_wp2_with (go_at_call 129;refine bG (B7 e (b+a) s D o P k) ?_;rintro f g ⟨rfl,d,rfl⟩);exact⟨rfl,n.drewN d,ai ⟨_,rfl,m.o⟩⟩
 obtain rfl:a=10:=aa;have m:X (∀v,v<18446744073709551616->¬aQ (bytesOf s) b (bh v)):=λv i=>l.HC v i;go_wp2_with (go_at_call 97;refine bG (lP e (b+10) s _ k) ?_;rintro f g ⟨rfl,rfl⟩);exact⟨rfl,n,ai ⟨_,rfl,m.o⟩⟩
def wL(b a:Nat)(s:ByteArray)(u:bg s<=aV)(n:a<=bg s)(h:w.heap[b]? =K (bQ s a)):
 bc 95 #[(aK b)] w λd i=>Kp b w i/\((∃v:Nat,d=aN (n9 v)/\v<2147483648/\aQ (bytesOf s) a (bh v)/\a+I (bh v)<=bg s/\i.heap[b]? =K (bQ s<|a+I (bh v)))\/
  (∃g,d=gO (g4 g)/\∀v,v<2147483648->¬aQ (bytesOf s) a (bh v))):=by
 skip
 go_enter aE.func95,Tryz.ntmps95;go_wp2_with fail;refine bG (Ot b a s u n h) ?_;rintro d A ⟨l,⟨v,rfl,o,e,m⟩|⟨g,rfl,x⟩⟩;have j:=aA l;have k:=aA e;have p:X (a+I (bh v)<=bg s):=by have:=o9 e (by rw[cM];exact n);rwa [cM] at this
 have q:=aA o;by_cases t:v<2147483648
 .skip
  have r:decide ((2147483648:Int)<=(v:Int))=aj:=bu;have z:cY (v:Int)=(v:Int):=by unfold cY;omega
  skip
  go_wp2;go_ret;exact⟨j.o,av ⟨v,by first|rfl|go_num,t,k.o,p.o,m⟩⟩
 have f:X (∀c,c<2147483648->¬aQ (bytesOf s) a (bh c)):=by
  intro c y e;have:=jQ aa q.o e k.o;omega
 have r:decide ((2147483648:Int)<=(v:Int))=af:=bu
 skip
 go_wp2_with (go_at_call 97;refine bG (lP b (a+I (bh v)) s _ m) ?_;rintro d i ⟨rfl,rfl⟩);exact⟨rfl,j.o,ai ⟨_,rfl,f.o⟩⟩
 skip
 have f:X (∀c,c<2147483648->¬aQ (bytesOf s) a (bh c)):=λv o=>x v aa;go_wp2;exact⟨rfl,l,ai ⟨g,rfl,f.o⟩⟩
structure jL{α:Type}(E:List α->List Nat)(ok:α->Prop)(B:List Nat)(p cn:Nat)(l:List α):Prop where
 le:I l<=cn
 yd:∀x∈l,ok x
 st:aQ B p (E l)
 mo:∀L:List α,I L=cn->(∀x∈L,ok x)->aQ B p (E L)->∃m,L=l++m
def He{c:Type}{E:List c->List Nat}{e:List c->c->List Nat}(g:∀a b,E (a++[b])=E a++e a b)(a m:List c):∃d,E (a++m)=E a++d:=by
 induction m generalizing a with
 |nil=>exact⟨[],by simp⟩
 |cons b f i=>
  obtain⟨d,h⟩:=i<|a++[b];refine⟨e a b++d,?_⟩;rw[show a++b::f=a++[b]++f by simp,h,g,ij]
def jL.zero{a:Type}{E:List a->List Nat}{e:a->Prop}(c:E []=[]):jL E e l n m []:=
 ⟨cH _,λf d=>by simp at d,bV c BJ,λb _ _ _=>⟨b,rfl⟩⟩
def jL.next{c:Type}{E:List c->List Nat}{i:c->Prop}{e:List c->c->List Nat}{b:List c}(h:jL E i l n k b)(j:∀b a,E (b++[a])=E b++e b a)(q:I b<k)
 (d:List c) (hL:I d=k) (o:∀a∈d,i a) (g:aQ l n (E d)):∃a m,d=(b++[a])++m/\i a/\aQ l (n+I (E b)) (e b a):=by
 obtain⟨m,rfl⟩:=h.mo d hL o g;cases m with
 |nil=>simp at hL;omega
 |cons a f=>
  obtain⟨r,p⟩:=He j (b++[a]) f;refine⟨a,f,by simp,o a<|by simp,?_⟩;rw[show b++a::f=b++[a]++f by simp,p,j,ij,dw,dw] at g;exact g.2.1
def jL.more{f:Type}{E:List f->List Nat}{g:f->Prop}{e:List f->f->List Nat}{a:List f}(h:jL E g l n k a)(i:∀a c,E (a++[c])=E a++e a c)(r:I a<k)
 {c:f} (hx:g c) (t:aQ l (n+I (E a)) (e a c)) (v:∀d,g d->aQ l (n+I (E a)) (e a d)->d=c):jL E g l n k (a++[c]):=by
 refine⟨bS,?_,by rw[i,dw];exact⟨h.st,t⟩,?_⟩;intro d w;rcases eP.1 w with b|b;exact h.yd d b;simp at b;rw[b];exact hx
 .intro j q s u;have⟨d,m,b,o,p⟩:=h.next i r j q s u;rw[v d o p] at b;exact⟨m,b⟩
def jL.fail{b:Type}{E:List b->List Nat}{g:b->Prop}{e:List b->b->List Nat}{a:List b}(h:jL E g l n k a)(o:∀a d,E (a++[d])=E a++e a d)(p:I a<k)
 (s:∀f,g f->¬aQ l (n+I (E a)) (e a f)) (c:List b) (hL:I c=k) (q:∀d∈c,g d):¬aQ l n (E c):=by
 intro r;have⟨f,m,t,i,j⟩:=h.next o p c hL q r;exact s f i j
def jL.done{c:Type}{E:List c->List Nat}{e:c->Prop}{b:List c}(h:jL E e l n k b)(o:¬I b<k):
 I b=k/\(∀a:List c,I a=k->(∀j∈a,e j)->aQ l n (E a)->a=b):=by
 have g:I b=k:=cA h.le;refine⟨g,?_⟩;intro a d f i;obtain⟨m,rfl⟩:=h.mo a d f i;rw[cJ] at d;have:m=[]:=vX.1 aa;rw[this];simp
def uz (m:Nat):Int:=if m%2=1 then -((m/2:Nat):Int)-1 else((m/2:Nat):Int)
def aem:zz (uz m)=m:=by
 unfold zz uz
 split<;>split<;>omega
def Ax(a:Int):uz (zz a)=a:=by
 unfold zz uz
 split<;>split<;>omega
def Oq(m:Nat)(h:m<18446744073709551616): -9223372036854775808<=uz m/\uz m<=9223372036854775807:=by
 unfold uz
 split<;>omega
structure VK(k:Int)(v:aC):Prop where
 there:v.null=aj
 lo: -9223372036854775808<=v.n
 hi:v.n<=9223372036854775807
 s1:k=1->v.s=⟨#[]⟩
 s2:k=2->(v.n=0\/v.n=1)/\v.s=⟨#[]⟩
 s3:k=3->v.n=0/\bg v.s<=32
def FW{s:ByteArray}(h:jE s=[]):s=⟨#[]⟩:=by
 rw[uM s] at h;apply AI;apply Array.ext';simpa using h
def Bh{v:aC}(a:M=1\/M=2\/M=3)(h:VK M v):gR v M=af:=by
 unfold gR;rw[h.there];rcases a with rfl|rfl|rfl;simp[h.s1 Y,uM];have:=h.s2 Y;simp[this.2,this.1,uM];have:=h.s3 Y;simp[this.1];omega
def HN{v:aC}(c:M=1\/M=2\/M=3)(b:v.null=aj)(h:BY v)(a:gR v M=af):VK M v:=by
 unfold gR at a;rw[b] at a;refine⟨b,h.lo,h.hi,?_,?_,?_⟩;rintro rfl;simp at a;exact FW a;rintro rfl;simp at a;exact⟨a.1,FW a.2⟩;rintro rfl;simp at a;exact⟨a.1,aa⟩
def VK.ok{v:aC}(a:M=1\/M=2\/M=3)(h:VK M v):jd v:=by
 refine⟨h.lo,h.hi,?_⟩;rcases a with rfl|rfl|rfl;rw[h.s1 Y];decide;rw[(h.s2 Y).2];decide;exact(h.s3 Y).2
def wO(j:M=1\/M=2\/M=3){c d:aC}(hx:VK M c)(hy:VK M d)(b:aQ l n (dc M c))(a:aQ l n (dc M d)):c=d:=by
 have f:c.n=d.n->c.s=d.s->c=d:=by
  intro g h;have i:=aB hx.there<|bq hy.there;cases c;cases d;simp at g h i;simp[g,h,i]
 rcases j with rfl|rfl|rfl;have e:∀v,dc 1 v=bh (zz v.n):=λv=>rfl;rw[e] at b a;have:=jQ (vJ hx.lo hx.hi) (vJ hy.lo hy.hi) b a;refine f ?_ (by rw[hx.s1 Y,hy.s1 Y]);rw[<-Ax c.n,this,Ax];have e:∀v,dc 2 v=[byteOf v.n]:=λv=>rfl;rw[e,mR] at b a;rw[b] at a;simp at a;refine f ?_ (by rw[(hx.s2 Y).2,(hy.s2 Y).2]);rw[xH (hx.s2 Y).1,xH (hy.s2 Y).1] at a;have:=(hx.s2 Y).1;have:=(hy.s2 Y).1;omega;have e:∀v,dc 3 v=bh (bg v.s)++bytesOf v.s:=λv=>rfl;rw[e,dw] at b a;have k:=(hx.s3 Y).2;have m:=(hy.s3 Y).2;have:=jQ aa aa b.1 a.1;rw[this] at b;exact f (by rw[(hx.s3 Y).1,(hy.s3 Y).1]) (xI<|uA b.2 a.2<|by rw[cM,cM,this])
def ur(a:Int)(b:List aC)(c:aC):dQ a (b++[c])=dQ a b++dc a c:=by
 unfold dQ;rw[oN,pH]
def HV(a:Int)(b: -9223372036854775808<=M)(c:M<=9223372036854775807)(h:cY (M-a)=qB):cY (a+qB)=M:=by
 unfold cY at*;omega
def adP(a: -9223372036854775808<=qB)(b:qB<=9223372036854775807):cY (cY (M+qB)-M)=qB:=by
 unfold cY;omega
def JA{a b:aC}(hx:VK 1 a)(hy:VK 1 b)(k:aQ l n (bh<|zz<|cY<|a.n-M))(m:aQ l n (bh<|zz<|cY<|b.n-M)):a=b:=by
 have f:=uF<|a.n-M;have g:=uF<|b.n-M;have i:=jQ (vJ f.1 f.2) (vJ g.1 g.2) k m;have j:cY (a.n-M)=cY (b.n-M):=by rw[<-Ax (cY<|a.n-M),i,Ax]
 have c:=HV M hx.lo hx.hi Y;have h:=HV M hy.lo hy.hi Y;rw[j,h] at c;have d:=aB hx.there<|bq hy.there;have e:=aB (hx.s1 Y)<|bq<|hy.s1 Y;cases a;cases b;simp at c d e;simp[c,d,e]
def Vx(hx:n<9223372036854775808):bits .xor aM (n:Int) 0=(n:Int):=by
 show aM.wrap (((BitVec.ofInt 64 (n:Int))^^^(BitVec.ofInt 64 0)).toNat:Int)=_;rw[BitVec.ofInt_natCast,show BitVec.ofInt 64 0=0#64 from rfl,BitVec.xor_zero,BitVec.toNat_ofNat,kF];omega
def Vw(hx:n<9223372036854775808):bits .xor aM (n:Int) (-1)= -(n:Int)-1:=by
 show aM.wrap (((BitVec.ofInt 64 (n:Int))^^^(BitVec.ofInt 64<|-1)).toNat:Int)=_;rw[BitVec.ofInt_natCast,show BitVec.ofInt 64 (-1)=BitVec.allOnes 64 from by decide +kernel,BitVec.xor_allOnes,BitVec.toNat_not,BitVec.toNat_ofNat,kF];omega
def PK(a:n<18446744073709551616):bits .and .u64 (n:Int) 1=((n%2:Nat):Int):=by
 have:=bits_mask .u64 64 az HW 1 az (n:Int) aa aa;rw[show(1:Int)=2^1-1 from az,this];omega
def adb(b:n<18446744073709551616):bits .xor aM ((n:Int)/2) (-((n:Int)%2))=uz n:=by
 rw[show(n:Int)/2=((n/2:Nat):Int) from by omega];unfold uz;by_cases a:n%2=1
 .rw[show -((n:Int)%2)= -1 from by omega,Vw<|by omega,if_pos a]
 .rw[show -((n:Int)%2)=0 from by omega,Vx<|by omega,if_neg a]
def ade(a:n<18446744073709551616):bc 161 #[aJ .u64 (n:Int)] w λb c=>b=aN (z9<|uz n)/\c=w:=by
 have d:=PK a;have e:cY ((n:Int)/2)=((n/2:Nat):Int):=by unfold cY;omega
 skip
 go_enter aE.func161,Tryz.ntmps161;go_wp2;go_ret;exact⟨by rw[<-adb a];rfl,rfl⟩
def aah{s:ByteArray}(E:s.size<=32):bc 98 #[ay s] w λd z=>d=aN (ay s)/\aD w z:=by
 by_cases h:s.size=0
 .obtain rfl:s=⟨#[]⟩:=AI<|Array.eq_empty_of_size_eq_zero h;go_enter aE.func98,Tryz.ntmps98;go_wp2;go_ret;exact⟨rfl,bN _ _⟩
 .have⟨k,q,v,x,G⟩:=eW aE.Fp;have t:((aH ax).info? 5).map (·.size)=K 1:=by rfl
  have o:sY (aH ax) 5=1:=by rfl
  obtain⟨a,e⟩:∃a,a=m7 (aJ .u8 0).cells (bO ((s.size:Nat):Int)*k.size):=⟨_,rfl⟩;have A:a.size=s.size:=by rw[e,size_madeCells,x];simp
  have D:∀c:ag,(yW 133 (n9 s.size)<|n9 s.size).run (aH ax) c=cm (aG (U c.heap) s.size s.size) (c.alloc<|aq a 5):=λc=>by
   have g:=run_make (P:=(aH ax)) c 133 5 k (aJ .u8 0) aE.underlying133 q v aM aM (s.size:Int) (s.size:Int) aa aa bu aa;rw[<-e] at g;simpa using g
  clear e;have p:=Lib.run_copy_row_string (P:=(aH ax)) (w.alloc<|aq a 5) 133 9 3 5 (U w.heap) 0 s.size s.size s a 5 aE.underlying133 t (lF w _) (aZ _) aa;obtain⟨b,f⟩:∃b,b=cR (a.toList.take 0++Lib.byteCells (dY s.data)++a.toList.drop (0+s.size)):=⟨_,rfl⟩;rw[<-f] at p;have i:dY b=Lib.byteCells (dY s.data):=by
   rw[f,List.toList_toArray,List.take_zero,s6,za bu,l5]
  have B:b.size=s.size:=by rw[<-yJ,i,Lib.byteCells_length,<-uN]
  have j:cq ((w.alloc<|aq a 5).setRow (U w.heap) b) (U w.heap) b 5:=setRow_heap _ _ a _ 5 (0,0)<|lF w _;have r:dY s.data≠[]:=λd=>h (by rw[uN,d];rfl);have l:=Lib.run_unsafeString_row (P:=(aH ax)) ((w.alloc<|aq a 5).setRow (U w.heap) b) 206 3 9 5 aE.underlying206 o (U w.heap) b.size (by unfold World.shape?;rw[j]) (dY s.data) r (by rw[<-uN];omega) (by rw[<-uN];omega)
   (λy H u=>Lib.cells_of_row j b.size y _<|by rw[iF aI,i];simp[Lib.byteCells,u])
  rw[<-uN] at l;clear f;go_enter aE.func98,Tryz.ntmps98;go_wp2;go_ret;have m:aD w (w.alloc<|aq a 5):=(bN _ w).alloc (aZ _) _;have n:dZ (U w.heap) (w.alloc<|aq a 5) ((w.alloc<|aq a 5).setRow (U w.heap) b):=⟨rfl,rfl,rfl,aI,λF C=>setRow_other _ _ _ _ aa⟩;exact⟨rfl,Lib.below_freeze (fN m n) (p:=⟨U w.heap,0,Z⟩) (aZ _) _⟩
def EI(s:ByteArray)(b:ag)(e:s.size<=32):bc 66 #[ay s] b λa c=>a=aN (ay s)/\aD b c:=by
 go_enter aE.func66,Tryz.ntmps66;go_wp2_with fail;refine bG (aah e) ?_;rintro a c ⟨rfl,d⟩;go_wp2;go_ret;exact⟨rfl,d⟩
def ZH{s:ByteArray}(o:s.size<=aV)(P:k<=s.size)(h:w.heap[n]? =K (bQ s k)):
 bc 162 #[(aK n)] w λd e=>Kp n w e/\((∃b:ByteArray,d=aN (ay b)/\b.size<=32/\aQ (bytesOf s) k (bh b.size++bytesOf b)/\e.heap[n]? =K (bQ s<|k+I (bh b.size++bytesOf b)))\/
  (∃q,d=gO (g4 q)/\∀b:ByteArray,b.size<=32->¬aQ (bytesOf s) k (bh b.size++bytesOf b))):=by
 have F:=aA h;go_enter aE.func162,Tryz.ntmps162;go_wp2_with fail;refine bG (wL n k s o P F.o) ?_;rintro d U ⟨l,⟨a,rfl,N,Q,y,M⟩|⟨q,rfl,O⟩⟩;have f:=aA l;have j:=aA Q;have i:=aA M;have r:=aA N;have T:=l.size;by_cases S:32<a;have g:X (∀b:ByteArray,b.size<=32->¬aQ (bytesOf s) k (bh b.size++bytesOf b)):=by
  intro b z c;rw[dw] at c;have:=jQ aa (cA r.o) c.1 j.o;omega
 go_wp2_with (go_at_call 97;refine bG (lP n _ s _ i.o) ?_;rintro d e ⟨rfl,rfl⟩);exact⟨rfl,f.o,ai ⟨_,rfl,g.o⟩⟩;by_cases x:k+I (bh a)+a<=s.size;have A:(fw s (k+I (bh a))<|k+I (bh a)+a).size=a:=jC tN;have J:X (bytesOf (fw s (k+I (bh a))<|k+I (bh a)+a)=((bytesOf s).drop<|k+I (bh a)).take a):=by
  show _=_;rw[nu,show k+I (bh a)+a-(k+I (bh a))=a by omega]
 have H:X (∀w,w.heap[n]? =K (bQ s<|k+I (bh a))->bc 128 #[(aK n),n9 a] w λd e=>d=aN (ay<|fw s (k+I (bh a))<|k+I (bh a)+a)/\∃m,e=(aY w ⟨n,1,Z⟩<|z9 ((k+I (bh a)+a:Nat):Int)).drewN m):=
  λw p=>NZ n a s w o x p
 generalize fw s (k+I (bh a)) (k+I (bh a)+a)=C at*;go_wp2_with (go_at_call 128;refine bG (H.o _ i.o) ?_;rintro d B ⟨rfl,p⟩;have u:=aA p);have t:X (B.heap[n]? =K (bQ s<|k+I (bh a)+a)):=by
  obtain⟨m,rfl⟩:=u.o;exact vA i.o m
 have D:X (Kp n w B):=by
  obtain⟨m,rfl⟩:=u.o;exact f.o.set 1 _ m
 refine bG (EI C _ aa) ?_;rintro d R ⟨rfl,v⟩;have E:=aA<|D.o.trans<|Kp.iW v;have G:X (R.heap[n]? =K (bQ s<|k+I (bh a)+a)):=by
  show _=_;rw[cT v n<|bE t.o];exact t.o
 go_wp2;go_ret;refine⟨E.o,av ⟨C,rfl,aa,?_,?_⟩⟩;rw[dw,A];refine⟨j.o,?_⟩;rw[J.o];exact List.take_prefix _ _;rw[cJ,cM,A,<-gH];exact G.o;have g:X (∀b:ByteArray,b.size<=32->¬aQ (bytesOf s) k (bh b.size++bytesOf b)):=by
  intro b z c;rw[dw] at c;have:=jQ aa (cA r.o) c.1 j.o;rw[this] at c;have L:=o9 c.2 (by rw[cM];exact y);rw[cM,cM] at L;omega
 go_wp2_with (go_at_call 128;refine bG (NY n a s o (by omega) x y i.o) ?_;rintro d e ⟨rfl,m,rfl⟩);exact⟨rfl,f.o.drewN m,ai ⟨_,rfl,g.o⟩⟩;have g:X (∀b:ByteArray,b.size<=32->¬aQ (bytesOf s) k (bh b.size++bytesOf b)):=by
  intro b z c;rw[dw] at c;exact O b.size aa c.1
 have f:=aA l;go_wp2;exact⟨rfl,f.o,ai ⟨q,rfl,g.o⟩⟩
def sj(h:w.heap[n]? =K (aq #[v,x,y] Qd (0,0))):
 ap w ⟨n,0,Z⟩=K v/\ap w ⟨n,1,Z⟩=K x/\ap w ⟨n,2,Z⟩=K y/\cE w ⟨n,0,Z⟩=aj/\cE w ⟨n,1,Z⟩=aj/\cE w ⟨n,2,Z⟩=aj:=by
 refine⟨?_,?_,?_,?_,?_,?_⟩<;>first|simp[ap,h]|simp[cE,h]
def zB(a b e:F)(h:w.heap[n]? =K (aq #[v,x,y] Qd (0,0)))(c:Nat)(t:c≠n)(f:Kp c u w)(z:U u.heap<=n):
 let d:=aY (aY (aY w ⟨n,0,Z⟩ a) ⟨n,1,Z⟩ b) ⟨n,2,Z⟩ e
 bl d n 0 a/\bl d n 1 b/\bl d n 2 e/\d.heap[c]? =w.heap[c]? /\Kp c u d:=by
 have o:(aY w ⟨n,0,Z⟩ a).heap[n]? =K (aq #[a,x,y] Qd (0,0)):=gG<|ek w n 0 _ _ _ h;have p:(aY (aY w ⟨n,0,Z⟩ a) ⟨n,1,Z⟩ b).heap[n]? =K (aq #[a,b,y] Qd (0,0)):=gG<|ek _ n 1 _ _ _ o;have q:(aY (aY (aY w ⟨n,0,Z⟩ a) ⟨n,1,Z⟩ b) ⟨n,2,Z⟩ e).heap[n]? =K (aq #[a,b,e] Qd (0,0)):=gG<|ek _ n 2 _ _ _ p;have i:∀g,g≠n->(aY (aY (aY w ⟨n,0,Z⟩ a) ⟨n,1,Z⟩ b) ⟨n,2,Z⟩ e).heap[g]? =w.heap[g]? :=by
  intro g A;rw[ei _ _ _ _ aa,ei _ _ _ _ aa,ei _ _ _ _ aa]
 have⟨k,l,m,_⟩:=sj q;refine⟨k,l,m,i c t,f.os,f.tape,f.output,?_,?_⟩;simpa using f.size;intro j r s;rw[i j aa];exact m4 f j r s
def C5(i:Int)(ae:i=1\/i=2\/i=3)(d c:Nat)(s:ByteArray)(a:ag)(L:s.size<=aV)(E:c<=s.size)(h:a.heap[d]? =K (bQ s c)):
 bc 153 #[(aK d),z9 i] a λj A=>Kp d a A/\((∃v:aC,j=aN (bZ #[ak v.null,z9 v.n,ay v.s])/\VK i v/\aQ (bytesOf s) c (dc i v)/\c+I (dc i v)<=s.size/\A.heap[d]? =K (bQ s<|c+I (dc i v)))\/
  (∃m,j=gO (g4 m)/\∀v:aC,VK i v->¬aQ (bytesOf s) c (dc i v))):=by
 have am:=bE h;have ao:=aA h;have G:X ((a.alloc<|aq #[ak aj,z9 0,ay ⟨#[]⟩] 59).heap[d]? =K (bQ s c)):=by
  show _=_;rw[fM _ _ d am];exact h
 have n:X (Kp d a<|a.alloc<|aq #[ak aj,z9 0,ay ⟨#[]⟩] 59):=(Kp.refl d a).alloc _;have V:∀M,aQ (bytesOf s) c M->c+I M<=s.size:=λM z=>by have:=o9 z (by rw[cM];exact E);rwa [cM] at this
 rcases ae with rfl|rfl|rfl
 .go_enter aE.func153,Tryz.ntmps153;go_wp2_with fail;refine bG (Ot d c s L E G.o) ?_;rintro j B ⟨f,⟨b,rfl,W,o,x⟩|⟨m,rfl,y⟩⟩;have e:=aA<|n.o.trans f;have k:cq B (U a.heap) #[ak aj,z9 0,ay ⟨#[]⟩] 59:=Kp.block f (lF a _) aa;have⟨O,P,Q,R,S,T⟩:=sj k;have F:=aA k;have H:=aA x;have D:=aA o;have ab:=aA W;have ad:X (∀a,bc 161 #[aJ .u64 (b:Int)] a λj A=>j=aN (z9<|uz b)/\A=a):=λa=>ade W;go_wp2_with (go_at_call 161;refine bG (ad.o _) ?_;rintro j A ⟨rfl,rfl⟩);have⟨q,r,t,u,w⟩:=zB (ak aj) (z9<|uz b) (ay ⟨#[]⟩) F.o d aa e.o<|aZ _;simp[jI,dB,Tryz.results153,go_sem,q,r,t];have g:dc 1 ⟨aj,uz b,⟨#[]⟩⟩=bh b:=by show bh (zz<|uz b)=_;rw[aem]
  have Z:=Oq b ab.o;refine⟨w,⟨aj,uz b,⟨#[]⟩⟩,⟨rfl,rfl,rfl⟩,⟨rfl,Z.1,Z.2,λ_=>rfl,λh=>aa,λh=>aa⟩,?_,?_,?_⟩
  .rw[g];exact D.o
  .rw[g];exact V _ D.o
  .rw[g,u];exact H.o
  .have p:X (∀v:aC,VK 1 v->¬aQ (bytesOf s) c (dc 1 v)):=λv l=>y (zz v.n)<|vJ l.lo l.hi;have e:=aA<|n.o.trans f;go_wp2;exact⟨rfl,e.o,ai ⟨m,rfl,p.o⟩⟩
 .go_enter aE.func153,Tryz.ntmps153;go_wp2_with fail;refine bG (Es d c s L E G.o) ?_;rintro j B ⟨f,⟨b,rfl,J,o,x,al⟩|⟨m,rfl,y⟩⟩;have e:=aA<|n.o.trans f;have k:cq B (U a.heap) #[ak aj,z9 0,ay ⟨#[]⟩] 59:=Kp.block f (lF a _) aa;have⟨O,P,Q,R,S,T⟩:=sj k;have F:=aA k;have H:=aA x;have D:=aA o;have N:=aA J;go_wp2;have⟨q,r,t,u,w⟩:=zB (ak aj) (z9 b) (ay ⟨#[]⟩) F.o d aa e.o<|aZ _;simp[jI,dB,Tryz.results153,go_sem,q,r,t];have g:dc 2 ⟨aj,b,⟨#[]⟩⟩=[bO b]:=by show[byteOf b]=_;rw[xH N.o]
  have J:=N.o;refine⟨w,⟨aj,b,⟨#[]⟩⟩,⟨rfl,rfl,rfl⟩,⟨rfl,bu,bu,λh=>aa,λ_=>⟨J,rfl⟩,λh=>aa⟩,?_,?_,?_⟩;rw[g];exact D.o;rw[g];exact al;rw[g,u];exact H.o;have p:X (∀v:aC,VK 2 v->¬aQ (bytesOf s) c (dc 2 v)):=λv l z=>y v.n (l.s2 Y).1 (by rw[<-xH (l.s2 Y).1];exact z);have e:=aA<|n.o.trans f;go_wp2;exact⟨rfl,e.o,ai ⟨m,rfl,p.o⟩⟩
 .go_enter aE.func153,Tryz.ntmps153;go_wp2_with fail;refine bG (ZH L E G.o) ?_;rintro j B ⟨f,⟨C,rfl,an,o,x⟩|⟨m,rfl,y⟩⟩;have e:=aA<|n.o.trans f;have k:cq B (U a.heap) #[ak aj,z9 0,ay ⟨#[]⟩] 59:=Kp.block f (lF a _) aa;have⟨O,P,Q,R,S,T⟩:=sj k
  skip
  go_wp2;have⟨q,r,t,u,w⟩:=zB (ak aj) (z9 0) (ay C) k d aa e.o<|aZ _;simp[jI,dB,Tryz.results153,go_sem,q,r,t];have g:dc 3 ⟨aj,0,C⟩=bh C.size++bytesOf C:=rfl;refine⟨w,⟨aj,0,C⟩,⟨rfl,rfl,rfl⟩,⟨rfl,aI,aI,λh=>aa,λh=>aa,λ_=>⟨rfl,an⟩⟩,?_,?_,?_⟩;rw[g];exact o;rw[g];exact V _ o;rw[g,u];exact x;have p:X (∀v:aC,VK 3 v->¬aQ (bytesOf s) c (dc 3 v)):=λv l z=>y v.s (l.s3 Y).2 z;have e:=aA<|n.o.trans f;go_wp2;exact⟨rfl,e.o,ai ⟨m,rfl,p.o⟩⟩
def LH(h:aT w n 3 1 (aG m k i) k (cO qZ))(g:I qZ=k)(b:Nat)(f:b<k):bl w m b (z9<|aW qZ b 0):=by
 subst g;have⟨j,l,q,o,c,d,p,e⟩:=iE.gB h;simp only[j9] at c;have⟨a,_,_⟩:=c;rw[(d aa)] at a;simp only[iG,nM] at a;have:=e b f;rw[<-a.1,<-a.2.1,fq] at this;exact this
def J4(h:0<I qZ):List.getLast? qZ=K (aW qZ (I qZ-1) 0):=by
 rw[List.getLast?_eq_getElem?,aW,dV aa];rfl
def C6(b:List Int)(m:Nat)(a:Int):cO (b++dH m a)++[z9 a]=cO (b++dH (m+1) a):=by
 rw[tq,ij,List.replicate_succ']
def Ma(s:ByteArray)(f e b:Nat)(bl:s.size<=aV)(bL:b<=100)(b0:e<=s.size)(h:w.heap[f]? =K (bQ s e)):
 bc 164 #[(aK f),aJ aM b] w λj ab=>Kp f w ab/\
  ((∃(a:List Int) (v:F),j=aN v/\I a=b/\iY a/\aQ (bytesOf s) e (eV a)/\(∀c:List Int,I c=b->iY c->aQ (bytesOf s) e (eV c)->c=a)/\e+I (eV a)<=s.size/\
    ab.heap[f]? =K (bQ s<|e+I (eV a))/\aT ab (U w.heap) 3 1 v (I a) (cO a))\/
   (∃W,j=gO (g4 W)/\∀c:List Int,I c=b->iY c->¬aQ (bytesOf s) e (eV c))):=by
 have⟨a7,a4,b2,a6,b3⟩:=eW aE.pN;have a5:=bE h
 skip
 go_enter aE.func164,Tryz.ntmps164;go_wp2_with (at_make;refine wpList_make_own _ Y _ _ 22 Y (U w.heap) 3 a7 (aJ aM 0) 1 aE.underlying22 a4 b2 a6 aM aM _ b Y Y Y (by rw[b3];omega) fW (aZ _) ?_;intro bv br a3);have a9:X (Kp f w bv):=(Kp.refl f w).grown a3 aI;have bb:X (bv.heap[f]? =K (bQ s e)):=by show _=_;rw[a3.block f a5<|by simp];exact h
 clear a3
 go_loopw [5] (λC wr=>∃(a:List Int) (i:List Nat),C=ah (K ⟨U w.heap,0,Z⟩) (I a) b/\oR (bytesOf s) e b a i/\e+I i<=s.size/\wr.heap[f]? =K (bQ s<|e+I i)/\
  aT wr (U w.heap) 3 1 (ah (K ⟨U w.heap,0,Z⟩) (I a) b) (I a) (cO a)/\Kp f w wr) (λC _=>match C with|ah _ d _=>b-d|_=>0)
 exact⟨[],[],rfl,oR.zero _ _ _,by simpa using b0,by simpa using bb.o,br,a9.o⟩;clear br a9 bb;obtain⟨a,i,rfl,o,bs,bi,bo,al⟩:=hrel;have ck:U w.heap<=U wr.heap:=al.size;have bP:=o.le
 skip
 by_cases q:I a<b
 .go_wp2_with fail;refine bG (wL f (e+I i) s bl bs bi) ?_;rintro j cl ⟨O,⟨d,rfl,an,ao,bk,bF⟩|⟨W,rfl,S⟩⟩
  .have E:=aA<|al.trans O;have aC:=aA<|O.own bo a5;clear O;go_wp2_with fail;refine bG (Es f (e+I i+I (bh d)) s bl bk bF) ?_;rintro j cn ⟨P,⟨g,rfl,k,bu,am,cd⟩|⟨W,rfl,S⟩⟩
   .have p:=aA<|E.o.trans P;have G:=aA<|P.own aC.o a5;have a8:=aA k;clear P E aC k;by_cases bK:d=0\/b-I a<d
    .have r:X (∀c:List Int,I c=b->iY c->¬aQ (bytesOf s) e (eV c)):=by
      intro c x k A;have⟨ar,M,m,aH,aR,ae,n,t,J,aU,a0⟩:=o.next q c x k A;have:=jQ aa (by have:=an;omega) t ao;omega
     go_wp2_with (go_at_call 97;refine bG (lP f _ s _ am) ?_;rintro j ab ⟨rfl,rfl⟩)
     all_goals exact⟨rfl,p.o,ai ⟨_,rfl,r.o⟩⟩
    .have bW:d≠0:=by omega
     have bm:d+I a<=b:=aa;have ci:((d:Int)==0)=aj:=bS;clear bK;by_cases l:0<I a/\aW a (I a-1) 0=g
     .have r:X (∀c:List Int,I c=b->iY c->¬aQ (bytesOf s) e (eV c)):=by
       intro c x k A;have⟨ar,M,m,aH,aR,ae,n,t,J,aU,a0⟩:=o.next q c x k A;have H:=jQ aa (by have:=an;omega) t ao;subst H;have be:M=g:=by
        have a1:=bu;rw[mR] at J a1;rw[J] at a1;simp at a1;have:=a8.o;omega
       rw[J4 l.1,l.2,be] at n;rcases n with n|n;rw[n] at l;simp at l;exact n Y
      obtain⟨L,bM⟩:∃L,I a=L+1:=⟨I a-1,aa⟩;have bj:=LH G.o Y L aa;have R:aW a L 0=g:=by rw[<-l.2,bM];rfl
      rw[R] at bj;clear l R;have bd:decide ((b:Int)-(I a:Int)<(d:Int))=aj:=bS;have H:cY ((b:Int)-(I a:Int))=(b:Int)-(I a:Int):=by unfold cY;omega
      have be:cY ((I a:Int)-1)=(L:Int):=by unfold cY;omega
      have b6:(L:Int)<(I a:Int):=by omega
      go_wp2_with (go_at_call 97;refine bG (lP f _ s _ am) ?_;rintro j ab ⟨rfl,rfl⟩);exact⟨rfl,p.o,ai ⟨_,rfl,r.o⟩⟩
     .have bx:X (a=[]\/List.getLast? a≠K g):=by
       by_cases N:0<I a
       right
       rw[J4 N];intro j;simp only[iG] at j;exact l ⟨N,j⟩
       left
       exact vX.1 aa
      have ba:X (oR (bytesOf s) e b (a++dH d g)<|i++(bh d++[bO g])):=o.more bW aa (by have:=an;omega) a8.o bx.o ao bu bL q;have bd:decide ((b:Int)-(I a:Int)<(d:Int))=aj:=bS;have H:cY ((b:Int)-(I a:Int))=(b:Int)-(I a:Int):=by unfold cY;omega
      have cf:d<=100:=by omega
      clear bk;by_cases N:0<I a
      .have bj:=LH G.o Y (I a-1) aa;have R:aW a (I a-1) 0≠g:=λj=>l ⟨N,j⟩;generalize aW a (I a-1) 0=b5 at*;have b7:(b5==g)=aj:=by simp;exact R
       clear l R;go_wp2_with fail
       go_loopw [5,46] (λC B D=>∃m:Nat,m<=d/\B=aJ aM (m:Int)/\C=ah (K ⟨U w.heap,0,Z⟩) (I a+m) b/\D.heap[f]? =K (bQ s<|e+I i+I (bh d)+1)/\
        aT D (U w.heap) 3 1 (ah (K ⟨U w.heap,0,Z⟩) (I a+m) b) (I a+m) (cO<|a++dH m g)/\Kp f w D) (λ_ B _=>d-bO (bB B))
       exact⟨0,cH _,rfl,rfl,am,by simpa using G.o,p.o⟩;clear G p;obtain⟨m,bV,rfl,rfl,Q,z,u⟩:=hrel;have aF:=aA Q;have az:=aA u;have b1:=u.size;clear Q u;by_cases bT:m<d
       .go_wp2_with (at_builtin;refine rT _ Y _ _ 22 Y (U w.heap) 3 a7 1 aE.underlying22 a4 a6 (U w.heap) (I a+m) b _ Y (z.alloc _) ⟨U wr.heap,0,Z⟩ 1 1 [aJ aM g] Y Y (by exact pU _) ?c2 (by omega) ?_)
        case c2=>intro b4 V;simp at V;subst V;rfl
        intro ad T y;have aw:X (Kp f w ad):=(az.o.alloc _).grown y (by intro bD a2;simp at a2;omega);have aD:X (ad.heap[f]? =K (bQ s<|e+I i+I (bh d)+1)):=by
         show _=_;rw[y.block f (by simp;omega)<|by simp;omega,fM wr _ f<|by omega];exact aF.o
        rw[C6] at T;clear z y az aF;go_wp2
        go_roundw
        case rel=>exact⟨m+1,by omega,by go_num,by first|rfl|(rw[gH]),aD.o,by rw[<-gH];exact T,aw.o⟩
        case measure=>simp[bB];omega
       obtain rfl:m=d:=aa;go_wp2
       go_roundw
       exact⟨a++dH m g,i++(bh m++[bO g]),aI,ba.o,bS,by rw[show e+I (i++(bh m++[bO g]))=e+I i+I (bh m)+1 by simp;omega];exact aF.o,by simpa using z,az.o⟩;simp;omega
      .obtain rfl:a=[]:=vX.1 aa;have ch:d<=b:=by simpa using bm
       have b8:decide (b<d)=aj:=bS;have ca:decide ((b:Int)<(d:Int))=aj:=bS;have cc:0<b:=by simpa using q
       clear l N bd H bm bP q;go_wp2_with fail
       go_loopw [5,46] (λC B D=>∃m:Nat,m<=d/\B=aJ aM (m:Int)/\C=ah (K ⟨U w.heap,0,Z⟩) m b/\D.heap[f]? =K (bQ s<|e+I i+I (bh d)+1)/\
        aT D (U w.heap) 3 1 (ah (K ⟨U w.heap,0,Z⟩) m b) m (cO<|dH m g)/\Kp f w D) (λ_ B _=>d-bO (bB B))
       exact⟨0,cH _,rfl,rfl,am,G.o,p.o⟩;clear G p;obtain⟨m,bV,rfl,rfl,Q,z,u⟩:=hrel;have b1:=u.size
       skip
       by_cases bT:m<d
       .go_wp2_with (at_builtin;refine rT _ Y _ _ 22 Y (U w.heap) 3 a7 1 aE.underlying22 a4 a6 (U w.heap) m b _ Y (z.alloc _) ⟨U wr.heap,0,Z⟩ 1 1 [aJ aM g] Y Y (by exact pU _) ?c2 (by omega) ?_)
        case c2=>intro b4 V;simp at V;subst V;rfl
        intro ad T y;have aw:X (Kp f w ad):=(u.alloc _).grown y (by intro bD a2;simp at a2;omega);have aD:X (ad.heap[f]? =K (bQ s<|e+I i+I (bh d)+1)):=by
         show _=_;rw[y.block f (by simp;omega)<|by simp;omega,fM wr _ f<|by omega];exact Q
        rw[show cO (dH m g)++[aJ aM g]=cO (dH (m+1) g) from C6 [] m g] at T;clear z y;go_wp2
        go_roundw
        case rel=>exact⟨m+1,by omega,by go_num,rfl,aD.o,T,aw.o⟩
        case measure=>simp[bB];omega
       obtain rfl:m=d:=aa;go_wp2
       go_roundw
       exact⟨dH m g,i++(bh m++[bO g]),aI,by simpa using ba.o,bS,by rw[show e+I (i++(bh m++[bO g]))=e+I i+I (bh m)+1 by simp;omega];exact Q,by simpa using z,u⟩;simp;omega
   .have r:X (∀c:List Int,I c=b->iY c->¬aQ (bytesOf s) e (eV c)):=by
     intro c x k A;have⟨ar,M,m,aH,aR,ae,n,t,J,aU,a0⟩:=o.next q c x k A;have H:=jQ aa (by have:=an;omega) t ao;subst H;exact S M ae J
    have p:=aA<|E.o.trans P;clear S P E aC;go_wp2;exact⟨rfl,p.o,ai ⟨W,rfl,r.o⟩⟩
  .have r:X (∀c:List Int,I c=b->iY c->¬aQ (bytesOf s) e (eV c)):=by
    intro c x k A;have⟨ar,M,m,aH,aR,ae,n,t,J,aU,a0⟩:=o.next q c x k A;exact S ar aa t
   have E:=aA<|al.trans O;clear S O;go_wp2;exact⟨rfl,E.o,ai ⟨W,rfl,r.o⟩⟩
 have⟨bz,aG,bC⟩:=o.done q;have bH:aQ (bytesOf s) e i:=o.st
 skip
 go_wp2;go_ret;exact⟨al,av ⟨a,_,rfl,bz,o.bits,by rw[aG];exact bH,bC,by rw[aG];exact bs,by rw[aG];exact bi,bo⟩⟩
def rP (b:List bx)(c:List Int):Prop:=I b=I c/\∀a,(d:a<I b)->e4 b[a].kind (aW c a 0)=af
def PN(b:List bx)(d:List Int)(i:ag)(W:I b<=aV)(Y:I d<=aV)(O:px i v b)(Q:iE i x d):
 bc 57 #[x,v] i λL ad=>∃s,L=aN (ak s)/\(s=af↔rP b d)/\aD i ad:=by
 obtain⟨al,am,aG,an,rfl,aC,h⟩:=O;obtain⟨ar,m,n,ao,rfl,N,T,o⟩:=Q;unfold aV at W Y;by_cases p:I b=I d
 .have S:((I d:Int) !=(I b:Int))=aj:=by simp[p]
  have r:=aA p;have D:=aA h;have A:=aA o;go_enter aE.func57,Tryz.ntmps57;go_wp2_with fail
  go_loopw [14] (λc wr=>∃a:Nat,a<=I b/\c=z9 a/\(∀c,(e:c<I b)->c<a->e4 b[c].kind (aW d c 0)=af)/\aD i wr) (λc _=>I b-bO (bB c))
  exact⟨0,cH _,rfl,λaU _ e=>aa,bN _ _⟩;obtain⟨a,aF,rfl,u,g⟩:=hrel;have z:=g.size
  skip
  by_cases l:a<I b
  .have h:=D.o.below g;obtain rfl:=h.addr aa;have V:a<I d:=by rw[<-r.o];exact l
   obtain rfl:=N aa;have y:=T aa;have aH:=h.c0 a l;have aI:=h.c1 a l;have ab:bl wr m (n+a) (z9<|aW d a 0):=(bA g (p:=⟨m,n+a,Z⟩) y).trans<|A.o a V;have P:=cL y z;have E:X (e4 b[a].kind (aW d a 0)=aj->¬rP b d):=λe o=>by
    have:=o.2 a l;rw[e] at this;cases this
   have H:X (e4 b[a].kind (aW d a 0)=af->∀c,(e:c<I b)->c<a+1->e4 b[c].kind (aW d c 0)=af):=λe c R az=>by
    by_cases M:c=a;subst M;exact e;exact u c R aa
   generalize b[a]=f at*;generalize aW d a 0=t at*;go_upto_region 6 with fail;have⟨aK,aQ⟩:=Oh wr (ay f.name) (z9 f.kind) 63;have w:aD wr (wr.alloc<|aq #[ay f.name,z9 f.kind] 63):=(bN _ _).alloc (aZ _) _;have aR:=(bA w (p:=⟨m,n+a,Z⟩) P).trans ab;have q:=aA<|g.trans<|w.mono z;generalize wr.alloc (aq #[ay f.name,z9 f.kind] 63)=ae at*;generalize U wr.heap=aw at*;have j:=λK=>Kc f.kind t K;cases k:e4 f.kind t
   .have G:=aA<|E.o k;rw[k] at j;go_quiet ((go_at_call 83;exact vO<|j _));go_wp2;go_ret;exact av ⟨rfl,G.o,below_drewN q.o _⟩
   have J:=aA<|H.o k;rw[k] at j;go_quiet ((go_at_call 83;exact vO<|j _));go_wp2
   go_roundw
   exact⟨a+1,by omega,by go_num,J.o,below_drewN q.o _⟩;simp[bB];omega
  have C:X (rP b d):=⟨r.o,λc e=>u c e aa⟩
  skip
  go_wp2;go_ret;exact⟨af,rfl,by simp only[true_iff];exact C.o,g⟩
 .have S:((I d:Int) !=(I b:Int))=af:=by simp;omega
  have B:X (¬rP b d):=λe=>p e.1;go_enter aE.func57,Tryz.ntmps57;go_wp2
  all_goals go_ret
  all_goals exact⟨aj,rfl,by simp only[eN,false_iff];exact B.o,bN _ _⟩
def TY(b:List bx)(d:List Int)(h:ag)(R:I b<=aV)(S:I d<=aV)(K:px h v b)(M:iE h x d):
 bc 103 #[v,x] h λG T=>∃o,G=aN (ak o)/\(o=af↔rP b d)/\aD h T:=by
 obtain⟨U,V,an,W,rfl,ae,g⟩:=K;obtain⟨ab,p,r,Y,rfl,J,P,k⟩:=M;unfold aV at R S;by_cases l:I b=I d
 .have O:((I b:Int) !=(I d:Int))=aj:=by simp[l]
  have n:=aA l;have z:=aA g;have u:=aA k;clear g l k;go_enter aE.func103,Tryz.ntmps103;go_wp2_with fail
  go_loopw [5] (λc wr=>∃a:Nat,a<=I b/\c=z9 a/\(∀c,(e:c<I b)->c<a->e4 b[c].kind (aW d c 0)=af)/\aD h wr) (λc _=>I b-bO (bB c))
  exact⟨0,cH _,rfl,λar _ e=>aa,bN _ _⟩;obtain⟨a,al,rfl,s,f⟩:=hrel
  skip
  by_cases m:a<I b;have g:=z.o.below f;obtain rfl:=g.addr aa;have Q:a<I d:=by rw[<-n.o];exact m
  obtain rfl:=J aa;have L:=P aa;have ao:=g.c1 a m;have am:bl wr p (r+a) (z9<|aW d a 0):=aB (bA f (p:=⟨p,r+a,Z⟩) L)<|u.o a Q;have A:X (e4 b[a].kind (aW d a 0)=aj->¬rP b d):=λe k=>by
   have:=k.2 a m;rw[e] at this;cases this
  have C:X (e4 b[a].kind (aW d a 0)=af->∀c,(e:c<I b)->c<a+1->e4 b[c].kind (aW d c 0)=af):=λe c N ad=>by
   by_cases H:c=a;subst H;exact e;exact s c N aa
  generalize b[a]=t at*;generalize aW d a 0=q at*;have i:=λE=>Ui t.kind q E;cases j:e4 t.kind q;have B:=aA<|A.o j;rw[j] at i;go_wp2_with fail;go_quiet ((go_at_call 132;exact vO<|i _));go_wp2;go_ret;exact⟨aj,rfl,by simp only[eN,false_iff];exact B.o,below_drewN f _⟩;have D:=aA<|C.o j;rw[j] at i;go_wp2_with fail;go_quiet ((go_at_call 132;exact vO<|i _));go_wp2
  go_roundw
  exact⟨a+1,aa,by go_num,D.o,below_drewN f _⟩;simp[bB];omega;have y:X (rP b d):=⟨n.o,λc e=>s c e aa⟩
  skip
  go_wp2;go_ret;exact⟨af,rfl,by simp only[true_iff];exact y.o,f⟩
 .have O:((I b:Int) !=(I d:Int))=af:=by simp;omega
  have w:X (¬rP b d):=λe=>l e.1;go_enter aE.func103,Tryz.ntmps103;go_wp2
  all_goals go_ret
  all_goals exact⟨aj,rfl,by simp only[eN,false_iff];exact w.o,bN _ _⟩
def N7(a:ag)(b c d:F)(e:aP):ap (cG a<|aq #[b,c,d] e) ⟨U a.heap,0,Z⟩=K b/\ap (cG a<|aq #[b,c,d] e) ⟨U a.heap,1,Z⟩=K c/\ap (cG a<|aq #[b,c,d] e) ⟨U a.heap,2,Z⟩=K d:=by
 refine⟨?_,?_,?_⟩<;>simp
def iE.lower(h:iE w v qZ)(c:aD w u):iE u v qZ:=by
 obtain⟨f,a,e,g,rfl,j,b,k⟩:=h;exact⟨f,a,e,g,rfl,j,λi=>cL (b i) c.size,λd l=>aB (bA c (p:=⟨a,e+d,Z⟩)<|b aa)<|k d l⟩
def Dp(h:w.heap[n]? =K (aq C Qd (0,0))):pF w n 0 (dY C):=by
 intro b v a;rw[fq];simp only[ap,h];simpa using a
def MC(h:w.heap[n]? =K (aq C Qd (0,0))):w.there n 0 (U C):=by
 intro b a;rw[fq];refine⟨?_,?_⟩;simp[ap,h,a];simp[cE,h]
theorem IP{a:Nat}{d:ag}{f:Nat}(h:a<=U d.heap)(g:a<=f):∀(j:List F) (c:Nat) (e:ag),dZ a d e->dZ a d (m5 e f c j)
 | [],_,_,b=>b
 |v::i,c,e,b=>IP h g i (c+1) _<|ku b h g
theorem zA{d a:Nat}(h:a≠d):∀(f:List F) (b:Nat) (c:ag),(m5 c d b f).heap[a]? =c.heap[a]?
 | [],_,_=>rfl
 |v::e,b,c=>by
  rw[m5,zA h e<|b+1];exact ei _ _ _ _<|cN h
def LV{fn:Func}{c:gN->ag->Prop}{b:Tmp}{a:TypeDesc}(k:rR fn=#[.cell b Qd])(f:bU Q=[])
 (m:Q.tmps.getD b undef=(aK n)) (e:pF w n 0 S) (l:g9 Qo Qd=K a) (g:a.isRow=af) (i:(Qo.info? Qd).map (·.size)=K (I S)) (h:c (aN<|bZ<|cR S) w):jI Qo fn c .ret Q w:=by
 refine bodyPost_ret (v:=bZ<|cR S) ?_ f h;have d:=run_loadVar_mid w n 0 Qd S a e l g i;have j:Q.tmps[b]?.getD undef=(aK n):=nE;simp[dB,k,j,asAddr,Sem.run_bind,Result.andThen,d]
def aag{s:ByteArray}(E:s.size<=65536):bc 98 #[ay s] w λd z=>d=aN (ay s)/\aD w z:=by
 by_cases h:s.size=0
 .obtain rfl:s=⟨#[]⟩:=AI<|Array.eq_empty_of_size_eq_zero h;go_enter aE.func98,Tryz.ntmps98;go_wp2;go_ret;exact⟨rfl,bN _ _⟩
 .have⟨k,q,v,x,G⟩:=eW aE.Fp;have t:((aH ax).info? 5).map (·.size)=K 1:=by rfl
  have o:sY (aH ax) 5=1:=by rfl
  obtain⟨a,e⟩:∃a,a=m7 (aJ .u8 0).cells (bO ((s.size:Nat):Int)*k.size):=⟨_,rfl⟩;have A:a.size=s.size:=by rw[e,size_madeCells,x];simp
  have D:∀c:ag,(yW 133 (n9 s.size)<|n9 s.size).run (aH ax) c=cm (aG (U c.heap) s.size s.size) (c.alloc<|aq a 5):=λc=>by
   have g:=run_make (P:=(aH ax)) c 133 5 k (aJ .u8 0) aE.underlying133 q v aM aM (s.size:Int) (s.size:Int) aa aa bu aa;rw[<-e] at g;simpa using g
  clear e;have p:=Lib.run_copy_row_string (P:=(aH ax)) (w.alloc<|aq a 5) 133 9 3 5 (U w.heap) 0 s.size s.size s a 5 aE.underlying133 t (lF w _) (aZ _) aa;obtain⟨b,f⟩:∃b,b=cR (a.toList.take 0++Lib.byteCells (dY s.data)++a.toList.drop (0+s.size)):=⟨_,rfl⟩;rw[<-f] at p;have i:dY b=Lib.byteCells (dY s.data):=by
   rw[f,List.toList_toArray,List.take_zero,s6,za bu,l5]
  have B:b.size=s.size:=by rw[<-yJ,i,Lib.byteCells_length,<-uN]
  have j:cq ((w.alloc<|aq a 5).setRow (U w.heap) b) (U w.heap) b 5:=setRow_heap _ _ a _ 5 (0,0)<|lF w _;have r:dY s.data≠[]:=λd=>h (by rw[uN,d];rfl);have l:=Lib.run_unsafeString_row (P:=(aH ax)) ((w.alloc<|aq a 5).setRow (U w.heap) b) 206 3 9 5 aE.underlying206 o (U w.heap) b.size (by unfold World.shape?;rw[j]) (dY s.data) r (by rw[<-uN];omega) (by rw[<-uN];omega)
   (λy H u=>Lib.cells_of_row j b.size y _<|by rw[iF aI,i];simp[Lib.byteCells,u])
  rw[<-uN] at l;clear f;go_enter aE.func98,Tryz.ntmps98;go_wp2;go_ret;have m:aD w (w.alloc<|aq a 5):=(bN _ w).alloc (aZ _) _;have n:dZ (U w.heap) (w.alloc<|aq a 5) ((w.alloc<|aq a 5).setRow (U w.heap) b):=⟨rfl,rfl,rfl,aI,λF C=>setRow_other _ _ _ _ aa⟩;exact⟨rfl,Lib.below_freeze (fN m n) (p:=⟨U w.heap,0,Z⟩) (aZ _) _⟩
def Je(s:ByteArray)(b:ag)(e:s.size<=65536):bc 66 #[ay s] b λa c=>a=aN (ay s)/\aD b c:=by
 go_enter aE.func66,Tryz.ntmps66;go_wp2_with fail;refine bG (aag e) ?_;rintro a c ⟨rfl,d⟩;go_wp2;go_ret;exact⟨rfl,d⟩
def IY(b a:Nat)(s:ByteArray)(i:bg s<=aV)(j:a<=bg s)(h:w.heap[b]? =K (bQ s a)):
 bc 129 #[(aK b)] w λd g=>Kp b w g/\((∃c:Nat,d=aN (aJ .u8 (c:Int))/\c<256/\aQ (bytesOf s) a [c]/\a+1<=bg s/\g.heap[b]? =K (bQ s<|a+1))\/
  (∃l,d=gO (g4 l)/\∀c:Nat,¬aQ (bytesOf s) a [c])):=by
 by_cases e:a<bg s;refine bG (B8 b a s w i e h) ?_;rintro d g ⟨rfl,f,rfl⟩;exact⟨(Kp.refl b w).set 1 _ f,av ⟨_,rfl,s[a].toNat_lt,mR.2<|va s a e,e,vA h f⟩⟩
 .refine bG (B7 b a s i e j h) ?_;rintro d g ⟨rfl,f,rfl⟩;refine⟨(Kp.refl b w).drewN f,ai ⟨_,rfl,λc k=>?_⟩⟩;have:=o9 k (by rw[cM];exact j);rw[cM] at this;simp at this;omega
def N0(b c a:Nat)(s:ByteArray)(k:bg s<=aV)(l:c<=bg s)(n:a<=2147483648)(h:w.heap[b]? =K (bQ s c)):
 bc 128 #[(aK b),n9 a] w λd f=>Kp b w f/\((∃i:ByteArray,d=aN (ay i)/\bg i=a/\aQ (bytesOf s) c (bytesOf i)/\c+a<=bg s/\f.heap[b]? =K (bQ s<|c+a))\/
  (∃o,d=gO (g4 o)/\∀j:List Nat,I j=a->¬aQ (bytesOf s) c j)):=by
 by_cases g:c+a<=bg s
 .refine bG (NZ b a s w k g h) ?_;rintro d f ⟨rfl,e,rfl⟩;refine⟨(Kp.refl b w).set 1 _ e,av ⟨_,rfl,nE,?_,g,vA h e⟩⟩;rw[nu];exact List.take_prefix _ _
 .refine bG (NY b a s k n g l h) ?_;rintro d f ⟨rfl,e,rfl⟩;refine⟨(Kp.refl b w).drewN e,ai ⟨_,rfl,λj p m=>?_⟩⟩;have:=o9 m (by rw[cM];exact l);rw[cM] at this;omega
def MO{P:bn}(b:ag)(h y z i:aP)(d c f n:Nat)(e:aL)(g x s:Nat)(m:aP)(a:List F)(k:oI)
 (w:g9 P h=K (.slice i)) (q:P.info? i=K k) (t:k.size=s) (p:b.heap[d]? =K (aq C m (0,0))) (r:I a=Nat.min g f*s)
 (u:∀l v,a[l]? =K v->ap b (e.add l)=K v) (A:c+I a<=C.size) (o:∀v∈a,m3 v=af):
 (sV #[h,y] z #[.slice (K ⟨d,c,Z⟩) f n,.slice (K e) g x]).run P b=cm (goInt<|Nat.min g f) (b.setRow d<|cR<|C.toList.take c++a++C.toList.drop (c+I a)):=by
 have j:=run_loadCells_list (P:=P) b e a u;rw[r] at j;simp[sV,uQ w,uL,uK,sizeOf,typeInfo,q,t,j,(run_storeCells_at P d c m a 0 C b p aa o)]
def MP{P:bn}{a j l b:aP}{h:oI}(g:g9 P a=K (.slice b))(d:P.info? b=K h)(f:Nat.min k n=0):
 (sV #[a,j] l #[.slice O n m,.slice QD k i]).run P w=cm (goInt 0) w:=by
 have e:∀(c:aL),(loadCells c 0).run P w=cm #[] w:=λc=>by rfl
 cases O<;>cases QD<;>simp[sV,uQ g,uL,uK,sizeOf,typeInfo,d,f,storeCells,e]
def zeroV:aC:=⟨aj,0,⟨#[]⟩⟩
def adn{b:List aC}:∀(a:Nat) (v:aC),a<I b->gh (gh (gh (bM b) (a*3)<|ak v.null) (a*3+1)<|z9 v.n) (a*3+2) (ay v.s)=bM (gh b a v):=by
 induction b with
 |nil=>intro a v c;simp at c
 |cons f e d=>
  intro a v c;cases a with
  |zero=>simp[DO]
  |succ a=>
   have:=d a v (by simpa using c);rw[b9,DO,DO,<-this,show(a+1)*3=a*3+1+1+1 by omega];simp[b9]
def adm(c:List aC):∀v∈bM c,m3 v=af:=by
 intro v a;unfold bM at a;have⟨d,_,b⟩:=xy.1 a;exact lz d v b
def W1(c:Nat):dY (m7 (jn<|bZ #[ak aj,aJ aM 0,ay ⟨#[]⟩])<|c*3)=bM (dH c zeroV):=by
 apply List.ext_getElem?;intro b;by_cases d:b<c*3
 .obtain⟨a,i,h⟩:∃a,a<c/\(b=a*3\/b=a*3+1\/b=a*3+2):=⟨b/3,by omega,by omega⟩;obtain⟨e,f,g⟩:=tJ (dH c zeroV) a (by simpa using i);rw[List.getElem_replicate] at e f g;rcases h with rfl|rfl|rfl
  .rw[e];simp[m7,jn,zeroV,d]
  .rw[f];simp[m7,jn,zeroV,d,show(a*3+1)%3=1 by omega]
  .rw[g];simp[m7,jn,zeroV,d,show(a*3+2)%3=2 by omega]
 .rw[uS<|by simp[size_madeCells];omega,uS<|by rw[yF];simp;omega]
def adx(h:w.heap[m]? =K (aq (cR S) 59 (0,0)))(a:I S=k*3)(b:n<=m)(c:k<=aV):
 aT w n 59 3 (aG m k k) k S:=
 ⟨a,ai ⟨m,k,cR S,rfl,b,h,aZ _,c,by simp[a],by simp;exact iF aa⟩⟩
def adj(h:aT w n 59 3 (aG m k k) k S):w.heap[m]? =K (aq (cR S) 59 (0,0)):=by
 rcases h.2 with⟨a,_⟩|⟨g,f,b,a,_,c,_,_,d,e⟩;simp at a;simp only[j9,iG,nM,and_true,true_and] at a;obtain⟨rfl,rfl⟩:=a;rw[c];have:dY b=S:=by rw[<-e];exact bq (iF<|by simp[d])
 rw[<-this]
def Sf{a b:List UInt8}(c:n<I a)(d:n<I b):mz (a.drop n) (b.drop n)=if a[n]<b[n] then -1 else if b[n]<a[n] then 1 else mz (a.drop<|n+1) (b.drop<|n+1):=by
 rw[ru c,ru d];rfl
def Se{b a:List UInt8}(e:n<=I b)(f:n<=I a)(h:¬(n<I b/\n<I a)):(mz (b.drop n) (a.drop n)<0)↔I b<I a:=by
 by_cases d:n<I b;have c:I a<=n:=aa;rw[List.drop_eq_nil_of_le c,ru d];simp only[mz];omega;rw[List.drop_eq_nil_of_le aa];by_cases c:n<I a;rw[ru c];simp only[mz];omega;rw[List.drop_eq_nil_of_le (aa:I a<=n)];simp only[mz];omega
def Jv{s:ByteArray}:I (dY s.data)=bg s:=by rfl
def Ju(s:ByteArray)(a:Nat)(h:a<bg s)(b:a<I (dY s.data)):s.data.toList[a]=s[a]:=by rfl
def Bf(a b:aC)(d:ag)(hx:a.s.size<=aV)(hy:b.s.size<=aV):
 bc 72 #[bZ #[ak a.null,z9 a.n,ay a.s],bZ #[ak b.null,z9 b.n,ay b.s]] d λv F=>v=aN (ak<|decide (gv a b<0))/\dZ (U d.heap) d F:=by
 unfold aV at hx hy;have k:dZ (U d.heap) d (cG (cG d<|aq #[ak a.null,z9 a.n,ay a.s] 59)<|aq #[ak b.null,z9 b.n,ay b.s] 59):=B3;by_cases l:a.n=b.n
 .have A:(a.n !=b.n)=aj:=by simp[l]
  have g:X (gv a b=mz (a.s.data.toList.drop 0) (b.s.data.toList.drop 0)):=by
   show gv a b=_;unfold gv;rw[if_neg aa,if_neg aa,tW,tW]
  clear l;go_enter aE.func72,Tryz.ntmps72;go_upto_region 1 with fail;have z:=IV d a b;generalize cG (cG d<|aq #[ak a.null,z9 a.n,ay a.s] 59) (aq #[ak b.null,z9 b.n,ay b.s] 59)=u at*;obtain⟨L,M,N,O⟩:=z;have s:=aA k;clear k;generalize U d.heap+1=x at*;generalize D:U d.heap=w at*
  skip
  go_wp2_with fail
  go_loopw [5] (λn wr=>∃c:Nat,c<=a.s.size/\c<=b.s.size/\n=n9 c/\gv a b=mz (a.s.data.toList.drop c) (b.s.data.toList.drop c)/\∃h,wr=cI u h) (λn _=>a.s.size-(bB n).toNat)
  exact⟨0,cH _,cH _,rfl,g.o,0,rfl⟩
  rename ag=>wr
  obtain⟨c,I,J,rfl,q,h,m⟩:=hrel;have t:=aA m;have P:ap wr ⟨w,2,Z⟩=K (ay a.s):=nE;have Q:ap wr ⟨x,2,Z⟩=K (ay b.s):=nE;have i:X (dZ (U d.heap) d wr):=by
   show dZ (U d.heap) d wr;rw[D,m];exact below_drewN s.o h
  clear m g;by_cases E:c<a.s.size/\c<b.s.size
  .have⟨r,G⟩:=E;have p:decide ((c:Int)<(a.s.size:Int))=af:=bS;have B:decide ((c:Int)<(b.s.size:Int))=af:=bS;have o:X (gv a b=if a.s[c]<b.s[c] then -1 else if b.s[c]<a.s[c] then 1 else mz (a.s.data.toList.drop<|c+1)<|b.s.data.toList.drop<|c+1):=by
    show gv a b=_;rw[q,Sf (by simp_all) nE,Ju a.s c r,Ju b.s c G]
   skip
   by_cases j:a.s[c]=b.s[c]
   .have C:(((a.s[c].toNat:Nat):Int) !=((b.s[c].toNat:Nat):Int))=aj:=by rw[j];simp
    have f:X (gv a b=mz (a.s.data.toList.drop<|c+1) (b.s.data.toList.drop<|c+1)):=by
     show gv a b=_;rw[o.o,j,if_neg<|by rw[UInt8.lt_iff_toNat_lt];omega,if_neg<|by rw[UInt8.lt_iff_toNat_lt];omega]
    go_wp2_with fail;go_quiet (fail);go_wp2
    go_roundw
    case rel=>exact⟨c+1,aa,aa,by go_num,f.o,h+nq,by rw[t.o];exact rS _ _ _⟩
    case measure=>simp[bB];omega
   have H:a.s[c].toNat≠b.s[c].toNat:=λy=>j<|UInt8.toNat_inj.1 y;have C:(((a.s[c].toNat:Nat):Int) !=((b.s[c].toNat:Nat):Int))=af:=bS;have f:X (gv a b<0↔((a.s[c].toNat:Nat):Int)<((b.s[c].toNat:Nat):Int)):=by
    show _↔_;rw[o.o];by_cases e:a.s[c]<b.s[c];rw[if_pos e];rw[UInt8.lt_iff_toNat_lt] at e;constructor<;>intro _<;>omega;rw[if_neg e];rw[UInt8.lt_iff_toNat_lt] at e;rw[if_pos<|by rw[UInt8.lt_iff_toNat_lt];omega];constructor<;>intro _<;>omega
   go_wp2_with fail;go_quiet (fail);go_wp2_with fail;go_quiet (fail);go_wp2;go_ret;refine⟨tC ?_,below_drewN (below_drewN i.o _) _⟩;rw[rO];simp only[decide_eq_true_eq];rw[f.o];omega
  have f:X (gv a b<0↔(a.s.size:Int)<(b.s.size:Int)):=by
   show _↔_;rw[q,Se nE nE<|by simp_all,Jv,Jv];omega
  skip
  by_cases r:c<a.s.size;have p:decide (c<a.s.size)=af:=bS;have B:decide (c<b.s.size)=aj:=bS;go_wp2;go_ret;refine⟨tC ?_,i.o⟩;rw[rO];simp only[decide_eq_true_eq];rw[f.o];omega;have p:decide (c<a.s.size)=aj:=bS;go_wp2;go_ret;refine⟨tC ?_,i.o⟩;rw[rO];simp only[decide_eq_true_eq];rw[f.o];omega
 .have A:(a.n !=b.n)=af:=by simp[l]
  have g:X (gv a b<0↔a.n<b.n):=by
   show _↔_;unfold gv;by_cases e:a.n<b.n;rw[if_pos e];constructor<;>intro _<;>omega;rw[if_neg e,if_pos aa];constructor<;>intro _<;>omega
  go_enter aE.func72,Tryz.ntmps72;go_wp2;go_ret;refine⟨tC ?_,k⟩;rw[rO];simp only[decide_eq_true_eq];exact g.o.symm
def UL{b:List bx}(c:∀a,a<n->oK b a)(d:oK b n):∀a,a<n+1->oK b a:=bu
def SC{a:List bx}(d:1<=I a)(e:I a<=8)(f:∀b,b<n->oK a b)(g:¬n<I a):nJ a:=
 ⟨d,e,λb c=>f b aa c⟩
def Jg(a:bx):oU a=af↔1<=bg a.name/\bg a.name<=16/\1<=a.kind/\a.kind<=3:=by
 simp[oU,ov];omega
def SF(a:List bx)(m:ag)(aF:I a<=aV)(aC:px m v a):
 bc 102 #[v] m λj a0=>∃M,j=aN (ak M)/\(M=af↔nJ a)/\aD m a0:=by
 obtain⟨a1,y,z,a6,rfl,a7,k⟩:=aC;unfold aV at aF;by_cases r:1<=I a/\I a<=8
 .have⟨r,az⟩:=r;have ad:=aA k;obtain rfl:=k.addr aa;have N:decide ((I a:Int)<1)=aj:=bS;have ao:decide (8<(I a:Int))=aj:=bS;go_enter aE.func102,Tryz.ntmps102;go_wp2_with fail
  go_loopw [3] (λg wr=>∃d:Nat,d<=I a/\g=z9 d/\(∀g,g<d->oK a g)/\aD m wr) (λg _=>I a-bO (bB g))
  exact⟨0,cH _,rfl,λf c=>aa,bN _ _⟩;obtain⟨d,a8,rfl,S,i⟩:=hrel;have a9:=i.size
  skip
  by_cases l:d<I a
  .have k:=ad.o.below i;have V:=k.c0 d l;have be:=k.c1 d l;have G:X (oU a[d]=aj->¬nJ a):=λc h=>by
    have:=(h.2.2 d l).1;rw[c] at this;cases this
   have H:X ((∃e,∃c:e<d,a[e].name=a[d].name)->¬nJ a):=by
    rintro⟨e,c,j⟩ h;exact(h.2.2 d l).2 e c j
   have J:X (oU a[d]=af->(¬∃e,∃c:e<d,a[e].name=a[d].name)->∀g,g<d+1->oK a g):=λaw Q=>UL S λ_=>⟨aw,λe T j=>Q ⟨e,T,j⟩⟩;have C:X (∀e,(c:e<I a)->bl wr y (z+e*2) (ay a[e].name)):=λe c=>k.c0 e c;generalize bb:a[d]=b at*
   skip
   by_cases h:1<=b.name.size/\b.name.size<=16/\1<=b.kind/\b.kind<=3
   .have Y:=aA<|(Jg b).2 h;have am:=aA<|J.o Y.o;have⟨a2,a3,a4,a5⟩:=h;have O:decide ((b.name.size:Int)<1)=aj:=bS;have q:decide (16<(b.name.size:Int))=aj:=bS;have P:decide (b.kind<1)=aj:=bS;have ar:decide (3<b.kind)=aj:=bS;go_wp2_with fail
    go_loopw [4] (λe n=>∃f:Nat,f<=d/\e=n9 f/\(∀s,(c:s<I a)->s<f->a[s].name≠b.name)/\∃w,n=cI wr w) (λe _=>d-bO (bB e))
    exact⟨0,cH _,rfl,λf _ c=>aa,0,rfl⟩
    rename ag=>n
    obtain⟨f,ba,rfl,U,w,t⟩:=hrel;have o:=aA U;have B:X (aD m n):=by rw[t];exact below_drewN i w
    have al:=aA t;have bh:ap n ⟨y,z+d*2,Z⟩=K (ay b.name):=nE;have x:X (∀c:f<I a,bl n y (z+f*2)<|ay a[f].name):=λc=>by rw[t];exact C.o f c
    clear U t;by_cases aH:f<d
    .have aI:f<I a:=by omega
     have bi:=x.o aI;have L:X (a[f].name=b.name->¬nJ a):=λc=>H.o ⟨f,aH,c⟩;have E:X (a[f].name≠b.name->∀s,(c:s<I a)->s<f+1->a[s].name≠b.name):=λc s aG Q=>by
      by_cases q:s=f
      .subst q;exact c
      .exact o.o s aG aa
     clear x o;generalize a[f]=A at*;by_cases u:A.name=b.name
     .have an:=aA<|L.o u;have aK:(jE A.name==jE b.name)=af:=bu;clear L E u V;go_wp2_with fail;go_quiet (fail);go_wp2;go_ret;exact⟨aj,rfl,by simp only[eN,false_iff];exact an.o,below_drewN B.o _⟩
     .have ae:=aA<|E.o u;have aK:(jE A.name==jE b.name)=aj:=by rw[beq_eq_false_iff_ne];exact λc=>u (toList_inj c)
      go_wp2_with fail;go_quiet (fail);go_wp2
      go_roundw
      case rel=>exact⟨f+1,aa,by go_num,ae.o,w+nq,by rw[al.o];exact rS _ _ _⟩
      case measure=>simp[bB];omega
    .have W:X (∀g,g<d+1->oK a g):=am.o (by
      rintro⟨e,T,j⟩;exact o.o e (by omega) aa j)
     clear x o V;go_wp2
     go_roundw
     case rel=>exact⟨d+1,aa,by go_num,W.o,B.o⟩
     case measure=>simp[bB];omega
   .have p:X (¬nJ a):=G.o (by rw[Bool.eq_false_iff];exact λc=>h<|(Jg b).1 c);have D:=aA h;clear G H J h C;by_cases aQ:b.name.size<1
    .have O:decide ((b.name.size:Int)<1)=af:=by simp;omega
     go_wp2
     all_goals go_ret
     all_goals exact⟨aj,rfl,by simp only[eN,false_iff];exact p.o,i⟩
    have O:decide ((b.name.size:Int)<1)=aj:=bS;by_cases aR:16<b.name.size
    .have q:decide (16<(b.name.size:Int))=af:=by simp;omega
     go_wp2
     all_goals go_ret
     all_goals exact⟨aj,rfl,by simp only[eN,false_iff];exact p.o,i⟩
    have q:decide (16<(b.name.size:Int))=aj:=bS;by_cases aU:b.kind<1
    .have P:decide (b.kind<1)=af:=by simp;omega
     go_wp2
     all_goals go_ret
     all_goals exact⟨aj,rfl,by simp only[eN,false_iff];exact p.o,i⟩
    have P:decide (b.kind<1)=aj:=bS;have ar:decide (3<b.kind)=af:=by
     have:=D.o;simp;omega
    clear aQ aR aU D;go_wp2
    all_goals go_ret
    all_goals exact⟨aj,rfl,by simp only[eN,false_iff];exact p.o,i⟩
  have ab:=aA<|SC r az S l
  skip
  go_wp2;go_ret;exact⟨af,rfl,by simp only[true_iff];exact ab.o,i⟩
 .have R:¬nJ a:=λc=>r ⟨c.1,c.2.1⟩;by_cases bd:I a<1
  .have N:decide ((I a:Int)<1)=af:=by simp;omega
   go_enter aE.func102,Tryz.ntmps102;go_wp2
   all_goals go_ret
   all_goals exact⟨aj,rfl,by simp only[eN,false_iff];exact R,bN _ _⟩
  .have N:decide ((I a:Int)<1)=aj:=by simp;omega
   have ao:decide (8<(I a:Int))=af:=bS;go_enter aE.func102,Tryz.ntmps102;go_wp2
   all_goals go_ret
   all_goals exact⟨aj,rfl,by simp only[eN,false_iff];exact R,bN _ _⟩
def Au:(s.toList==[83,84,82,65])=af↔bytesOf s=[83,84,82,65]:=by
 rw[beq_iff_eq,uM];unfold bytesOf;constructor;intro d;rw[d];rfl;intro d;have e:s.data.toList.map UInt8.toNat=[(83:UInt8),84,82,65].map UInt8.toNat:=gG d;have g:∀(c a:List UInt8),c.map UInt8.toNat=a.map UInt8.toNat->c=a:=by
  intro c
  induction c with
  |nil=>intro a b;cases a with|nil=>rfl|cons _ _=>simp at b
  |cons j i f=>
   intro a b;cases a with
   |nil=>simp at b
   |cons k h=>
    simp only[kY,List.cons.injEq] at b;rw[UInt8.toNat_inj.1 b.1,f h b.2]
 exact g _ _ e
def Gn{s:ByteArray}(c:4<=bg s):bytesOf (fw s 0 4)=[83,84,82,65]↔∃b,bytesOf s=[83,84,82,65]++b:=by
 rw[nu,tW];constructor;intro a;exact⟨(bytesOf s).drop 4,by rw[<-a];exact bq<|v7 4 _⟩;rintro⟨b,a⟩;rw[a];simp
def Hz{s:ByteArray}(d:4<=bg s):bytesOf (fw s (bg s-4)<|bg s)=[83,84,82,65]↔∃b,bytesOf s=b++[83,84,82,65]:=by
 rw[nu];constructor;intro a;refine⟨(bytesOf s).take<|bg s-4,?_⟩;rw[<-a,iF (l:=(bytesOf s).drop<|bg s-4)<|by rw[uT,cM];omega];exact bq<|v7 _ _;rintro⟨b,a⟩;have c:=congrArg I a;rw[cM] at c;simp at c;rw[a,show bg s-4=I b by omega,List.drop_left];exact iF (by simp;omega)
def U2(s:ByteArray)(g:bg s<=aV):
 bc 150 #[ay s,ay ⟨#[83,84,82,65]⟩] w λe h=>∃c,e=aN (ak c)/\(c=af↔4<=bg s/\∃d,bytesOf s=[83,84,82,65]++d)/\h=w:=by
 unfold aV at g;by_cases b:4<=bg s
 .have f:decide ((4:Int)<=(bg s:Int))=af:=by simp;omega
  go_enter aE.func150,Tryz.ntmps150;go_wp2;go_ret;exact⟨_,rfl,by rw[Au,Gn b];exact⟨λa=>⟨b,a⟩,λa=>a.2⟩,rfl⟩
 .have f:decide ((4:Int)<=(bg s:Int))=aj:=by simp;omega
  go_enter aE.func150,Tryz.ntmps150;go_wp2;go_ret;exact⟨aj,rfl,⟨λa=>(by simp at a),λa=>absurd a.1 b⟩,rfl⟩
def U5(s:ByteArray)(g:bg s<=aV):
 bc 151 #[ay s,ay ⟨#[83,84,82,65]⟩] w λe h=>∃c,e=aN (ak c)/\(c=af↔4<=bg s/\∃d,bytesOf s=d++[83,84,82,65])/\h=w:=by
 unfold aV at g;by_cases b:4<=bg s
 .have f:decide ((4:Int)<=(bg s:Int))=af:=by simp;omega
  have i:cY ((bg s:Int)-4)=((bg s-4:Nat):Int):=by unfold cY;omega
  go_enter aE.func151,Tryz.ntmps151;go_wp2;go_ret;exact⟨_,rfl,by rw[Au,Hz b];exact⟨λa=>⟨b,a⟩,λa=>a.2⟩,rfl⟩
 .have f:decide ((4:Int)<=(bg s:Int))=aj:=by simp;omega
  go_enter aE.func151,Tryz.ntmps151;go_wp2;go_ret;exact⟨aj,rfl,⟨λa=>(by simp at a),λa=>absurd a.1 b⟩,rfl⟩
def It (s:ByteArray)(d:gN):Prop:=∃(b:ByteArray) (a:Bool),d=aN (cP #[ay b,ak a])/\((a=af/\bytesOf s=[83,84,82,65]++bytesOf b)\/(a=aj/\b=s/\∀c,bytesOf s≠[83,84,82,65]++c))
def Iy (s:ByteArray)(d:gN):Prop:=∃(b:ByteArray) (a:Bool),d=aN (cP #[ay b,ak a])/\((a=af/\bytesOf s=bytesOf b++[83,84,82,65])\/(a=aj/\b=s/\∀c,bytesOf s≠c++[83,84,82,65]))
def aaD{s:ByteArray}(g:bg s<=aV):
 bc 126 #[ay s,ay ⟨#[83,84,82,65]⟩] w λc l=>It s c/\l=w:=by
 have k:=g;unfold aV at k;go_enter aE.func126,Tryz.ntmps126;go_wp2_with fail;refine bG (U2 s g) ?_;rintro c n ⟨j,rfl,a,rfl⟩;cases j
 .have h:X (∀b,bytesOf s≠[83,84,82,65]++b):=λb d=>by
   have e:4<=bg s:=by
    have:=congrArg I d;rw[cM] at this;simp at this;omega
   exact absurd (a.2 ⟨e,b,d⟩) (by simp)
  clear a;go_wp2;go_ret2;exact⟨⟨s,aj,rfl,ai ⟨rfl,rfl,h.o⟩⟩,rfl⟩
 .have e:=(a.1 Y).1;have i:=aA<|(a.1 Y).2;have m:(4:Int)<=(bg s:Int):=by omega
  clear a;go_wp2;go_ret2;refine⟨⟨fw s 4<|bg s,af,rfl,av ⟨rfl,?_⟩⟩,rfl⟩;have⟨b,f⟩:=i.o;rw[nu,f,iF<|by rw[uT,<-f,cM];omega];simp
def aaE{s:ByteArray}(h:bg s<=aV):
 bc 127 #[ay s,ay ⟨#[83,84,82,65]⟩] w λc m=>Iy s c/\m=w:=by
 have l:=h;unfold aV at l;go_enter aE.func127,Tryz.ntmps127;go_wp2_with fail;refine bG (U5 s h) ?_;rintro c r ⟨k,rfl,b,rfl⟩;cases k
 .have i:X (∀a,bytesOf s≠a++[83,84,82,65]):=λa d=>by
   have e:4<=bg s:=by
    have:=congrArg I d;rw[cM] at this;simp at this;omega
   exact absurd (b.2 ⟨e,a,d⟩) (by simp)
  clear b;go_wp2;go_ret2;exact⟨⟨s,aj,rfl,ai ⟨rfl,rfl,i.o⟩⟩,rfl⟩
 .have e:=(b.1 Y).1;have j:=aA<|(b.1 Y).2;have n:(4:Int)<=(bg s:Int):=by omega
  have o:cY ((bg s:Int)-4)=((bg s-4:Nat):Int):=by unfold cY;omega
  have p:((bg s-4:Nat):Int)<=(bg s:Int):=by omega
  have q:bO ((bg s:Int)-4)=bg s-4:=by omega
  clear b;go_wp2;go_ret2;refine⟨⟨fw s 0<|bg s-4,af,rfl,av ⟨rfl,?_⟩⟩,rfl⟩;have⟨a,f⟩:=j.o;have g:=congrArg I f;rw[cM] at g;simp at g;rw[nu,f,tW,show bg s-4-0=I a by omega,List.take_left]
def TA(s:ByteArray)(d:bg s<=aV):
 bc 89 #[ay s,ay ⟨#[83,84,82,65]⟩] w λa f=>It s a/\f=w:=by
 go_enter aE.func89,Tryz.ntmps89;go_wp2_with fail;refine bG (aaD d) ?_;rintro a g ⟨⟨e,b,rfl,c⟩,rfl⟩
 skip
 go_wp2;go_ret2;exact⟨⟨e,b,rfl,c⟩,rfl⟩
def Jt(s:ByteArray)(d:bg s<=aV):
 bc 90 #[ay s,ay ⟨#[83,84,82,65]⟩] w λa f=>Iy s a/\f=w:=by
 go_enter aE.func90,Tryz.ntmps90;go_wp2_with fail;refine bG (aaE d) ?_;rintro a g ⟨⟨e,b,rfl,c⟩,rfl⟩
 skip
 go_wp2;go_ret2;exact⟨⟨e,b,rfl,c⟩,rfl⟩
def oy (s:ByteArray):Nat->Nat
 |0=>0
 |k+1=>oy s k+256^k*aW (bytesOf s) k 0
def rE(s:ByteArray)(a:Nat):aW (bytesOf s) a 0<256:=by
 by_cases b:a<bg s;rw[ep,va s a b];exact s[a].toNat_lt;rw[ep,uS<|by rw[cM];omega];simp
theorem CH(s:ByteArray):∀k,oy s k<256^k
 |0=>by simp[oy]
 |k+1=>by
  have a:=CH s k;have b:=rE s k;have c:256^k*aW (bytesOf s) k 0<=256^k*255:=Nat.mul_le_mul_left _ (by omega);rw[oy,rA];omega
def Gm:(256:Nat)^n=2^(8*n):=by rw[Nat.pow_mul]
def YA(a:Nat)(d:m<=3)(b:a<256^m)(g:n<256):bits .or .u64 (a:Int) (lW.wrap<|(n:Int)*2^(8*m))=((a+256^m*n:Nat):Int):=by
 have e:256^m<=256^3:=om (by omega) d;have h:2^(8*m)*n<18446744073709551616:=by
  rw[<-Gm];have:=s8 e (show n<=255 by omega);omega
 have c:(n:Int)*2^(8*m)=((2^(8*m)*n:Nat):Int):=by push_cast;rw[Int.mul_comm]
 have f:lW.wrap ((n:Int)*2^(8*m))=((2^(8*m)*n:Nat):Int):=by rw[c,wrap_u64];omega
 rw[f,((bits_nat .u64 64 (by decide) HW a (2^(8*m)*n) (by omega)<|by omega).2),Nat.or_comm,<-Nat.two_pow_add_eq_or_of_lt (by rw[<-Gm];exact b) n,Nat.add_comm,Gm]
def ZE(s:ByteArray)(i:bg s=4):
 bc 91 #[ay s] w λd h=>d=aN (aJ .u64 (oy s 4:Int))/\h=w:=by
 go_enter aE.func91,Tryz.ntmps91;go_wp2_with fail
 go_loopw [3,5] (λg b wr=>∃a:Nat,a<=4/\b=n9 a/\g=aJ .u64 (oy s a:Int)/\wr=w) (λ_ b _=>4-(bB b).toNat)
 case atStart=>exact⟨0,aa,rfl,rfl,rfl⟩
 case round=>
  obtain⟨a,j,rfl,rfl,rfl⟩:=hrel;by_cases l:a<4;have f:a<bg s:=aa;have k:(a:Int)<(bg s:Int):=aa;have c:X (s[a].toNat=aW (bytesOf s) a 0):=by show _=_;rw[ep,va s a f];rfl
  have e:s[a].toNat<256:=s[a].toNat_lt;have m:=YA (oy s a) (by omega) (CH s a) e;have n:lW.wrap (s[a].toNat:Int)=(s[a].toNat:Int):=by rw[wrap_u64];omega
  go_wp2_with fail;refine⟨⟨a+1,aa,by go_num,?_,trivial⟩,by simp[bB];omega⟩;rw[oy,<-c.o]
  push_cast
  rfl;obtain rfl:a=4:=aa;go_wp2;go_ret;exact⟨rfl,rfl⟩
def TM{d:Prop}{f:Nat}(h:Calls Qo f args w λa b=>∃e,a=aN (ak e)/\(e=af↔d)/\∃c,b=cI w c)(j:d):Calls Qo f args w λa b=>a=aN (ak af)/\∃c,b=cI w c:=
 bG h (by rintro a b ⟨k,rfl,i,g⟩;rw[i.2 j];exact⟨rfl,g⟩)
def TL{d:Prop}{f:Nat}(h:Calls Qo f args w λa b=>∃e,a=aN (ak e)/\(e=af↔d)/\∃c,b=cI w c)(k:¬d):Calls Qo f args w λa b=>a=aN (ak aj)/\∃c,b=cI w c:=
 bG h (by
  rintro a b ⟨g,rfl,j,i⟩;cases g;exact⟨rfl,i⟩;exact absurd (j.1 Y) k)
def aab{d e:List (List aC)}(ar:I d<=aV)(aw:I e<=aV)(U:∀D∈d,I D<=aV)(V:∀D∈e,I D<=aV)
 (z:zk w O n k d) (A:zk w P j a e):
 bc 14 #[ah O (I d) i,ah P (I e) b] w λg l=>∃n,g=aN (ak n)/\(n=af↔d=e)/\∃f,l=cI w f:=by
 have ad:=aA U;have ae:=aA V;unfold aV at ar aw;clear U V;by_cases q:I d=I e
 .have T:((I d:Int) !=(I e:Int))=aj:=by simp[q]
  have L:=aA q;clear q;go_enter aE.func14,Tryz.ntmps14;go_wp2_with fail;clear T
  go_loopw [5] (λC wr=>∃c:Nat,c<=I d/\C=z9 c/\d.take c=e.take c/\∃f,wr=cI w f) (λC _=>I d-bO (bB C))
  exact⟨0,cH _,rfl,rfl,0,rfl⟩;obtain⟨c,aG,rfl,W,f,h⟩:=hrel;have v:=aA W;clear W;by_cases t:c<I d
  .have B:c<I e:=by rw[<-L.o];exact t
   obtain rfl:=z.addr (by omega);obtain rfl:=A.addr (by omega);have⟨az,M,an⟩:=z.c c t;have⟨aF,N,ao⟩:=A.c c B;have aI:bl wr n (k+c) az:=bV h M;have aK:bl wr j (a+c) aF:=bV h N;have s:=aA h;have p:X (d[c]≠e[c]->d≠e):=λy g=>y (by subst g;rfl);have x:X (d[c]=e[c]->d.take (c+1)=e.take (c+1)):=λy=>by rw[gm t,gm B,v.o,y]
   have R:=ad.o d[c]<|dm t;have S:=ae.o e[c]<|dm B;have aH:(c:Int)<(I e:Int):=aa;obtain⟨H,aU,a0,G,rfl,Y⟩:=an;obtain⟨F,aQ,aR,E,rfl,Z⟩:=ao;have r:X (∀m,bc 29 #[ah H d[c].length G,ah F e[c].length E] (cI wr m) λg l=>∃n,g=aN (ak n)/\(n=af↔d[c]=e[c])/\∃f,l=cI (cI wr m) f):=λm=>by
    have Q:aD w (cI wr m):=by rw[h];exact below_drewN (below_drewN (bN _ _) f) m
    exact aac R S (Y.below Q)<|Z.below Q
   clear h z A v M N Y Z R S;generalize d[c]=J at*;generalize e[c]=K at*;by_cases o:J=K
   .have am:=aA<|x.o o;have u:X (∀m,bc 29 #[ah H (I J) G,ah F (I K) E] (cI wr m) λg l=>g=aN (ak af)/\∃f,l=cI (cI wr m) f):=λm=>TM (r.o m) o;clear x p o r;go_wp2_with fail;go_quiet ((go_at_call 29;exact Calls.quiet_of<|u.o _));go_wp2
    go_roundw
    case rel=>exact⟨c+1,aa,by go_num,am.o,f+nq,bV s.o<|rS _ _ _⟩
    case measure=>simp[bB];omega
   have al:=aA<|p.o o;have u:X (∀m,bc 29 #[ah H (I J) G,ah F (I K) E] (cI wr m) λg l=>g=aN (ak aj)/\∃f,l=cI (cI wr m) f):=λm=>TL (r.o m) o;clear x p o r;go_wp2_with fail;go_quiet ((go_at_call 29;exact Calls.quiet_of<|u.o _));go_wp2;go_ret;exact⟨aj,rfl,by simp only[eN,false_iff];exact al.o,f+nq,bV s.o<|rS _ _ _⟩
  .have ab:X (d=e):=by
    have:=v.o;rw[iF aa,iF<|cA L.o] at this;exact this
   have s:=aA h;clear h;go_wp2;go_ret;exact⟨af,rfl,by simp only[true_iff];exact ab.o,f,s.o⟩
 .have T:((I d:Int) !=(I e:Int))=af:=by simp;omega
  have p:X (d≠e):=λg=>q (by rw[g]);clear q;go_enter aE.func14,Tryz.ntmps14;go_wp2;go_ret;exact⟨aj,rfl,by simp only[eN,false_iff];exact p.o,0,rfl⟩
end Ec
namespace Pm
def Xb{v c b a:Nat}(h:a<=b):v%2^(c+b)/2^c%2^a=v/2^c%2^a:=by
 rw[oQ,Nat.mod_mul_right_div_self,show b=a+(b-a) by omega,oQ,Nat.mod_mul_right_mod]
def j3 (v c b a:Nat):Nat:=v%2^(8*b)/2^(c*a)
def U7(v d b a c:Nat)(h:8*b=d*a+c):j3 v d b a<2^c:=by
 unfold j3;rw[Nat.div_lt_iff_lt_mul<|Nat.pow_pos<|by omega,<-oQ,show c+d*a=8*b by omega];exact Nat.mod_lt _ (Nat.pow_pos<|by omega)
def U6(v c a b d:Nat)(h:8*a=c*b+d):j3 v c (a+1) b=j3 v c a b+2^d*(v/256^a%256):=by
 unfold j3;rw[show 8*(a+1)=8*a+8 by omega,oQ,Nat.mod_mul,Ac,show(2:Nat)^8=256 by rfl]
 conv=>lhs;rw[h,oQ,Nat.mul_assoc]
 rw[Nat.add_mul_div_left _ _<|Nat.pow_pos<|by omega,h,oQ]
def U9(v a c b:Nat)(d:Nat)(h:8*c=a*b+d)(e:a<=d):j3 v a c b%2^a=v/2^(a*b)%2^a:=by
 unfold j3;rw[h,Xb e]
def U8(v a c b:Nat):j3 v a c b/2^a=j3 v a c (b+1):=by
 unfold j3;rw[Nat.div_div_eq_div_mul,<-oQ,Nat.mul_succ]
def Va{v a:Nat}:j3 v a 0 0=0:=by simp[j3,Nat.mod_one]
end Pm
namespace Pk
open Go.RowKit Pm
def g3 (s:ByteArray)(a:Nat):Nat:=V<|(bytesOf s).drop a
def ZR(s:ByteArray)(b a:Nat)(h:b+a<bg s):s[b+a].toNat=g3 s b/256^a%256:=by
 unfold g3;have d:∀c∈(bytesOf s).drop b,c<256:=λc e=>xJ s c<|List.mem_of_mem_drop e;rw[<-IB a d,List.getElem?_drop,dV<|by rw[cM];exact h,tZ,B9 s h]
def yq (s:ByteArray)(c b a:Nat):Prop:=c+(a*b+7)/8<=bg s/\j3 (g3 s c) b ((a*b+7)/8) a=0
def PJ(b a:Nat)(d:a<=16)(g:b<16777216):bits .and aM (b:Int) (cY<|pw a-1)=((b%2^a:Nat):Int):=by
 have e:=wP a;have f:=Af a d;rw[show cY (pw a-1)=pw a-1 from by unfold cY;omega];have c:pw a=(2:Int)^a:=by rfl
 rw[c,bits_mask aM 62 az OE a (by omega) (b:Int) (by omega) aa]
 push_cast;rfl
def aaz(a b:Nat):(a:Int)/2^b=((a/2^b:Nat):Int):=by rfl
def ZF(s:ByteArray)(f a b e:Nat)(F:s.size<=aV)(r:b<=16)(a8:e<=100)(be:a<=s.size)(h:w.heap[f]? =K (bQ s a)):
 bc 177 #[(aK f),aJ aM b,aJ aM e] w λm l=>Kp f w l/\
  ((m=aN (ah (K ⟨U w.heap,0,Z⟩) e e)/\yq s a b e/\l.heap[f]? =K (bQ s<|a+(e*b+7)/8)/\
    aT l (U w.heap) 3 1 (ah (K ⟨U w.heap,0,Z⟩) e e) e (cO<|lm<|D b (g3 s a) e))\/
   (∃p,m=gO (g4 p)/\¬yq s a b e)):=by
 have⟨M,E,a1,L,a2⟩:=eW aE.pN;have I:=bE h;have bh:=wP b;have bi:=Af b r;have bj:=adQ b r;have ab:=aA h;go_enter aE.func177,Tryz.ntmps177;go_wp2_with (at_make;refine wpList_make_own _ Y _ _ 22 Y (U w.heap) 3 M (aJ aM 0) 1 aE.underlying22 E a1 L aM aM _ e Y Y Y (by rw[a2];omega) fW (aZ _) ?_;intro N aR B);have ar:Kp f w N:=(Kp.refl _ _).grown B aI;have ad:X (N.heap[f]? =K (bQ s<|a+0)):=by show _=_;rw[B.block f I<|by simp];exact ab.o
 go_loopw [7,8,9,13] (λa4 h p z wr=>∃(d c g:Nat),d<=e/\z=aJ aM d/\a4=ah (K ⟨U w.heap,0,Z⟩) d e/\p=aJ aM g/\g<8/\8*c=b*d+g/\a+c<=s.size/\
  h=aJ aM ((j3 (g3 s a) b c d:Nat):Int)/\wr.heap[f]? =K (bQ s<|a+c)/\
  aT wr (U w.heap) 3 1 (ah (K ⟨U w.heap,0,Z⟩) d e) d (cO<|lm<|D b (g3 s a) d)/\Kp f w wr) (λ_ _ _ z _=>e-(bB z).toNat)
 exact⟨0,0,0,cH _,rfl,rfl,rfl,aa,aI,aa,by rw[Va];rfl,ad.o,aR,ar⟩;obtain⟨d,c,g,ba,rfl,rfl,rfl,aU,j,v,rfl,k,t,i⟩:=hrel;have T:=aA j;have al:=aA k;by_cases aH:d<e
 .have bb:b*(d+1)<=16*100:=s8 r aa;have az:b*(d+1)<=b*e:=Nat.mul_le_mul_left _ aH;go_wp2_with fail
  go_loopw [8,9] (λh p wr=>∃(c g:Nat),p=aJ aM g/\g<b+8/\8*c=b*d+g/\a+c<=s.size/\h=aJ aM ((j3 (g3 s a) b c d:Nat):Int)/\wr.heap[f]? =K (bQ s<|a+c)/\
   aT wr (U w.heap) 3 1 (ah (K ⟨U w.heap,0,Z⟩) d e) d (cO<|lm<|D b (g3 s a) d)/\Kp f w wr) (λ_ p _=>b+8-(bB p).toNat)
  exact⟨c,g,rfl,aa,T.o,v,rfl,al.o,t,i⟩;obtain⟨c,g,rfl,aU,j,v,rfl,k,t,i⟩:=hrel;have aF:=U7 (g3 s a) b c d g j;have W:=aA<|U6 (g3 s a) b c d g j;have V:=aA<|U9 (g3 s a) b c d g j;have R:=aA<|U8 (g3 s a) b c d;have aD:j3 (g3 s a) b c d<16777216:=by have n:2^g<=2^24:=om aa aa;omega
  skip
  generalize j3 (g3 s a) b c d=q at*;by_cases bk:g<b
  .by_cases y:a+c<s.size
   .have aw:=aA<|ZR s a c y;have bl:s[a+c].toNat<256:=s[a+c].toNat_lt;have aQ:=YB q s[a+c].toNat g aa aa aF;rw[show q+2^g*s[a+c].toNat=j3 (g3 s a) b (c+1) d from by rw[W.o,aw.o]] at aQ;have P:X (∀w,w.heap[f]? =K (bQ s<|a+c)->bc 129 #[(aK f)] w λm l=>m=aN (aJ .u8 (s[a+c].toNat:Int))/\∃o,l=(aY w ⟨f,1,Z⟩<|aJ aM ((a+c+1:Nat):Int)).drewN o):=
     λw r=>B8 f (a+c) s w F y r
    have a7:X (∃n,n=j3 (g3 s a) b (c+1) d):=⟨_,rfl⟩;generalize aC:j3 (g3 s a) b (c+1) d=n at*;generalize s[a+c].toNat=bm at*;go_wp2_with (go_at_call 129;refine bG (P.o _ k) ?_;rintro m l ⟨rfl,o,rfl⟩)
    go_roundw
    case rel=>exact⟨c+1,g+8,by go_num,aa,by have:=j;omega,aa,by rw[aC],vA k o,yg (ownsRow_setCell_below t (by exact I) _) o,i.set _ _ o⟩
    case measure=>simp[bB];omega
   have S:X (¬yq s a b e):=by
    rintro⟨am,_⟩;have n:=j;rw[Nat.mul_succ] at az;rw[uV e b] at am;omega
   go_wp2_with (go_at_call 129;refine bG (B7 f (a+c) s F y v k) ?_;rintro m l ⟨rfl,o,rfl⟩);exact⟨rfl,i.drewN o,ai ⟨_,rfl,S.o⟩⟩
  .have an:=PJ q b r aD;rw[V.o<|by omega] at an;have a0:=aaz q b;rw[R.o] at a0;have Q:X (D b (g3 s a) (d+1)=D b (g3 s a) d++[g3 s a/2^(b*d)%2^b]):=rfl;generalize g3 s a/2^(b*d)%2^b=a6 at*;go_wp2_with (at_builtin;refine rT _ Y _ _ 22 Y (U w.heap) 3 M 1 aE.underlying22 E L (U w.heap) d e _ Y (t.alloc _) ⟨U wr.heap,0,Z⟩ 1 1 [aJ aM (a6:Int)] Y Y ?c1 ?c2 aa ?_)
   case c1=>
    intro a3 a5 u
    match a3,u with
    |0,u=>simp at u;subst u;simp[rQ]
   case c2=>intro a5 J;simp at J;subst J;rfl
   .intro O H A;have ao:Kp f w O:=(i.alloc _).grown A aI;have ae:X (O.heap[f]? =K (bQ s<|a+c)):=by
     show _=_;rw[A.block f (by have:=i.size;simp;omega)<|by simp;omega,fM wr _ f (by have:=i.size;omega)];exact k
    rw[tq] at H;go_wp2
    go_roundw
    case rel=>exact⟨d+1,c,g-b,by omega,by go_num,rfl,by go_num,aa,by have:=j;rw[Nat.mul_succ];omega,v,rfl,ae.o,by rw[Q.o];simpa [lm] using H,ao⟩
    case measure=>simp[bB];omega
 have aG:d=e:=aa;subst aG;have G:c=(d*b+7)/8:=by have:=j;rw[uV b d] at this;omega
 by_cases C:j3 (g3 s a) b c d=0
 .have x:X (yq s a b d):=⟨aa,bu⟩;rw[C];go_wp2;go_ret;exact⟨i,av ⟨rfl,x.o,by rw[<-G];exact k,t⟩⟩
 .have x:X (¬yq s a b d):=by rintro⟨_,n⟩;rw[<-G] at n;exact C n
  have a9:0<j3 (g3 s a) b c d:=by omega
  generalize j3 (g3 s a) b c d=q at*;have bd:((q:Int) !=0)=af:=bS;go_wp2_with (go_at_call 97;refine bG (lP f (a+c) s _ k) ?_;rintro m l ⟨rfl,rfl⟩);exact⟨rfl,i,ai ⟨_,rfl,x.o⟩⟩
def vm (b:List (F×Int)):List F:=b.flatMap λa=>[a.1,z9 a.2]
def TV{b:List (F×Int)}{a:F×Int}:vm b++[a.1,z9 a.2]=vm (b++[a]):=by simp[vm]
def TU(b:List (F×Int))(a:Nat)(h:a<I b):(vm b)[2*a]? =K b[a].1/\(vm b)[2*a+1]? =K (z9 b[a].2):=by
 induction b generalizing a with
 |nil=>simp at h
 |cons e f d=>
  cases a with
  |zero=>simp[vm]
  |succ c=>
   have:=d c<|cN h;simp only[vm,kX,jK] at*;rw[rX bS,rX bS];simp only[oh,ze];rw[show 2*(c+1)-(0+1+1)=2*c by omega,show 2*(c+1)+1-(0+1+1)=2*c+1 by omega];exact this
def mG{c1 c2:Array F}{b c:Nat×Nat}(e:w.heap[n]? =K (aq c1 Qd b))(a:w.heap[m]? =K (aq c2 Qe c))(f:Qd≠Qe):n≠m:=by
 intro d;subst d;rw[e] at a;simp at a;exact f a.2.1
def vu(h:aT w n Qd m v k S)(b:bI v=K i):
 ∃a,w.heap[i]? =K (aq a Qd (0,0)):=by
 rcases h.2 with⟨rfl,_⟩|⟨e,d,a,rfl,_,c,_⟩;simp[bI] at b;simp[bI] at b;subst b;exact⟨a,c⟩
def wM(h:aT w n Qd m v k S):∃c a,v=ah c k a:=by
 rcases h.2 with⟨b,d⟩|⟨f,a,e,b,_⟩;exact⟨Z,0,by rw[b,d]⟩;exact⟨_,a,b⟩
def LJ(h:aT w n Qd m (ah O k i) k S)(e:0<k):∃a,O=K ⟨a,0,Z⟩:=by
 rcases h.2 with⟨b,d⟩|⟨a,i,c,b,_⟩;omega;simp only[j9] at b;exact⟨a,b.1⟩
def LP:∀(b:Nat) (c:F),[v,x][b]? =K c->ap (cG w<|aq #[v,x] Qd) ((⟨U w.heap,0,Z⟩:aL).add b)=K c:=by
 intro b c a
 match b,a with
 |0,a=>simp at a;subst a;simp[rQ]
 |1,a=>simp at a;subst a;simp[rQ]
def LQ:∀b∈[ah O n m,z9 M],m3 b=af:=by
 intro b a;simp at a;rcases a with rfl|rfl;rfl;rfl
def W4{c:List (F×Int)}(h:∀a∈c,a.2=M):∀a∈c++[(v,M)],a.2=M:=by
 intro a d;rcases eP.1 d with b|b;exact h a b;simp at b;subst b;rfl
end Pk
namespace Ec
open Go.RowKit Pk Pm
def Iq(a:Nat):∀(c b:List Nat),(∀d∈c,d<2^a)->(∀d∈b,d<2^a)->I c=I b->N a c=N a b->c=b:=by
 intro c
 induction c with
 |nil=>intro b _ _ j _;exact bq (vX.1<|by grind)
 |cons d p o=>
  intro b h i j g;cases b with
  |nil=>simp at j
  |cons l k=>
   simp only[N] at g;have m:d=l:=by
    have:=congrArg (· % 2^a) g;simpa [Nat.add_mul_mod_self_left,s7<|h d<|by simp,s7<|i l<|by simp] using this
   subst m;have n:N a p=N a k:=Nat.eq_of_mul_eq_mul_left (Nat.pow_pos (n:=a) (show 0<2 by omega)) (by omega);rw[o k (λf e=>h f<|by simp[e]) (λf e=>i f<|by simp[e]) (by grind) n]
def Mi(s:ByteArray)(b a:Nat):V (((bytesOf s).drop b).take a)=g3 s b%2^(8*a):=by
 rw[Pw _ λd c=>xJ s d<|List.mem_of_mem_drop c,Ac];rfl
def Ke{v b c a:Nat}:j3 v b c a=0↔v%2^(8*c)<2^(b*a):=by
 unfold j3;rw[Nat.div_eq_zero_iff];have:=Nat.pow_pos (n:=b*a) (show 0<2 by omega);omega
def Cr(b a:Nat):b*a<=8*((a*b+7)/8):=bu
def YK(s:ByteArray)(a:Nat)(b:Nat)(i:a<=bg s)(h:yq s a n b):aQ (bytesOf s) a (iM n<|D n (g3 s a) b):=by
 obtain⟨g,c⟩:=h;rw[Ke] at c;have d:I (((bytesOf s).drop a).take<|(b*n+7)/8)=(b*n+7)/8:=by
  rw[ng,uT,cM];omega
 have:=LO n (D n (g3 s a) b) (((bytesOf s).drop a).take<|(b*n+7)/8) (by rw[d,xj]) (λf e=>xJ s f<|List.mem_of_mem_drop<|xz e) (by
  rw[Mi,zg,<-Nat.mod_mod_of_dvd (g3 s a) (Nat.pow_dvd_pow 2<|Cr n b),s7 c])
 rw[<-this];exact List.take_prefix _ _
def z8(s:ByteArray)(c b:Nat)(a:List Nat)(k:c<=bg s)(i:∀l∈a,l<2^b)(h:aQ (bytesOf s) c (iM b a)):yq s c b (I a)/\D b (g3 s c) (I a)=a:=by
 have g:=o9 h (by rw[cM];exact k);rw[wN,cM] at g;have f:((bytesOf s).drop c).take ((I a*b+7)/8)=iM b a:=by
  have⟨m,f⟩:=h;rw[<-f,<-wN];simp
 have d:=Mi s c<|(I a*b+7)/8;rw[f] at d;have e:=D9 b a i;have j:V (iM b a)=N b a:=by
  rw[Eg,iM,zg,s7];exact cL e<|om aa<|Cr b<|I a
 rw[j] at d;refine⟨⟨g,?_⟩,?_⟩
 .rw[Ke,<-d];exact e
 .refine Iq b _ _ AK i xj ?_;rw[zg,<-Nat.mod_mod_of_dvd (g3 s c) (Nat.pow_dvd_pow 2<|Cr b<|I a),<-d,s7 e]
def fK:Nat->List Nat->Option Nat
 |s,[]=>K s
 |s,a::b=>if a<s then fK s b else if a=s then fK (s+1) b else Z
def Cf(s:Nat):fK s (l++L)=(fK s l).bind (λb=>fK b L):=by
 induction l generalizing s with
 |nil=>rfl
 |cons c d a=>
  simp only[tV,fK]
  split
  exact a s
  split
  exact a _;rfl
def EE{s b:Nat}(h:fK s l=K b):s<=b:=by
 induction l generalizing s with
 |nil=>simp[fK] at h;omega
 |cons c d a=>
  simp only[fK] at h
  split at h
  exact a h
  split at h
  have:=a h;omega;cases h
def zF{s d:Nat}(h:fK s l=K d):∀c∈l,c<d:=by
 induction l generalizing s with
 |nil=>simp
 |cons c g b=>
  intro e a;simp only[fK] at h
  split at h
  rename_i f;have:=EE h;rcases gy.1 a with rfl|a;omega;exact b h e a
  split at h
  have:=EE h;rcases gy.1 a with rfl|a;omega;exact b h e a;cases h
def R7(a:n<I l)(h:fK 0 (l.take n)=K m):fK 0 (l.take<|n+1)=if l[n]<m then K m else if l[n]=m then K (m+1) else Z:=by
 rw[gm a,Cf,h];rfl
def EF(a:List Nat)(b:Nat):fK 0 a=(fK 0<|a.take b).bind (λc=>fK c<|a.drop b):=by
 rw[<-Cf,v7]
def A7{a:List aC}{v:aC}:idx a v<I a↔v∈a:=by
 constructor
 .intro c;rw[<-Cz c];exact dm c
 intro c;obtain⟨b,f,rfl⟩:=m9 c;have:=Kh a a[b] b f;have d:mV a[b] a[b]=af:=tK.2 Y;by_cases e:b<idx a a[b];rw[this e] at d;cases d;omega
def FY{a:List aC}(f:a.Nodup)(c:n<I a)(d:m<I a)(h:a[n]=a[m]):n=m:=by
 have e:=List.pairwise_iff_getElem.1 f;rcases Nat.lt_trichotomy n m with b|b|b;exact absurd h<|e n m c d b;exact b;exact absurd (bq h)<|e m n d c b
def Vd{a:List aC}(c:a.Nodup)(d:n<I a):idx a a[n]=n:=by
 have b:=(A7).2<|dm d;exact FY c _ _<|Cz b
def TO{a:List aC}{v:aC}:dfold (a++[v])=kI (dfold a) v:=by
 unfold dfold;rw[List.foldl_append];rfl
def TN{b:List aC}(p:b.Nodup)(m:aC):∀a e,a<=I l->fK 0 (l.take a)=K e->e<=I b->dfold ((l.take a).map λx=>aW b x m)=(b.take e,l.take a):=by
 intro a
 induction a with
 |zero=>intro e _ c _;simp[fK] at c;subst c;simp[dfold]
 |succ a u=>
  intro e z c w;have r:a<I l:=aa;rw[EF (l.take<|a+1) a,List.take_take,xA aa] at c;cases f:fK 0 (l.take a) with
  |none=>rw[f] at c;cases c
  |some d=>
   rw[f] at c;have v:(l.take<|a+1).drop a=[l[a]]:=by
    rw[gm r,List.drop_append_of_le_length bu];simp
   simp only[Option.bind_some,v,fK] at c;rw[gm r,gD,rZ,TO];by_cases o:l[a]<d;rw[if_pos o] at c;cases c;rw[u e aa f w];have t:l[a]<I b:=aa;have j:aW b l[a] m=b[l[a]]:=bu;have g:idx (b.take e) b[l[a]]=l[a]:=by
    have k:l[a]<I (b.take e):=bu;have:=Vd (p.sublist<|List.take_sublist _ _) k;rwa [ry] at this
   unfold kI ins;rw[j,g,if_pos bu,g];rw[if_neg o] at c;by_cases h:l[a]=d;rw[if_pos h] at c;cases c;rw[u d aa f aa];have t:d<I b:=aa;have j:aW b l[a] m=b[d]:=bu;have k:I (b.take d)=d:=bu;have s:¬idx (b.take d) b[d]<I (b.take d):=by
    rw[A7];intro g;have⟨A,y,n⟩:=m9 g;rw[ry] at n;have:=FY p _ _ n;omega
   have q:ins (b.take d) b[d]=b.take (d+1):=by
    unfold ins;rw[if_neg s,gm t]
   have i:=CA (b.take d) b[d];unfold kI;simp only;rw[j,q];rw[q] at i;rw[i.1,i.2.2 s,k,h];rw[if_neg h] at c;cases c
def EV(a:List aC)(m:aC):(dfold a).1.Nodup/\fK 0 (dfold a).2=K (dfold a).1.length/\(dfold a).2.map (λe=>(dfold a).1.getD e m)=a:=by
 have s:∀b,b<=I a->(dfold<|a.take b).1.Nodup/\fK 0 (dfold<|a.take b).2=K (dfold<|a.take b).1.length/\(dfold<|a.take b).2.map (λe=>(dfold (a.take b)).1.getD e m)=a.take b:=by
  intro b
  induction b with
  |zero=>intro _;simp[dfold,fK]
  |succ b r=>
   intro v;have⟨j,f,k⟩:=r aa;have i:b<I a:=aa;have p:=zF f;rw[dfold_succ i];generalize dfold (a.take b)=c at*;have g:=CA c.1 a[b];unfold kI;by_cases d:idx c.1 a[b]<I c.1;have h:ins c.1 a[b]=c.1:=by unfold ins;rw[if_pos d]
   rw[h];refine⟨j,?_,?_⟩;rw[Cf,f];simp[fK,d];rw[gD,k,gm i];congr 1;simp[aW,d,Cz d];have h:ins c.1 a[b]=c.1++[a[b]]:=by unfold ins;rw[if_neg d]
   rw[h] at g ⊢;rw[g.1,g.2.2 d];refine⟨?_,?_,?_⟩;rw[List.nodup_append];refine⟨j,aI,?_⟩;intro t o u l n;simp at l;subst l;subst n;exact d<|(A7).2 o;rw[Cf,f];simp[fK];rw[gD,gm i];congr 1;rw[<-k];apply vZ;intro e q;have:=p e q;simp[aW,tX this];simp
 have:=s (I a)<|aZ _;rwa [jq] at this
def TP(V:M=1\/M=2\/M=3){s:ByteArray}{p cn n:Nat}{d:List aC}(f:aC)(U:cn<=100)(W:n<=cn)(L:I d=n)(J:∀a∈d,VK M a)(H:d.Nodup)(x:I ps=cn)
 (u:fK 0 ps=K n) (A:aQ (bytesOf s) p (bh n)) (Q:aQ (bytesOf s) (p+I (bh n)) (dQ M d)) (B:aQ (bytesOf s) (p+I (bh n)+I (dQ M d)) (iM (wid n) ps))
 (u2:∀D:List aC,I D=n->(∀a∈D,VK M a)->aQ (bytesOf s) (p+I (bh n)) (dQ M D)->D=d) (w:p+I (bh n)+I (dQ M d)<=bg s):
 I (ps.map λb=>aW d b f)=cn/\(∀a∈ps.map λb=>aW d b f,VK M a)/\gq M (ps.map λb=>aW d b f)=bh n++(dQ M d++iM (wid n) ps)/\aQ (bytesOf s) p (gq M<|ps.map λb=>aW d b f)/\
  ∀c:List aC,I c=cn->(∀a∈c,VK M a)->aQ (bytesOf s) p (gq M c)->c=ps.map λb=>aW d b f:=by
 have N:dfold (ps.map λb=>aW d b f)=(d,ps):=by
  have:=TN H f (I ps) n (aZ _) bu aa;rw[jq,iF (aa:I d<=n)] at this;exact this
 have t:gq M (ps.map λb=>aW d b f)=bh n++(dQ M d++iM (wid n) ps):=by
  unfold gq;rw[N,L]
 refine⟨by simp[x],?_,t,?_,?_⟩;intro a e;obtain⟨b,P,rfl⟩:=jW.1 e;have X:=zF u b P;have y:b<I d:=aa;simp only[aW,y,dV,tZ];exact J _<|dm y;rw[t,dw,dw];exact⟨A,Q,B⟩;intro c G O g;have⟨S,T,m⟩:=EV c f;have⟨E,o,q,r⟩:=wE c (I c)<|aZ _;rw[jq] at E o q r;unfold gq at g;rw[dw,dw] at g;have⟨R,C,j⟩:=g;have k:(dfold c).1.length=n:=jQ aa aa R A;rw[k] at C j;have l:(dfold c).1=d:=u2 _ k (λa e=>O a<|r a e) C;rw[l] at j;have v:∀(h:List Nat),(∀a∈h,a<n)->∀a∈h,a<2^wid n:=λh F a e=>AA (by omega) a<|F a e;have i:=(z8 s _ (wid n) (dfold c).2 w (v _ (λa e=>by have:=q a e;omega)) j).2;have z:=(z8 s _ (wid n) ps w (v _ λa e=>zF u a e) B).2;rw[o,G] at i;rw[x] at z;rw[z] at i;rw[l,<-i] at m;exact bq m
def VC (a:Int)(v:aC):Prop:=(v.null=af/\v.n=0/\v.s=⟨#[]⟩)\/VK a v
def VC.may{v:aC}(d:M=1\/M=2\/M=3)(h:VC M v):gR v M=af:=by
 rcases h with⟨a,b,c⟩|h;unfold gR;rw[a,b,c];simp[uM];exact Bh d h
def VC.BM{v:aC}(h:VC M v):BY v:=by
 rcases h with⟨a,b,c⟩|h;exact⟨aa,aa⟩;exact⟨h.lo,h.hi⟩
def DJ{c:List aC}(h:∀b∈c,VC M b):∀b∈there c,VK M b:=by
 intro b a;unfold there at a;rw[List.mem_filter] at a;rcases h b a.1 with⟨d,_⟩|h;rw[d] at a;simp at a;exact h
def K4:∀(c b:List aC),(∀a∈c,VC M a)->(∀a∈b,VC M a)->c.map fV=b.map fV->there c=there b->c=b:=by
 intro c
 induction c with
 |nil=>intro b _ _ g _;simp at g;exact bq g
 |cons a w x=>
  intro b t u h s;cases b with
  |nil=>simp at h
  |cons e k=>
   simp only[kY,List.cons.injEq] at h;have y:a.null=e.null:=by
    have:=h.1;unfold fV at this;cases f:a.null<;>cases d:e.null<;>simp[f,d] at this<;>rfl
   have v:=λg=>x k (λl j=>t l<|by simp[j]) (λl j=>u l<|by simp[j]) h.2 g;cases f:a.null with
   |true=>
    have d:e.null=af:=bu;have i:there w=there k:=by simpa [there,f,d] using s
    rw[v i];congr 1;rcases t a aI with⟨m,n,o⟩|c;rcases u e aI with⟨p,q,r⟩|b;cases a;cases e;simp at m n o p q r;simp[m,n,o,p,q,r];rw[b.there] at d;cases d;rw[c.there] at f;cases f
   |false=>
    have d:e.null=aj:=bu;have i:a=e/\there w=there k:=by simpa [there,f,d] using s
    rw[i.1,v i.2]
def iu (b:List Int):Nat:=I<|b.filter λa=>a !=0
def HE{a:List aC}:I (there a)=iu (a.map fV):=by
 unfold there iu
 induction a with
 |nil=>rfl
 |cons d e c=>
  cases b:d.null with
  |true=>simp[b,fV];simpa [fV] using c
  |false=>simp[b,fV];simpa [fV] using c
def CI(b:List aC):iY (b.map fV):=by
 intro d a;obtain⟨c,_,rfl⟩:=jW.1 a;unfold fV
 split
 exact av Y;exact ai Y
def SE{k e:Int}{s:ByteArray}{p cn:Nat}{l:List aC}(m:I l=cn)(g:∀c∈l,VC k c)
 (h:aQ (bytesOf s) p (eV<|l.map fV)) (u1:∀a:List Int,I a=cn->iY a->aQ (bytesOf s) p (eV a)->a=l.map fV)
 (i:aQ (bytesOf s) (p+I (eV<|l.map fV)) (jB k e<|there l)) (u2:∀a:List aC,I a=iu (l.map fV)->(∀c∈a,VK k c)->aQ (bytesOf s) (p+I (eV<|l.map fV)) (jB k e a)->a=there l):
 aQ (bytesOf s) p (g5 k e l)/\∀a:List aC,I a=cn->(∀c∈a,VC k c)->aQ (bytesOf s) p (g5 k e a)->a=l:=by
 refine⟨by unfold g5;rw[dw];exact⟨h,i⟩,?_⟩;intro a j f b;unfold g5 at b;rw[dw] at b;have d:=u1 (a.map fV) bu (CI a) b.1;rw[d] at b;exact K4 a l f g d<|u2 (there a) (by rw[HE,d]) (DJ f) b.2
def nH(b:List aC)(a:aC):bM b++[ak a.null,z9 a.n,ay a.s]=bM (b++[a]):=by rw[yE,yG]
def L9(a:Int)(z:a=1\/a=2\/a=3)(s:ByteArray)(e c g:Nat)(am:s.size<=aV)(a1:g<=100)(aD:c<=s.size)(h:w.heap[e]? =K (bQ s c)):
 bc 173 #[(aK e),z9 a,z9 g] w λk q=>Kp e w q/\
  ((∃(b:List aC) (v:F),k=aN v/\I b=g/\(∀d∈b,VK a d)/\aQ (bytesOf s) c (dQ a b)/\(∀f:List aC,I f=g->(∀d∈f,VK a d)->aQ (bytesOf s) c (dQ a f)->f=b)/\c+I (dQ a b)<=s.size/\
    q.heap[e]? =K (bQ s<|c+I (dQ a b))/\aT q (U w.heap) 59 3 v (I b) (bM b))\/
   (∃p,k=gO (g4 p)/\∀f:List aC,I f=g->(∀d∈f,VK a d)->¬aQ (bytesOf s) c (dQ a f))):=by
 have⟨H,y,aR,G,aU⟩:=eW aE.mg;have C:=bE h
 skip
 go_enter aE.func173,Tryz.ntmps173;go_wp2_with (at_make;refine wpList_make_own _ Y _ _ 43 Y (U w.heap) 59 H _ 3 aE.underlying43 y aR G aM aM _ g Y Y Y (jC aU) fW (aZ _) ?_;intro J ar u);have M:X (Kp e w J):=(Kp.refl e w).grown u aI;have R:X (J.heap[e]? =K (bQ s c)):=by show _=_;rw[u.block e C aI];exact h
 go_loopw [7,11] (λa0 o wr=>∃b:List aC,o=n9 (I b)/\a0=aG (U w.heap) (I b) g/\jL (dQ a) (VK a) (bytesOf s) c g b/\c+I (dQ a b)<=s.size/\wr.heap[e]? =K (bQ s<|c+I (dQ a b))/\
  aT wr (U w.heap) 59 3 (aG (U w.heap) (I b) g) (I b) (bM b)/\Kp e w wr) (λ_ o _=>g-bO (bB o))
 exact⟨[],rfl,rfl,jL.zero Y,by simpa [dQ] using aD,by simpa [dQ] using R.o,ar,M.o⟩;obtain⟨b,rfl,rfl,i,B,t,A,l⟩:=hrel
 skip
 by_cases n:I b<g;go_wp2_with fail;refine bG (C5 a z e (c+I (dQ a b)) s _ am B t) ?_;rintro k r ⟨m,⟨d,rfl,E,D,al,ae⟩|⟨p,rfl,an⟩⟩;have j:=aA<|l.trans m;have aw:=m.own A C;have P:X (jL (dQ a) (VK a) (bytesOf s) c g<|b++[d]):=i.more (e:=λ_ v=>dc a v) (ur a) n E D λa3 aH aF=>wO z aH E aF D;have S:X (r.heap[e]? =K (bQ s<|c+I (dQ a<|b++[d]))):=by
  show _=_;rw[ur,cJ,<-gH];exact ae
 have O:X (c+I (dQ a<|b++[d])<=s.size):=by
  show _<=_;rw[ur,cJ,<-gH];exact al
 have a2:=j.o.size;go_wp2_with (at_builtin;refine rT _ Y _ _ 43 Y (U w.heap) 59 H 3 aE.underlying43 y G (U w.heap) (I b) g _ Y (aw.alloc _) ⟨U r.heap,0,Z⟩ 1 1 [ak d.null,z9 d.n,ay d.s] Y Y (by exact lU _) (lz d) (by omega) ?_;intro L az x);have N:X (Kp e w L):=(j.o.alloc _).grown x aI;have T:X (L.heap[e]? =K (bQ s<|c+I (dQ a<|b++[d]))):=by
  show _=_;rw[x.block e bS bS,fM r _ e aa];exact S.o
 rw[nH] at az;go_wp2
 go_roundw
 exact⟨b++[d],aI,aI,P.o,O.o,T.o,bu,N.o⟩;simp[bB];omega;have Q:X (∀f:List aC,I f=g->(∀d∈f,VK a d)->¬aQ (bytesOf s) c (dQ a f)):=λf ad ao=>i.fail (e:=λ_ v=>dc a v) (ur a) n an f ad ao;have j:=aA<|l.trans m;go_wp2;exact⟨rfl,j.o,ai ⟨p,rfl,Q.o⟩⟩;have⟨W,ab⟩:=i.done n;have V:=aA i.st
 skip
 go_wp2;go_ret;exact⟨l,av ⟨b,_,rfl,W,i.yd,V.o,ab,B,t,A⟩⟩
def mS (a b:Int):aC:=⟨aj,cY<|a+b,⟨#[]⟩⟩
def NO:VK 1 (mS M qB):=⟨rfl,(uF _).1,(uF _).2,λ_=>rfl,λa=>aa,λa=>aa⟩
def ace(a:Int){v:aC}(b:VK 1 v):bh (zz<|cY<|(mS a v.n).n-a)=dc 1 v:=by
 show bh (zz<|cY<|cY (a+v.n)-a)=bh (zz v.n);rw[adP b.lo b.hi]
def ZA{s:ByteArray}(a0:s.size<=aV)(bd:k<=100)(a6:m<=s.size)(h:w.heap[n]? =K (bQ s m)):
 bc 170 #[(aK n),z9 k] w λj u=>Kp n w u/\
  ((∃(a:List aC) (v:F),j=aN v/\I a=k/\(∀b∈a,VK 1 b)/\aQ (bytesOf s) m (fG 0 a)/\(∀c:List aC,I c=k->(∀b∈c,VK 1 b)->aQ (bytesOf s) m (fG 0 c)->c=a)/\m+I (fG 0 a)<=s.size/\
    u.heap[n]? =K (bQ s<|m+I (fG 0 a))/\aT u (U w.heap) 59 3 v (I a) (bM a))\/
   (∃t,j=gO (g4 t)/\∀c:List aC,I c=k->(∀b∈c,VK 1 b)->¬aQ (bytesOf s) m (fG 0 c))):=by
 have⟨N,E,a9,M,ba⟩:=eW aE.mg;have J:=bE h;have ab:=aA h;have be:∀(ao z ar:F) (w:ag),(Instr.field 59 (bZ #[ao,z,ar]) 1).run (aH ax) w=cm z w:=λ_ _ _ _=>by first|rfl|kernel_rfl
 have i:=aA<|ET 0;go_enter aE.func170,Tryz.ntmps170;go_wp2_with (at_make;refine wpList_make_own _ Y _ _ 43 Y (U w.heap) 59 N _ 3 aE.underlying43 E a9 M aM aM _ k Y Y Y (jC ba) fW (aZ _) ?_;intro O a3 C);have Q:X (Kp n w O):=(Kp.refl n w).grown C aI;have ad:X (O.heap[n]? =K (bQ s m)):=by show _=_;rw[C.block n J aI];exact ab.o
 go_loopw [5,6,10] (λbb g r wr=>∃a:List aC,r=n9 (I a)/\g=z9 (fQ 0 a)/\bb=aG (U w.heap) (I a) k/\jL (fG 0) (VK 1) (bytesOf s) m k a/\m+I (fG 0 a)<=s.size/\wr.heap[n]? =K (bQ s<|m+I (fG 0 a))/\
  aT wr (U w.heap) 59 3 (aG (U w.heap) (I a) k) (I a) (bM a)/\Kp n w wr) (λ_ _ r _=>k-bO (bB r))
 exact⟨[],rfl,rfl,rfl,jL.zero Y,by simpa [fG] using a6,by simpa [fG] using ad.o,a3,Q.o⟩;obtain⟨a,rfl,rfl,rfl,d,H,B,G,l⟩:=hrel
 skip
 by_cases p:I a<k;go_wp2_with fail;refine bG (C5 1 (av Y) n (m+I (fG 0 a)) s _ a0 H B) ?_;rintro j x ⟨o,⟨b,rfl,a8,bi,aU,aF⟩|⟨t,rfl,a1⟩⟩;have f:=aA<|l.trans o;have a4:=o.own G J;have aR:=ace (fQ 0 a) a8;have V:X (jL (fG 0) (VK 1) (bytesOf s) m k<|a++[mS (fQ 0 a) b.n]):=
  d.more (e:=λa v=>bh<|zz<|cY<|v.n-fQ 0 a) i.o p NO (by grind) (λe L q=>JA L NO q<|by grind)
 have y:X (I (fG 0<|a++[mS (fQ 0 a) b.n])=I (fG 0 a)+I (dc 1 b)):=by
  show _=_;rw[i.o,cJ,aR]
 have ae:X (x.heap[n]? =K (bQ s<|m+I (fG 0<|a++[mS (fQ 0 a) b.n]))):=by
  show _=_;rw[y.o,<-gH];exact aF
 have S:X (m+I (fG 0<|a++[mS (fQ 0 a) b.n])<=s.size):=by
  show _<=_;rw[y.o,<-gH];exact aU
 have T:X (fQ 0 (a++[mS (fQ 0 a) b.n])=cY (fQ 0 a+b.n)):=FO _;have an:X (∀v,v=[ak aj,z9<|cY<|fQ 0 a+b.n,ay ⟨#[]⟩]->bM a++v=bM (a++[mS (fQ 0 a) b.n])):=by
  intro v a7;rw[a7,<-nH];rfl
 have bj:=f.o.size;generalize mS (fQ 0 a) b.n=e at*;generalize fQ 0 a=g at*;generalize b.n=A at*;go_wp2_with (at_builtin;refine rT _ Y _ _ 43 Y (U w.heap) 59 N 3 aE.underlying43 E M (U w.heap) (I a) k _ Y (a4.alloc _) ⟨U x.heap,0,Z⟩ 1 1 [ak aj,z9<|cY<|g+A,ay ⟨#[]⟩] Y Y (by exact lU _) (lz ⟨aj,cY<|g+A,⟨#[]⟩⟩) aa ?_;intro P a5 D);have R:X (Kp n w P):=(f.o.alloc _).grown D aI;have al:X (P.heap[n]? =K (bQ s<|m+I (fG 0<|a++[e]))):=by
  show _=_;rw[D.block n bS bS,fM x _ n aa];exact ae.o
 rw[an.o _ Y] at a5;go_wp2
 go_roundw
 exact⟨a++[e],aI,by rw[T.o],aI,V.o,S.o,al.o,bu,R.o⟩;simp[bB];omega;have W:X (∀c:List aC,I c=k->(∀b∈c,VK 1 b)->¬aQ (bytesOf s) m (fG 0 c)):=λc aD a2=>d.fail (e:=λa v=>bh<|zz<|cY<|v.n-fQ 0 a) i.o p (λe L q=>a1 ⟨aj,cY<|e.n-fQ 0 a,⟨#[]⟩⟩ ⟨rfl,(uF _).1,(uF _).2,λ_=>rfl,λh=>aa,λh=>aa⟩ q) c aD a2;have f:=aA<|l.trans o;go_wp2;exact⟨rfl,f.o,ai ⟨t,rfl,W.o⟩⟩;have⟨aw,az⟩:=d.done p;have am:=aA d.st
 skip
 go_wp2;go_ret;exact⟨l,av ⟨a,_,rfl,aw,d.yd,am.o,az,H,B,G⟩⟩
def rC (a:Int):aC:=⟨aj,a,⟨#[]⟩⟩
def adh(M:I qZ<=100)(B:iE w x qZ):
 bc 172 #[x] w λq l=>aD w l/\∃v,q=aN v/\aT l (U w.heap) 59 3 v (I qZ) (bM<|qZ.map rC):=by
 have⟨j,g,C,i,D⟩:=eW aE.mg;obtain⟨H,f,k,J,rfl,r,s,t⟩:=B
 skip
 go_enter aE.func172,Tryz.ntmps172;go_wp2_with (at_make;refine wpList_make_own _ Y _ _ 43 Y (U w.heap) 59 j _ 3 aE.underlying43 g C i aM aM _ (I qZ) Y Y Y (jC D) fW (aZ _) ?_;intro E z u);have n:X (aD w E):=jy (bN _ _) u (aZ _) aI
 go_loopw [3,11] (λx e wr=>∃a:Nat,a<=I qZ/\e=n9 a/\x=aG (U w.heap) a (I qZ)/\aT wr (U w.heap) 59 3 (aG (U w.heap) a<|I qZ) a (bM<|(qZ.take a).map rC)/\aD w wr) (λ_ e _=>I qZ-bO (bB e))
 exact⟨0,cH _,rfl,rfl,by simpa [bM] using z,n.o⟩;obtain⟨a,L,rfl,rfl,d,b⟩:=hrel;have A:=b.size
 skip
 by_cases c:a<I qZ
 .obtain rfl:=r aa;have K:bl wr f (k+a) (z9<|aW qZ a 0):=aB (bA b (p:=⟨f,k+a,Z⟩)<|s aa)<|t a c;have p:X (bM ((qZ.take a).map rC)++[ak aj,z9<|aW qZ a 0,ay ⟨#[]⟩]=bM ((qZ.take<|a+1).map rC)):=by
   show _=_;rw[gm c,gD,rZ,<-nH,lO c];rfl
  generalize aW qZ a 0=m at*;go_wp2_with (at_builtin;refine rT _ Y _ _ 43 Y (U w.heap) 59 j 3 aE.underlying43 g i (U w.heap) a (I qZ) _ Y (d.alloc _) ⟨U wr.heap,0,Z⟩ 1 1 [ak aj,z9 m,ay ⟨#[]⟩] Y Y (by exact lU _) (lz ⟨aj,m,⟨#[]⟩⟩) aa ?_;intro G h y);have o:X (aD w G):=jy (b.alloc A _) y bS aI;rw[p.o] at h;go_wp2
  go_roundw
  exact⟨a+1,aa,by go_num,rfl,h,o.o⟩;simp[bB];omega
 obtain rfl:a=I qZ:=aa;rw[jq] at d;go_wp2;go_ret;exact⟨b,_,rfl,d⟩
def F6(a:List Int):iu a<=I a:=List.length_filter_le _ _
def CS(c:iY qZ)(a:n<I qZ):((iu (qZ.take<|n+1):Nat):Int)=(iu (qZ.take n):Nat)+aW qZ n 0:=by
 rw[gm a,lO a];unfold iu;rw[List.filter_append,cJ];rcases c _ (dm a) with b|b<;>simp[b]
def SJ(i:F)(b:List Int)(c:ag)(A:I b<=100)(f:iY b)(s:iE c i b):
 bc 166 #[i] c λo t=>o=aN (z9 ((iu b:Nat):Int))/\t=c:=by
 obtain⟨u,v,C,w,rfl,p,x,e⟩:=s;have j:=aA e;have l:X (∀a,a<I b->((iu (b.take<|a+1):Nat):Int)=(iu (b.take a):Nat)+aW b a 0):=λa g=>CS f g;have k:X (∀a,iu (b.take a)<=a):=λa=>by have:=F6<|b.take a;rw[ng] at this;omega
 clear e f;go_enter aE.func166,Tryz.ntmps166;go_wp2_with fail
 go_loopw [3,8] (λn d wr=>∃a:Nat,a<=I b/\d=n9 a/\n=z9 ((iu (b.take a):Nat):Int)/\wr=c) (λ_ d _=>I b-bO (bB d))
 exact⟨0,cH _,rfl,by simp[iu],rfl⟩;obtain⟨a,g,rfl,rfl,rfl⟩:=hrel;by_cases h:a<I b;obtain rfl:=p aa;have y:=j.o a h;have q:=l.o a h;have z:=k.o<|a+1;generalize aW b a 0=E at*;generalize iu (b.take a)=B at*;generalize r:iu (b.take<|a+1)=D at*;have m:=aA r;go_wp2
 go_roundw
 exact⟨a+1,aa,by go_num,by rw[m.o,q],by trivial⟩;simp[bB];omega;obtain rfl:a=I b:=aa;rw[jq];go_wp2;go_ret;exact⟨rfl,rfl⟩
structure fy where
 text:ByteArray
 bT:ic
structure Bd where
 rows:Nat
 chunks:List fy
def pM{i:Type}(f:i->List F)(s:Nat)(j:∀g,I (f g)=s)(c:List i):∀a (h:a<I c) b d,(f c[a])[b]? =K d->(c.flatMap f)[a*s+b]? =K d:=by
 induction c with
 |nil=>intro a h;simp at h
 |cons g m k=>
  intro a h b d e;rw[kX];cases a with
  |zero=>
   have l:b<I (f g):=by
    simp only[kG] at e;exact(fF.1 e).1
   rw[tX<|by omega];simpa using e
  |succ a=>
   have:=k a (by simpa using h) b d (by grind);rw[rX<|by grind,j,show(a+1)*s+b-s=a*s+b by grind];exact this
structure yO{α:Type}(w:ag)(f:α->List F)(s:Nat)(ao:Option aL)(b off:Nat)(l:List α):Prop where
 addr:0<I l->ao=K ⟨b,off,Z⟩
 lt:0<I l->b<U w.heap
 c:∀j (h:j<I l) i u,(f l[j])[i]? =K u->ap w ⟨b,off+j*s+i,Z⟩=K u
def yO.below{e:Type}{f:e->List F}{s:Nat}{d:List e}(h:yO w f s O n m d)(a:aD w u):yO u f s O n m d:=
 ⟨h.addr,λg=>cL (h.lt g) a.size,λc i b k j=>aB (bA a (p:=⟨n,m+c*s+b,Z⟩)<|h.lt aa)<|h.c c i b k j⟩
def uJ {c:Type}(h:ag)(f:c->List F)(s:Nat)(v:F)(b:List c):Prop:=∃a d g e,v=ah a (I b) e/\yO h f s a d g b
def uJ.gB{d:Type}{f:d->List F}{s e:Nat}{a:List d}(k:∀p,I (f p)=s)(h:aT w e Qd s v (I a) (a.flatMap f)):uJ w f s v a:=by
 rcases h.2 with⟨rfl,i⟩|⟨b,g,q,rfl,r,x,y,t,u,z⟩;have:a=[]:=s4 i;subst this;exact⟨Z,0,0,0,rfl,⟨λh=>by simp at h,λh=>by simp at h,λc h=>by simp at h⟩⟩;have j:=h.cells (g:=b) Y;refine⟨K ⟨b,0,Z⟩,b,0,g,rfl,⟨λ_=>rfl,λ_=>(h.lt b Y).2,?_⟩⟩;intro c l n o m;have:=j _ _<|pM f s k a c l n o m;simpa [kQ] using this
def mL (a:fy):List F:=[ay a.text,ak a.bT.there,ak a.bT.least.null,z9 a.bT.least.n,ay a.bT.least.s,ak a.bT.most.null,z9 a.bT.most.n,ay a.bT.most.s]
def sB (a:List fy):List F:=a.flatMap mL
def VE(a:fy):I (mL a)=8:=rfl
def uh (a:Bd×F):List F:=[n9 a.1.rows,a.2]
def xQ (a:List (Bd×F)):List F:=a.flatMap uh
def Jw(a:Bd×F):I (uh a)=2:=rfl
structure pu(w:ag)(bse9:Nat)(v:F)(L:List (Bd×F)):Prop where
 own:aT w bse9 139 2 v (I L) (xQ L)
 each:∀p∈L,aT w bse9 143 8 p.2 (I p.1.chunks)<|sB p.1.chunks
def gp (b:Int)(a:ic):List Nat:=if a.there then[1]++(dc b a.least++dc b a.most) else[0]
def xO (b:List bx)(c:List Int)(a:Nat):List Nat:=bh (aW b a ⟨⟨#[]⟩,0⟩).name.size++(bytesOf (aW b a ⟨⟨#[]⟩,0⟩).name++[byteOf (aW b a ⟨⟨#[]⟩,0⟩).kind,byteOf<|aW c a 0])
def ny (a:List bx)(b:List Int)(c:Nat):List Nat:=(fp c).flatMap<|xO a b
def Ji{a:List bx}:ny a qZ (n+1)=ny a qZ n++xO a qZ n:=by
 unfold ny;rw[List.range_succ,oN,pH]
def yh (c:List bx)(b:List fy)(a:Nat):List Nat:=bh (aW b a ⟨⟨#[]⟩,hU⟩).text.size++gp (aW c a ⟨⟨#[]⟩,0⟩).kind (aW b a ⟨⟨#[]⟩,hU⟩).bT
def uq (a:List bx)(b:List fy)(c:Nat):List Nat:=(fp c).flatMap<|yh a b
def YO{a:List bx}{b:List fy}:uq a b (n+1)=uq a b n++yh a b n:=by
 unfold uq;rw[List.range_succ,oN,pH]
def jY (b:List bx)(a:Bd):List Nat:=bh a.rows++uq b a.chunks (I a.chunks)
def ot (b:List bx)(a:List Bd):List Nat:=a.flatMap<|jY b
def iV (a:Nat):List Nat:=[a%256,a/256%256,a/65536%256,a/16777216%256]
def fH (b:List fy):List Nat:=b.flatMap λa=>bytesOf a.text
def HD(b:List fy)(a:fy):fH (b++[a])=fH b++bytesOf a.text:=by
 unfold fH;rw[oN,pH]
def fB (b:List Bd):List Nat:=b.flatMap λa=>fH a.chunks
def Ex(b:List Bd)(a:Bd):fB (b++[a])=fB b++fH a.chunks:=by
 unfold fB;rw[oN,pH]
def nB:List Nat:=[83,84,82,65]
def dx.mh{o:cz}(d:kg (w.alloc o) u (bI v))(c:bI v=K m\/m=(w.alloc o).heap.size):dx w u v (aG m n cap):=by
 refine((dx.refl w v).alloc o).trans ⟨d,λe b=>?_⟩;simp[bI] at b;subst b;rcases c with a|a;exact av a;exact ai aa
def e9(h:aT w n Qd m v k S):∃b a,v=ah b k a:=by
 rcases h.2 with⟨rfl,rfl⟩|⟨d,a,c,rfl,-⟩;exact⟨Z,0,rfl⟩;exact⟨_,a,rfl⟩
def nX(h:aT w n Qd m v k S)(b:bI v=K i):∃a,w.heap[i]? =K (aq a Qd (0,0)):=by
 rcases h.2 with⟨rfl,-⟩|⟨e,d,a,rfl,-,c,-⟩;simp[bI] at b;simp[bI] at b;subst b;exact⟨a,c⟩
def dS(h:aT w n Qd m v k S)(b:w.heap[i]? =K (aq C Qe (0,0)))(d:Qe≠Qd):K i≠bI v:=by
 intro c;have⟨e,a⟩:=nX h<|bq c;rw[b] at a;simp at a;exact d a.2
def l8(h:aT w n Qd k v j S)(c:aT w m Qe i x a J)(e:Qd≠Qe):Apart v x:=by
 cases b:bI v with
 |none=>exact av b
 |some g=>
  right
  rw[b];have⟨f,d⟩:=nX h b;exact dS c d e
def TW(e:ag)(d:fy):∀(a:Nat) (c:F),(mL d)[a]? =K c->ap (cG e<|aq (cR<|mL d) Qd) ((⟨U e.heap,0,Z⟩:aL).add a)=K c:=by
 intro a c b;have f:a<8:=by
  have:=(fF.1 b).1;simpa [mL] using this
 have:a=0\/a=1\/a=2\/a=3\/a=4\/a=5\/a=6\/a=7:=aa;rcases this with rfl|rfl|rfl|rfl|rfl|rfl|rfl|rfl<;>(simp[mL] at b;subst b;simp[rQ,mL])
def TX{c:fy}:∀b∈mL c,m3 b=af:=by
 intro b a;simp[mL] at a;rcases a with rfl|rfl|rfl|rfl|rfl|rfl|rfl|rfl<;>rfl
def aE.Vh:((aH ax).info? 143).map (λa=>(jH a,a.size,jm a))=K (K<|bZ #[ay ⟨#[]⟩,ak aj,ak aj,z9 0,ay ⟨#[]⟩,ak aj,z9 0,ay ⟨#[]⟩],8,88):=aR
def R6(h:fK 0 (l.take n)=Z):fK 0 l=Z:=by rw[EF l n,h];rfl
def R5(h:fK 0 (l.take n)=K m)(b:k<m):fK 0 l≠K k:=by
 rw[EF l n,h];intro a;have:=EE (show fK m (l.drop n)=K k from a);omega
def R4(s:ByteArray)(k p e:Nat)(a:List Nat)(S:e<=100)(R:I a<=100)(U:∀d∈a,d<65536)(G:iE w v (lm a))(h:w.heap[k]? =K (bQ s p)):
 bc 178 #[(aK k),v,z9 e] w λj q=>q=w/\((j=aN (cP #[])/\fK 0 a=K e)\/(∃d,j=gO (g4 d)/\fK 0 a≠K e)):=by
 obtain⟨L,A,H,M,rfl,t,B,u⟩:=G;have x:I (lm a)=I a:=by simp[lm]
 rw[x] at t B ⊢;have z:X (∀i,(C:i<I a)->bl w A (H+i) (n9<|a[i])):=λi C=>by
  have:=u i aa;rw[lO aa] at this;simpa [lm] using this
 clear u x;go_enter aE.func178,Tryz.ntmps178;go_wp2_with fail
 go_loopw [6,11] (λJ o wr=>∃c b:Nat,c<=I a/\o=n9 c/\J=n9 b/\b<=e/\fK 0 (a.take c)=K b/\wr=w) (λ_ o _=>I a-bO (bB o))
 exact⟨0,0,cH _,rfl,rfl,cH _,rfl,rfl⟩;obtain⟨c,b,Q,rfl,rfl,E,g,rfl⟩:=hrel;have r:=aA g;by_cases y:c<I a
 .obtain rfl:=t aa;have P:=z.o c y;have n:X (fK 0 (a.take<|c+1)=if a[c]<b then K b else if a[c]=b then K (b+1) else Z):=R7 y r.o;generalize a[c]=d at*;by_cases O:b<d\/e<=d
  .have l:X (fK 0 a≠K e):=by
    by_cases N:b<d;have f:=n.o;rw[if_neg aa,if_neg aa] at f;show _≠_;rw[R6 f];simp;have f:=n.o;rw[if_neg aa,if_pos aa] at f;exact R5 f aa
   go_wp2_with (go_at_call 97;refine bG (lP k p s _ h) ?_;rintro j q ⟨rfl,rfl⟩)
   all_goals exact⟨rfl,rfl,ai ⟨_,rfl,l.o⟩⟩
  by_cases D:d=b;subst D;have m:X (fK 0 (a.take<|c+1)=K (d+1)):=bu;go_wp2
  go_roundw
  exact⟨c+1,d+1,aa,by go_num,by go_num,aa,m.o,by trivial⟩;simp[bB];omega;have m:X (fK 0 (a.take<|c+1)=K b):=by
   have f:=n.o;rw[if_pos aa] at f;exact f
  have T:((d:Int)==(b:Int))=aj:=bS;go_wp2
  go_roundw
  exact⟨c+1,b,aa,by go_num,rfl,E,m.o,by trivial⟩;simp[bB];omega
 obtain rfl:c=I a:=aa;have g:=r.o;rw[jq] at g;by_cases V:b<e;have l:X (fK 0 a≠K e):=by
  show _≠_;rw[g];simp;omega
 go_wp2_with (go_at_call 97;refine bG (lP k p s _ h) ?_;rintro j q ⟨rfl,rfl⟩);exact⟨rfl,rfl,ai ⟨_,rfl,l.o⟩⟩;obtain rfl:b=e:=aa;go_wp2;go_end0;exact⟨rfl,av ⟨rfl,g⟩⟩
def zK{s:ByteArray}{b:List aC}(q:m<=100)(hL:I b=m)(l:∀c∈b,VK M c)(d:aQ (bytesOf s) n (gq M b)):
 ∃(a:List aC) (e:List Nat),I a<=m/\(∀c∈a,VK M c)/\a.Nodup/\I e=m/\fK 0 e=K (I a)/\aQ (bytesOf s) n (bh<|I a)/\aQ (bytesOf s) (n+I (bh<|I a)) (dQ M a)/\
  aQ (bytesOf s) (n+I (bh<|I a)+I (dQ M a)) (iM (wid<|I a) e):=by
 have⟨g,h,p⟩:=EV b ⟨aj,0,⟨#[]⟩⟩;have⟨i,j,k,f⟩:=wE b (I b)<|aZ _;rw[jq] at i j k f;unfold gq at d;rw[dw,dw] at d;exact⟨(dfold b).1,(dfold b).2,aa,λc o=>l c<|f c o,g,aa,h,d.1,d.2.1,d.2.2⟩
def ZC(d:Int)(a0:d=1\/d=2\/d=3)(s:ByteArray)(i f k:Nat)(a2:s.size<=aV)(H:k<=100)(bv:f<=s.size)(h:w.heap[i]? =K (bQ s f)):
 bc 176 #[(aK i),z9 d,z9 k] w λl E=>Kp i w E/\
  ((∃(a:List aC) (v:F),l=aN v/\I a<=k/\(∀e∈a,VK d e)/\a.Nodup/\aQ (bytesOf s) f (bh<|I a)/\aQ (bytesOf s) (f+I (bh<|I a)) (dQ d a)/\
    (∀D:List aC,I D=I a->(∀e∈D,VK d e)->aQ (bytesOf s) (f+I (bh<|I a)) (dQ d D)->D=a)/\f+I (bh<|I a)+I (dQ d a)<=s.size/\
    E.heap[i]? =K (bQ s<|f+I (bh<|I a)+I (dQ d a))/\aT E (U w.heap) 59 3 v (I a) (bM a))\/
   (∃C,l=gO (g4 C)/\∀c:List aC,I c=k->(∀e∈c,VK d e)->¬aQ (bytesOf s) f (gq d c))):=by
 have b6:=bE h;have b4:= @run_makeMap<|aH ax
 skip
 go_enter aE.func176,Tryz.ntmps176;go_wp2_with fail;refine bG (wL i f s a2 bv h) ?_;rintro l cf ⟨V,⟨g,rfl,Z,L,bm,aF⟩|⟨C,rfl,ab⟩⟩;have N:=aA V;have a5:=V.size;by_cases bW:k<g;have n:X (∀c:List aC,I c=k->(∀e∈c,VK d e)->¬aQ (bytesOf s) f (gq d c)):=by
  intro c q r t;have⟨a,ad,Q,A,G,R,S,o,p,T⟩:=zK H q r t;have:=jQ aa (cA Z) o L;omega
 go_wp2_with (go_at_call 97;refine bG (lP i _ s _ aF) ?_;rintro l E ⟨rfl,rfl⟩);exact⟨rfl,N.o,ai ⟨_,rfl,n.o⟩⟩
 .go_wp2_with fail;refine bG (L9 d a0 s i (f+I (bh g)) g a2 (by omega) bm aF) ?_;rintro l j ⟨az,⟨a,v,rfl,bk,aU,bx,a6,bo,aG,a3⟩|⟨C,rfl,ab⟩⟩
  .subst bk;have z:=aA<|N.o.trans az;have a8:=aA<|j5 a3 a5;obtain⟨bF,bH,b8,bK,rfl,y⟩:=je.gB a3;have ba:=aA y;have x:=World.ownsMap_made j (aH ax) 59<|plainElem (H:=Unit) (aH ax) 3;have b7:=z.o.size;go_wp2_with fail
   go_loopw [28] (λM wr=>∃(b g:Nat) (D:DataW Unit),b<=I a/\g<=b/\M=n9 b/\(a.take b).Nodup/\wr.ownsMap (aH ax) 59 (plainElem (H:=Unit) (aH ax) 3) (U j.heap) g D/\Knows D (a.take b)/\aD j wr) (λM _=>I a-bO (bB M))
   exact⟨0,0,.map [],cH _,aZ _,rfl,aI,x,cN Knows.empty,(bN _ _).alloc (aZ _) _⟩;obtain⟨b,g,D,b2,b5,rfl,J,x,a1,m⟩:=hrel;have a4:U j.heap<=U wr.heap:=m.size;have a5:U j.heap+1<=U wr.heap:=cA x.lt;have al:X (a.take b).Nodup:=J;by_cases u:b<I a;have y:=ba.o.below m;obtain rfl:=y.addr (by omega);have ca:=y.c0 b u;have cc:=y.c1 b u;have cd:=y.c2 b u;have P:X (jd a[b]):=(aU _<|dm u).ok a0;have W:=Fy a[b] P.o;have ae:=a1.has a[b] P.o;have am:X (I (a.take b)=b):=bu;have an:=aA<|gm u;by_cases B:idx (a.take b) a[b]<I (a.take b)
   .have n:X (∀c:List aC,I c=k->(∀e∈c,VK d e)->¬aQ (bytesOf s) f (gq d c)):=by
     intro c q r t;have⟨bb,ad,Q,A,G,R,S,o,p,T⟩:=zK H q r t;have ar:=jQ aa (by have:=Z;omega) o L;rw[ar] at p;have bd:=a6 bb ar A p;subst bd;have br:=(A7).1 B;have⟨M,b1,aw⟩:=m9 br;rw[ry] at aw;have bP:=am.o;have:=FY G aa u aw;omega
    rw[decide_eq_true B] at ae;generalize a[b]=e at*;go_wp2_with (first
     |(at_lookup;refine wpList_lookup_own_ok_int _ Y _ _ 229 Y 59 3 aM CG aE.underlying229 aE.underlying3 ON (U j.heap) g D Y (x.alloc _) _ _ Y W ?_;intro ao bi bz)
     |(go_at_call 97;refine bG (lP i _ s _<|by rw[fM _ _ i<|by omega,cT m i<|by omega];exact aG) ?_;rintro l E ⟨rfl,rfl⟩))
    exact⟨rfl,z.o.trans<|Kp.iW<|m.alloc a4 _,ai ⟨_,rfl,n.o⟩⟩
   rw[decide_eq_false B] at ae;have O:X (a.take<|b+1).Nodup:=by
    show List.Nodup _;rw[an.o,List.nodup_append];refine⟨al.o,by simp,?_⟩;intro bD be ao aR l;simp at aR;subst aR;subst l;exact B<|(A7).2 be
   have a9:X (Knows (D.put (kl a[b])<|.lit<|.int aM (b:Int))<|a.take<|b+1):=by
    have:=a1.put a[b] P.o B;rw[am.o] at this;show Knows _ _;rw[an.o];exact this
   have b3:K (U wr.heap)≠K (U j.heap):=bS;have bT:∀a7:cz,(wr.alloc a7).heap.size=U wr.heap+1:=λa7=>aI;generalize a[b]=e at*;go_wp2_with (first
    |(at_lookup;refine wpList_lookup_own_ok_int _ Y _ _ 229 Y 59 3 aM CG aE.underlying229 aE.underlying3 ON (U j.heap) g D Y (x.alloc _) _ _ Y W ?_;intro ao bi bz)
    |(at_mapUpdate;refine wpList_mapUpdate_own _ Y _ _ _ 229 Y 59 3 CG aE.underlying229 _ (U j.heap) g D Y (x.alloc _) ?_ _ _ _ Y Y W _ [] (plainElem_int aE.underlying3<|wf_i64 (by omega)<|by omega) ?_;(unfold aV;omega);intro bC bs bl))
   have bj:aD j bC:=jy (m.alloc a4 _) bl bu λbL b0=>bu;refine⟨⟨b+1,g+1,_,aa,aa,aI,O.o,bs,a9.o,bj⟩,by simp[bB];omega⟩;obtain rfl:b=I a:=aa;have J:=al.o;rw[jq] at J;have O:X a.Nodup:=J;go_wp2;go_ret;exact⟨z.o.trans<|Kp.iW m,av ⟨a,_,rfl,aa,aU,O.o,L,bx,a6,bo,bV (cT m i<|by omega) aG,fc a8.o m⟩⟩
  have n:X (∀c:List aC,I c=k->(∀e∈c,VK d e)->¬aQ (bytesOf s) f (gq d c)):=by
   intro c q r t;have⟨a,ad,Q,A,G,R,S,o,p,T⟩:=zK H q r t;have:=jQ (by omega) (cA Z) o L;rw[this] at p;exact ab a this A p
  have z:=aA<|N.o.trans az;go_wp2;exact⟨rfl,z.o,ai ⟨C,rfl,n.o⟩⟩
 have n:X (∀c:List aC,I c=k->(∀e∈c,VK d e)->¬aQ (bytesOf s) f (gq d c)):=by
  intro c q r t;have⟨a,ad,Q,A,G,R,S,o,p,T⟩:=zK H q r t;exact ab (I a) aa o
 go_wp2;exact⟨rfl,V,ai ⟨C,rfl,n.o⟩⟩
def Uu(a:List aC){b:aC}(h:n<I a):aW a n b=a[n]:=bu
def ZB(a6:M=1\/M=2\/M=3){s:ByteArray}(a7:s.size<=aV)(G:k<=100)(ba:m<=s.size)(h:w.heap[n]? =K (bQ s m)):
 bc 171 #[(aK n),z9 M,z9 k] w λl t=>Kp n w t/\
  ((∃(j:List aC) (v:F),l=aN v/\I j=k/\(∀d∈j,VK M d)/\aQ (bytesOf s) m (gq M j)/\(∀f:List aC,I f=k->(∀d∈f,VK M d)->aQ (bytesOf s) m (gq M f)->f=j)/\m+I (gq M j)<=s.size/\
    t.heap[n]? =K (bQ s<|m+I (gq M j))/\aT t (U w.heap) 59 3 v (I j) (bM j))\/
   (∃e,l=gO (g4 e)/\∀f:List aC,I f=k->(∀d∈f,VK M d)->¬aQ (bytesOf s) m (gq M f))):=by
 have⟨bk,o,cO,bb,cW⟩:=eW aE.mg;have cu:=bE h
 skip
 go_enter aE.func171,Tryz.ntmps171;go_wp2_with fail;refine bG (ZC M a6 s n m k a7 G ba h) ?_;rintro l bo ⟨a3,⟨c,v,rfl,ci,ch,cp,ar,cv,aw,H,cc,a8⟩|⟨e,rfl,J⟩⟩
 .have aH:=aA a3;have bH:X c.Nodup:=cp;have bK:=aA a8;obtain⟨di,dk,rfl⟩:=tv a8;generalize E:m+I (bh<|I c)+I (dQ M c)=g at*;have b0:X (∀w,bc 158 #[n9<|I c] w λl t=>l=aN (z9<|wid<|I c)/\t=w):=λw=>adC (I c) aa w;have cN:=AB<|I c;go_wp2_with (go_at_call 158;refine bG (b0.o _) ?_;rintro l t ⟨rfl,P⟩;rw[P]);refine bG (ZF s n g (wid<|I c) k a7 (by omega) G H cc) ?_;rintro l i ⟨ae,⟨rfl,L,a4,cq⟩|⟨e,rfl,J⟩⟩
  .have bP:X (aQ (bytesOf s) g<|iM (wid<|I c)<|D (wid<|I c) (g3 s g) k):=YK s g k H L;have bT:X (∀b:List Nat,I b=k->(∀d∈b,d<2^wid (I c))->aQ (bytesOf s) g (iM (wid<|I c) b)->b=D (wid<|I c) (g3 s g) k):=by
    intro b C a2 b8;have:=(z8 s g _ b H a2 b8).2;rw[C] at this;exact bq this
   have r:I (D (wid<|I c) (g3 s g) k)=k:=xj;have cs:∀e∈D (wid<|I c) (g3 s g) k,e<65536:=λe x=>by
    have C:=AK e x;have a2:2^wid (I c)<=2^7:=om aa cN;omega
   generalize D (wid<|I c) (g3 s g) k=b at*;have cn:I (lm b)=k:=by rw[<-r];simp[lm]
   have S:X (iE i (aG (U bo.heap) k k)<|lm b):=iE.gB<|bV cn cq;have z:=aA<|aH.o.trans ae;have bL:=aA<|ae.own bK.o cu;have cy:=z.o.size;generalize ca:g+(k*wid (I c)+7)/8=aU at*;go_wp2_with fail;refine bG (R4 s n aU (I c) b (by omega) (by rw[r];omega) cs S.o a4) ?_;rintro l t ⟨P,⟨rfl,N⟩|⟨e,rfl,J⟩⟩
   .rw[P];have bv:X _:=TP a6 (s:=s) (p:=m) (cn:=k) (n:=I c) (d:=c) (ps:=b) ⟨aj,0,⟨#[]⟩⟩ G ci Y ch bH.o r N ar cv (bV E bP.o) aw<|bV E H;have bF:X (∀a,(o:a<I b)->b[a]<I c):=λa o=>zF N _<|dm o;have aR:=aA<|je.gB bL.o;obtain⟨db,Q,R,dc,bi,bd,be,aF⟩:=S.o;simp only[j9] at bi;obtain⟨cZ,bj,c0⟩:=bi;rw[<-bj] at bd be aF;have bz:X (∀a,(o:a<I b)->bl i Q (R+a) (n9<|b[a])):=λa o=>by
     have C:=aF a (by rw[<-r];exact o);rw[lO aa] at C;simpa [lm] using C
    have bx:X (0<k->(K (⟨U bo.heap,0,Z⟩:aL))=K ⟨Q,R,Z⟩):=λc8=>bu;obtain⟨c5,c6,dd,c7,bm,cK⟩:=aR.o;simp only[j9] at bm;obtain⟨rfl,_,rfl⟩:=bm;clear bd aF aR S cZ bj c0;go_wp2_with (at_make;refine wpList_make_own _ Y _ _ 43 Y (U i.heap) 59 bk _ 3 aE.underlying43 o cO bb aM aM _ k Y Y Y (jC cW) fW (aZ _) ?_;intro c3 cr ck);have br:X (aD i c3):=jy (bN _ _) ck (aZ _) aI
    go_loopw [9,31] (λc1 az wr=>∃a:Nat,a<=k/\az=n9 a/\c1=aG (U i.heap) a k/\aT wr (U i.heap) 59 3 (aG (U i.heap) a k) a (bM<|(b.take a).map λe=>aW c e ⟨aj,0,⟨#[]⟩⟩)/\aD i wr) (λ_ az _=>k-bO (bB az))
    exact⟨0,cH _,rfl,rfl,by simpa [bM] using cr,br.o⟩;obtain⟨a,c9,rfl,rfl,an,u⟩:=hrel;have cx:=u.size
    skip
    by_cases co:a<k
    .have am:a<I b:=by rw[r];exact co
     have x:=bF.o a am;have a5:=bx.o aa;have N:bl wr Q (R+a) (n9<|b[a]):=(bA u (p:=⟨Q,R+a,Z⟩)<|be aa).trans<|bz.o a am;have O:=cK.below u;obtain rfl:=O.addr aa;have de:=O.c0 b[a] x;have df:=O.c1 b[a] x;have dg:=O.c2 b[a] x;have bW:X (∀d:aC,c[b[a]]=d->bM ((b.take a).map λe=>aW c e ⟨aj,0,⟨#[]⟩⟩)++[ak d.null,z9 d.n,ay d.s]=bM ((b.take<|a+1).map λe=>aW c e ⟨aj,0,⟨#[]⟩⟩)):=by
      intro d y;rw[gm am,gD,rZ,<-nH,Uu c x,y]
     simp only[iG,nM] at a5;have⟨cd,cf,_⟩:=a5;subst cd;subst cf;rw[fq] at N;generalize y:c[b[a]]=d at*;have b1:=bW.o d Y;generalize b[a]=e at*;go_wp2_with (at_builtin;refine rT _ Y _ _ 43 Y (U i.heap) 59 bk 3 aE.underlying43 o bb (U i.heap) a k _ Y (an.alloc _) ⟨U wr.heap,0,Z⟩ 1 1 [ak d.null,z9 d.n,ay d.s] Y Y (by exact lU _) (lz d) (by omega) ?_;intro c4 a9 cl);have bs:X (aD i c4):=jy (u.alloc cx _) cl bS aI;rw[b1] at a9;go_wp2
     go_roundw
     exact⟨a+1,aa,by go_num,rfl,a9,bs.o⟩;simp[bB];omega
    obtain rfl:a=k:=aa;have cA:b.take a=b:=iF<|jC r;rw[cA] at an;have⟨a0,b2,b3,a1,b4⟩:=bv.o;have bC:X (m+I (gq M<|b.map λe=>aW c e ⟨aj,0,⟨#[]⟩⟩)=aU):=by
     show _=_;rw[b3,cJ,cJ,wN,r,<-gH,<-gH,E,ca]
    have bD:X (m+I (gq M<|b.map λe=>aW c e ⟨aj,0,⟨#[]⟩⟩)<=s.size):=by
     have:=o9 a1 (by rw[cM];exact ba);rwa [cM] at this
    generalize da:(b.map λe=>aW c e ⟨aj,0,⟨#[]⟩⟩)=j at*;go_wp2;go_ret;exact⟨z.o.trans<|Kp.iW u,av ⟨j,_,rfl,a0,b2,a1,b4,bD.o,by rw[bC.o,cT u n aa];exact a4,bV a0<|j5 an cy⟩⟩
   have T:X (∀f:List aC,I f=k->(∀d∈f,VK M d)->¬aQ (bytesOf s) m (gq M f)):=by
    intro f al L ao;have⟨V,c2,b6,W,b7,ab,p,ad,B,q⟩:=zK G al L ao;have A:=jQ aa aa ad ar;rw[A] at B q p;rw[(aw V A W B),E] at q;have b5:=bT.o c2 ab (λd y=>AA (by omega) d<|zF p d y) q;rw[b5] at p;exact J p
   rw[P];go_wp2;exact⟨rfl,z.o,ai ⟨e,rfl,T.o⟩⟩
  have T:X (∀f:List aC,I f=k->(∀d∈f,VK M d)->¬aQ (bytesOf s) m (gq M f)):=by
   intro f al L ao;have⟨V,b,b6,W,b7,ab,p,ad,B,q⟩:=zK G al L ao;have A:=jQ aa aa ad ar;rw[A] at B q p;rw[(aw V A W B),E] at q;have:=(z8 s g (wid<|I c) b H (λd y=>AA (by omega) d<|zF p d y) q).1;rw[ab] at this;exact J this
  have z:=aA<|aH.o.trans ae;go_wp2;exact⟨rfl,z.o,ai ⟨e,rfl,T.o⟩⟩
 skip
 skip
 go_wp2;exact⟨rfl,a3,ai ⟨e,rfl,J⟩⟩
def IQ(a:List aC)(f:∀b∈a,VK 2 b):(a.map aC.n).map rC=a:=by
 rw[List.map_map]
 conv=>rhs;rw[<-List.map_id a]
 apply vZ;intro b g;have c:=f b g;have d:=c.there;have e:=(c.s2 Y).2;cases b;simp at d e;simp[rC,d,e]
def Er:(qZ.map rC).map aC.n=qZ:=by
 rw[List.map_map]
 conv=>rhs;rw[<-List.map_id qZ]
 rfl
def P7(h:iY qZ):∀b∈qZ.map rC,VK 2 b:=by
 intro b d;obtain⟨a,e,rfl⟩:=jW.1 d;have c:=h a e;exact⟨rfl,by show _<=a;omega,by show a<=_;omega,λh=>by omega,λ_=>⟨c,rfl⟩,λh=>by omega⟩
def HM(b:List aC)(c:∀a∈b,VK 2 a):iY (b.map aC.n):=by
 intro f e;obtain⟨a,d,rfl⟩:=jW.1 e;exact((c a d).s2 Y).1
def Reads(s:ByteArray)(i c e:Nat)(f:Int)(E:List aC->List Nat)(j:ag)(h:gN)(g:ag):Prop:=Kp i j g/\
 ((∃(b:List aC) (v:F),h=aN v/\I b=e/\(∀d∈b,VK f d)/\aQ (bytesOf s) c (E b)/\(∀a:List aC,I a=e->(∀d∈a,VK f d)->aQ (bytesOf s) c (E a)->a=b)/\c+I (E b)<=s.size/\
   g.heap[i]? =K (bQ s<|c+I (E b))/\aT g (U j.heap) 59 3 v (I b) (bM b))\/
  (∃k,h=gO (g4 k)/\∀a:List aC,I a=e->(∀d∈a,VK f d)->¬aQ (bytesOf s) c (E a)))
def ZG(a x:Int)(y:e4 a x=af)(s:ByteArray)(i g f:Nat)(q:s.size<=aV)(o:f<=100)(t:g<=s.size)(h:w.heap[i]? =K (bQ s g)):
 bc 165 #[(aK i),z9 a,z9 x,z9 f] w λd U=>Reads s i g f a (jB a x) w d U:=by
 have⟨B,J⟩:=Cp y;have W:=bE h
 skip
 rcases J with rfl|rfl|rfl|rfl
 .have c:∀b,jB a 0 b=dQ a b:=λb=>rfl;have n:X (jB a 0=dQ a):=funext c;go_enter aE.func165,Tryz.ntmps165;go_wp2_with fail;refine bG (L9 a B s i g f q o t h) ?_;intro d m k;have j:X (Reads s i g f a (jB a 0) w d m):=by
   show Reads _ _ _ _ _ _ _ _ _;rw[n.o];exact k
  rcases k with⟨l,⟨b,v,rfl,_⟩|⟨u,rfl,_⟩⟩;go_wp2;go_ret;exact j.o;go_wp2;exact⟨rfl,j.o⟩
 .have z:a=1:=by simp[e4] at y;omega
  subst z;have c:∀b,jB 1 1 b=fG 0 b:=λb=>rfl;have n:X (jB 1 1=fG 0):=funext c;go_enter aE.func165,Tryz.ntmps165;go_wp2_with fail;refine bG (ZA q o t h) ?_;intro d m k;have j:X (Reads s i g f 1 (jB 1 1) w d m):=by
   show Reads _ _ _ _ _ _ _ _ _;rw[n.o];exact k
  rcases k with⟨l,⟨b,v,rfl,_⟩|⟨u,rfl,_⟩⟩;go_wp2;go_ret;exact j.o;go_wp2;exact⟨rfl,j.o⟩
 .have c:∀b,jB a 2 b=gq a b:=λb=>rfl;have n:X (jB a 2=gq a):=funext c;go_enter aE.func165,Tryz.ntmps165;go_wp2_with fail;refine bG (ZB B q o t h) ?_;intro d m k;have j:X (Reads s i g f a (jB a 2) w d m):=by
   show Reads _ _ _ _ _ _ _ _ _;rw[n.o];exact k
  rcases k with⟨l,⟨b,v,rfl,_⟩|⟨u,rfl,_⟩⟩;go_wp2;go_ret;exact j.o;go_wp2;exact⟨rfl,j.o⟩
 .have z:a=2:=by simp[e4] at y;omega
  subst z;have c:∀b,jB 2 3 b=eV (b.map aC.n):=λb=>rfl
  skip
  go_enter aE.func165,Tryz.ntmps165;go_wp2_with fail;refine bG (Ma s i g f q o t h) ?_;rintro d m ⟨l,⟨V,v,rfl,C,S,P,R,L,H,N⟩|⟨u,rfl,M⟩⟩;have E:=aA l;have D:=aA<|iE.gB N;have Q:=l.size;go_wp2_with fail;refine bG (adh (by rw[C];exact o) D.o) ?_;rintro d Y ⟨A,T,rfl,O⟩
  skip
  go_wp2;go_ret;refine⟨E.o.trans<|Kp.iW A,av ⟨V.map rC,T,rfl,by rw[er];exact C,P7 S,?_,?_,?_,?_,?_⟩⟩;rw[c,Er];exact P;intro e G r p;rw[c] at p;rw[<-R (e.map aC.n) bu (HM e r) p,IQ e r];rw[c,Er];exact L;rw[c,Er,cT A i aa];exact H;rw[er];exact j5 O Q;have F:X (∀e:List aC,I e=f->(∀d∈e,VK 2 d)->¬aQ (bytesOf s) g (jB 2 3 e)):=by
   intro e G r p;rw[c] at p;exact M (e.map aC.n) bu (HM e r) p
  go_wp2;exact⟨rfl,l,ai ⟨u,rfl,F.o⟩⟩
def sC:aC:=⟨af,0,⟨#[]⟩⟩
structure sP(k:Int)(zs:List Int)(pres:List aC)(j nx:Nat)(l:List aC):Prop where
 lv:l.map fV=zs.take j
 th:there l=pres.take nx
 Bm:nx=iu (zs.take j)
 ok:∀x∈l,VC k x
def Ym(a:List Int)(b:Nat):iu (a.take b)<=iu a:=by
 unfold iu;exact((List.take_sublist b a).filter _).length_le
def N6{b:List aC}{a:aC}:there (b++[a])=if a.null then there b else there b++[a]:=by
 unfold there;rw[List.filter_append];cases c:a.null<;>simp[c]
def sP.null{e:List aC}{d:List aC}(h:sP M qZ e n m d)(g:iY qZ)(b:n<I qZ)(c:aW qZ n 0=0):sP M qZ e (n+1) m (d++[sC]):=by
 have f:=CS g b;rw[c] at f;refine⟨?_,?_,?_,?_⟩;rw[gD,h.lv,gm b,<-lO b,c];rfl;rw[N6];exact h.th;rw[h.Bm];omega;intro j i;rcases eP.1 i with a|a;exact h.ok j a;simp at a;subst a;exact av ⟨rfl,rfl,rfl⟩
def sP.lt{b:List aC}{e:List aC}(h:sP M qZ b n m e)(c:iY qZ)(a:n<I qZ)(k:aW qZ n 0≠0)(j:I b=iu qZ):m<I b:=by
 have f:=CS c a;have g:=Ym qZ<|n+1;have d:=c _<|dm a;rw[<-lO a] at d;have i:=h.Bm;omega
def sP.one{b:List aC}{g:List aC}(h:sP M qZ b n m g)(f:iY qZ)(a:n<I qZ)(p:aW qZ n 0≠0)(k:m<I b)(d:VK M b[m]):sP M qZ b (n+1) (m+1) (g++[b[m]]):=by
 have i:=CS f a;have j:=f _<|dm a;rw[<-lO a] at j;have e:aW qZ n 0=1:=aa;rw[e] at i;refine⟨?_,?_,?_,?_⟩;rw[gD,h.lv,gm a,<-lO a,e];congr 1;simp[fV,d.there];rw[N6,d.there,h.th,gm k];rfl;rw[h.Bm];omega;intro o l;rcases eP.1 l with c|c;exact h.ok o c;simp at c;subst c;exact ai d
def Zy(bk:e4 M qB=af){s:ByteArray}(aF:s.size<=aV)(bj:k<=100)(bC:m<=s.size)(h:w.heap[n]? =K (bQ s m)):
 bc 156 #[(aK n),z9 M,z9 qB,z9 k] w λe t=>Kp n w t/\
  ((∃(b:List aC) (v:F),e=aN v/\I b=k/\(∀e∈b,VC M e)/\aQ (bytesOf s) m (g5 M qB b)/\(∀c:List aC,I c=k->(∀e∈c,VC M e)->aQ (bytesOf s) m (g5 M qB c)->c=b)/\m+I (g5 M qB b)<=s.size/\
    t.heap[n]? =K (bQ s<|m+I (g5 M qB b))/\aT t (U w.heap) 59 3 v (I b) (bM b))\/
   (∃z,e=gO (g4 z)/\∀c:List aC,I c=k->(∀e∈c,VC M e)->¬aQ (bytesOf s) m (g5 M qB c))):=by
 have⟨ad,P,b2,T,b3⟩:=eW aE.mg;have bF:=bE h;have a9:=aA h;go_enter aE.func156,Tryz.ntmps156;go_wp2_with fail;refine bG (Ma s n m k aF bj bC a9.o) ?_;rintro e cq ⟨ar,⟨d,v,rfl,r,a2,bH,a1,bo,bh,aR⟩|⟨z,rfl,R⟩⟩;have al:=aA ar;have C:=aA a2;have a8:=aA<|iE.gB aR;have bv:iu d<=100:=cA<|F6 d;have a6:X (∀w,iE w v d->bc 166 #[v] w λqB t=>qB=aN (z9 ((iu d:Nat):Int))/\t=w):=λw h=>SJ v d w aa a2 h;go_wp2_with (go_at_call 166;refine bG (a6.o _ a8.o) ?_;rintro e t ⟨rfl,b0⟩;rw[b0]);refine bG (ZG M qB bk s n (m+I (eV d)) (iu d) aF bv bo bh) ?_;rintro e g ⟨N,⟨l,cp,rfl,aU,bD,bK,bT,br,bi,bx⟩|⟨z,rfl,R⟩⟩
 .have B:=aA<|al.o.trans N;obtain⟨ch,W,ab,ci,rfl,a3,a4,b5⟩:=iE.gB<|N.own aR bF;obtain⟨b8,ca,ck,cc,rfl,bW⟩:=je.gB bx;have bL:=B.o.size;have bs:m+I (eV d)+I (jB M qB l)<=s.size:=br;rw[r] at a3 a4;have a7:X (∀a,a<k->ap g ⟨W,ab+a,Z⟩=K (z9<|aW d a 0)):=by
   have:=b5;rw[r] at this;exact this
  skip
  rw[r];go_wp2_with (at_make;refine wpList_make_own _ Y _ _ 43 Y (U g.heap) 59 ad _ 3 aE.underlying43 P b2 T aM aM _ k Y Y Y (jC b3) fW (aZ _) ?_;intro b7 bz bm);have a5:X (aD g b7):=jy (bN _ _) bm (aZ _) aI
  go_loopw [11,12,28] (λb6 nv V wr=>∃(a f:Nat) (b:List aC),a<=k/\f<=a/\V=n9 a/\nv=n9 f/\b6=aG (U g.heap) a k/\sP M d l a f b/\aT wr (U g.heap) 59 3 (aG (U g.heap) a k) a (bM b)/\aD g wr) (λ_ _ V _=>k-bO (bB V))
  exact⟨0,0,[],cH _,aZ _,rfl,rfl,rfl,⟨rfl,rfl,rfl,λe b1=>by simp at b1⟩,by simpa [bM] using bz,a5.o⟩;obtain⟨a,f,b,cd,cf,rfl,rfl,rfl,j,S,p⟩:=hrel;have a0:=p.size
  skip
  by_cases az:a<k;have q:a<I d:=bV r az;obtain rfl:=a3 (by omega);have aw:bl wr W (ab+a) (z9<|aW d a 0):=(bA p (p:=⟨W,ab+a,Z⟩)<|a4 aa).trans<|a7.o a az;by_cases y:aW d a 0=0
  .have H:=aA<|j.null C.o q y;rw[y] at aw;have L:X (bM b++[ak af,z9 0,ay ⟨#[]⟩]=bM (b++[sC])):=nH b sC;clear y q;go_wp2_with (at_builtin;refine rT _ Y _ _ 43 Y (U g.heap) 59 ad 3 aE.underlying43 P T (U g.heap) a k _ Y (S.alloc _) ⟨U wr.heap,0,Z⟩ 1 1 [ak af,z9 0,ay ⟨#[]⟩] Y Y (by exact lU _) (lz sC) (by omega) ?_;intro ae x O);have G:X (aD g ae):=jy (p.alloc a0 _) O bS aI;rw[L.o] at x;refine⟨⟨a+1,f,b++[sC],aa,aa,by go_num,rfl,rfl,H.o,x,G.o⟩,by simp[bB];omega⟩
  have u:=j.lt C.o q y aU;have b4:aW d a 0=1:=by
   have bd:=C.o _<|dm q;rw[<-lO q] at bd;omega
  have H:=aA<|j.one C.o q y u<|bD _<|dm u;rw[b4] at aw;have E:=bW.below p;obtain rfl:=E.addr (by omega);have cl:=E.c0 f u;have cn:=E.c1 f u;have co:=E.c2 f u;have L:X (bM b++[ak l[f].null,z9 l[f].n,ay l[f].s]=bM (b++[l[f]])):=nH b _;generalize l[f]=A at*;go_wp2_with (at_builtin;refine rT _ Y _ _ 43 Y (U g.heap) 59 ad 3 aE.underlying43 P T (U g.heap) a k _ Y (S.alloc _) ⟨U wr.heap,0,Z⟩ 1 1 [ak A.null,z9 A.n,ay A.s] Y Y (by exact lU _) (lz A) (by omega) ?_;intro ae x O);have G:X (aD g ae):=jy (p.alloc a0 _) O bS aI;rw[L.o] at x;refine⟨⟨a+1,f+1,b++[A],aa,aa,by go_num,by go_num,rfl,H.o,x,G.o⟩,by simp[bB];omega⟩;obtain rfl:a=k:=by omega
  have bP:d.take a=d:=iF<|jC r;have o:=j.lv;have D:=j.th;have an:=j.Bm;rw[bP] at o an;rw[an,<-aU,jq] at D;have Q:I b=a:=by rw[<-r,<-o,er]
  have⟨ba,bb⟩:=SE (k:=M) (e:=qB) (s:=s) (p:=m) (cn:=a) (l:=b) Q j.ok (bV o bH) (bV o a1) (by rw[o,D];exact bK) (by rw[o,D];exact bT);have am:X (m+I (g5 M qB b)=m+I (eV d)+I (jB M qB l)):=by
   show _=_;unfold g5;rw[cJ,o,D,gH]
  go_wp2;go_ret;exact⟨B.o.trans<|Kp.iW p,av ⟨b,_,rfl,Q,j.ok,ba,bb,bV am.o bs,by rw[am.o,cT p n<|by omega];exact bi,bV Q<|j5 S bL⟩⟩
 have J:X (∀c:List aC,I c=k->(∀e∈c,VC M e)->¬aQ (bytesOf s) m (g5 M qB c)):=by
  intro c be aH i;unfold g5 at i;rw[dw] at i;have ao:=a1 (c.map fV) bu (CI c) i.1;rw[ao] at i;exact R (there c) (by rw[HE,ao]) (DJ aH) i.2
 have B:=aA<|al.o.trans N;go_wp2;exact⟨rfl,B.o,ai ⟨z,rfl,J.o⟩⟩;have J:X (∀c:List aC,I c=k->(∀e∈c,VC M e)->¬aQ (bytesOf s) m (g5 M qB c)):=by
  intro c be aH i;unfold g5 at i;rw[dw] at i;exact R (c.map fV) bu (CI c) i.1
 go_wp2;exact⟨rfl,ar,ai ⟨z,rfl,J.o⟩⟩
def o3{t:aP}(h:w.heap[n]? =K (aq #[v] t (0,0))):ap w ⟨n,0,Z⟩=K v/\cE w ⟨n,0,Z⟩=aj:=by
 constructor;simp[ap,h];simp[cE,h]
def Bp(a:F)(h:w.heap[n]? =K (aq #[v] Qd (0,0))):(aY w ⟨n,0,Z⟩ a).heap[n]? =K (aq #[a] Qd (0,0)):=by
 rw[ek w n 0 _ _ _ h];rfl
def RG(b:List py)(a:ag)(f:ap a R=K v)(g:cE a R=aj)
 (d:ap (aY a R aF) qQ=K x) (e:cE (aY a R aF) qQ=aj):
 CallsD (aH ax) 169 #[cU<|K R,cU<|K qQ] (jx<|{v:=.iface Qd y,recovered:=aj}::b) a λc i j=>
  c=aN (cP #[])/\i=jx ({v:=.iface Qd y,recovered:=af}::b)/\j=aY (aY a R aF) qQ (ak aj):=by
 refine callsD_of_wpS aE.func169 Y λl k h=>?_;apply wpS_seq;apply wpS_region;simp[wpOpsS,go_sem,recoverD,h,Tryz.ntmps169,Exit.thenS];refine wpS_cond (t:=af) (by rfl) ?_;simp only[if_true];apply wpS_seq;apply wpS_region;simp[wpOpsS,go_sem,Exit.thenS];apply wpS_region;simp[wpOpsS,go_sem,f,g,d,e,bodyPostS,dB,Tryz.results169]
def RF(e d:aL):
 CallsD (aH ax) 169 #[cU<|K e,cU<|K d] jj w λb f g=>b=aN (cP #[])/\f=jj/\g=w:=by
 refine callsD_of_wpS aE.func169 Y λa h c=>?_;apply wpS_seq;apply wpS_region;simp[wpOpsS,go_sem,recoverD,c,Tryz.ntmps169,Exit.thenS];refine wpS_cond (t:=aj) (by rfl) ?_;simp only[eN,if_false];refine wpS_of_wp<|wp_skip ?_;cases a;simp_all [bodyPostS,dB,Tryz.results169]
def I8(hL:u.heap[U w.heap]? =K (aq #[v] Qd (0,0)))(c:u.heap[U w.heap+1]? =K (aq #[x] Qe (0,0))):
 CallsD (aH ax) 169 #[(aK<|U w.heap),(aK<|U w.heap+1)] (jx<|g4 n) u λb d e=>
  b=aN (cP #[])/\d=jx [{v:=.iface 205<|bZ #[n9 n],recovered:=af}]/\e=aY (aY u ⟨U w.heap,0,Z⟩ aF) ⟨U w.heap+1,0,Z⟩ (ak aj):=by
 have a:(aY u ⟨U w.heap,0,Z⟩ aF).heap[U w.heap+1]? =K (aq #[x] Qe (0,0)):=by
  rw[ei _ _ _ _ aI];exact c
 exact RG [] u (o3 hL).1 (o3 hL).2 (o3 a).1 (o3 a).2
def HS(u1 u2:F)(hL:u.heap[U w.heap]? =K (aq #[v] Qd (0,0)))(e:u.heap[U w.heap+1]? =K (aq #[x] Qe (0,0)))(d:aD w u):
 let a:=(u.setCell ⟨U w.heap,0,Z⟩ u1).setCell ⟨U w.heap+1,0,Z⟩ u2
 (ap a) ⟨U w.heap,0,Z⟩=K u1/\ap a ⟨U w.heap+1,0,Z⟩=K u2/\aD w a:=by
 have b:=Bp u1 hL;have c:(u.setCell ⟨U w.heap,0,Z⟩ u1).heap[U w.heap+1]? =K (aq #[x] Qe (0,0)):=by
  rw[ei _ _ _ _<|by simp];exact e
 refine⟨?_,(o3<|Bp u2 c).1,?_⟩;refine(o3 (t:=Qd) ?_).1;rw[ei _ _ _ _<|by simp];exact b;exact(d.setCell (aZ _) _).setCell (Nat.le_succ _) _
def adA{c1 c2 c3:F}{s:ByteArray}(O:s.size<=aV){z:Nat->List F->Nat->Prop}{N:Prop}
 (al:∀(j:ag) (t:Nat),aD w j->t=U w.heap+1+1->j.heap[t]? =K (bQ s 0)->bc 155 #[(aK t),c1,c2,c3] j λe h=>Kp t j h/\
   ((∃v a g f,e=aN v/\h.heap[t]? =K (bQ s f)/\f<=s.size/\aT h (U j.heap) n k v a g/\z a g f)\/(∃f,e=gO (g4 f)/\N))):
 bc 163 #[ay s,.func (.func 155) #[] #[c1,c2,c3]] w λe h=>aD w h/\
  ((∃v a g,e=aN (cP #[v,ak af])/\aT h (U w.heap) n k v a g/\z a g s.size)\/(e=aN (cP #[aF,ak aj])/\(N\/∃a g f,z a g f/\f<s.size))):=by
 skip
 go_enter_defers aE.func163,Tryz.ntmps163
 go_wp2_with (go_at_call 65;refine(FV s).mono ?_;rintro e h ⟨rfl,rfl⟩);have I:cq (((w.alloc<|aq #[aF] 43).alloc<|aq #[ak aj] 4).alloc<|bQ s 0) (U w.heap) #[aF] 43:=HF _ _ _ _;have H:cq (((w.alloc<|aq #[aF] 43).alloc<|aq #[ak aj] 4).alloc<|bQ s 0) (U w.heap+1) #[ak aj] 4:=HG _ _ _ _;have ae:(((w.alloc<|aq #[aF] 43).alloc<|aq #[ak aj] 4).alloc<|bQ s 0).heap[U w.heap+1+1]? =K (bQ s 0):=HH _ _ _ _;have aC:(((w.alloc<|aq #[aF] 43).alloc<|aq #[ak aj] 4).alloc<|bQ s 0).heap.size=U w.heap+3:=aI;have A:aD w (((w.alloc<|aq #[aF] 43).alloc<|aq #[ak aj] 4).alloc<|bQ s 0):=(((bN _ _).alloc (aZ _) _).alloc aI _).alloc bS _;generalize (((w.alloc<|aq #[aF] 43).alloc<|aq #[ak aj] 4).alloc<|bQ s 0)=S at*;refine(al S (U w.heap+1+1) A Y ae).mono ?_;rintro e d ⟨i,⟨v,a,g,f,rfl,L,aG,y,J⟩|⟨f,rfl,V⟩⟩;have r:cq d (U w.heap) #[aF] 43:=Kp.block i I aa;have q:cq d (U w.heap+1) #[ak aj] 4:=Kp.block i H aa;have B:aD w d:=fN A<|(i.below aa).mono aa;have C:bI v≠K (U w.heap)/\bI v≠K (U w.heap+1):=⟨λe=>by have:=(y.lt _ e).1;omega,λe=>by have:=(y.lt _ e).1;omega⟩;have⟨b,c,am⟩:=tv y;subst am;have R:X (aT d (U w.heap) n k (ah b a c) a g):=j5 y aa;have⟨ar,az⟩:=o3 r;have⟨ao,aw⟩:=o3 q;have G:=aA r;have E:=aA q;have D:=aA B;by_cases M:f<s.size
 .go_wp2_with (go_at_call 93;refine(EX (U w.heap+1+1) f s O M<|by rw[ei _ _ _ _ bS];exact L).mono ?_;rintro e h ⟨rfl,m,rfl⟩);have x:cq (cI (d.setCell ⟨U w.heap,0,Z⟩<|ah b a c) m) (U w.heap) #[ah b a c] 43:=Bp _ G.o;have u:cq (cI (d.setCell ⟨U w.heap,0,Z⟩<|ah b a c) m) (U w.heap+1) #[ak aj] 4:=by
   show(d.setCell ⟨U w.heap,0,Z⟩<|ah b a c).heap[U w.heap+1]? =_;rw[ei _ _ _ _ aI];exact E.o
  have T:=below_drewN (D.o.setCell (p:=⟨U w.heap,0,Z⟩) (aZ _)<|ah b a c) m;generalize cI (d.setCell ⟨U w.heap,0,Z⟩<|ah b a c) m=aH at*;have⟨l,o,p⟩:=HS aF (ak aj) x u T;refine leaves_cons (f:=169) (args:= #[(aK<|U w.heap),(aK<|U w.heap+1)]) aI (by simp[go_sem]) ?_;refine(I8 x u).mono ?_;rintro e P Q ⟨rfl,rfl,rfl⟩;simp[Leaves,settle,dB,Tryz.results163,go_sem,l,o];exact⟨p,ai ⟨a,g,f,J,M⟩⟩
 .obtain rfl:f=s.size:=by omega
  go_wp2_with (go_at_call 93;refine(EY (U w.heap+1+1) s.size s O (by omega)<|by rw[ei _ _ _ _ bS];exact L).mono ?_;rintro e h ⟨rfl,m,rfl⟩);have x:cq (cI (d.setCell ⟨U w.heap,0,Z⟩<|ah b a c) m) (U w.heap) #[ah b a c] 43:=Bp _ G.o;have u:cq (cI (d.setCell ⟨U w.heap,0,Z⟩<|ah b a c) m) (U w.heap+1) #[ak aj] 4:=by
   show(d.setCell ⟨U w.heap,0,Z⟩<|ah b a c).heap[U w.heap+1]? =_;rw[ei _ _ _ _ aI];exact E.o
  have W:aT (cI (d.setCell ⟨U w.heap,0,Z⟩<|ah b a c) m) (U w.heap) n k (ah b a c) a g:=yg (ownsRow_setCell_other R.o C.1 _) m;have ab:aT ((cI (d.setCell ⟨U w.heap,0,Z⟩<|ah b a c) m).setCell ⟨U w.heap,0,Z⟩<|ah b a c) (U w.heap) n k (ah b a c) a g:=ownsRow_setCell_other W C.1 _;have ad:aT (((cI (d.setCell ⟨U w.heap,0,Z⟩<|ah b a c) m).setCell ⟨U w.heap,0,Z⟩<|ah b a c).setCell ⟨U w.heap+1,0,Z⟩<|ak af) (U w.heap) n k (ah b a c) a g:=ownsRow_setCell_other ab C.2 _;have⟨l,o,p⟩:=HS (ah b a c) (ak af) x u<|below_drewN (D.o.setCell (p:=⟨U w.heap,0,Z⟩) (aZ _)<|ah b a c) m;generalize ((cI (d.setCell ⟨U w.heap,0,Z⟩<|ah b a c) m).setCell ⟨U w.heap,0,Z⟩<|ah b a c).setCell ⟨U w.heap+1,0,Z⟩ (ak af)=an at*;refine leaves_cons (f:=169) (args:= #[(aK<|U w.heap),(aK<|U w.heap+1)]) aI (by simp[go_sem]) ?_;refine(RF ⟨U w.heap,0,Z⟩ ⟨U w.heap+1,0,Z⟩).mono ?_;rintro e P Q ⟨rfl,rfl,rfl⟩;simp[Leaves,settle,dB,Tryz.results163,go_sem,l,o];exact⟨p,a,g,ad,J⟩
 have r:cq d (U w.heap) #[aF] 43:=Kp.block i I aa;have q:cq d (U w.heap+1) #[ak aj] 4:=Kp.block i H aa;have B:aD w d:=fN A<|(i.below aa).mono aa;have⟨l,o,p⟩:=HS aF (ak aj) r q B;refine leaves_cons (f:=169) (args:= #[(aK<|U w.heap),(aK<|U w.heap+1)]) aI (by simp[go_sem]) ?_;refine(I8 r q).mono ?_;rintro e P Q ⟨rfl,rfl,rfl⟩;simp[Leaves,settle,dB,Tryz.results163,go_sem,l,o];exact⟨p,av V⟩
def TJ(t:e4 M qB=af){s:ByteArray}(u:s.size<=aV)(r:m<=100)(h:w.heap[n]? =K (bQ s 0))
 (hx:bl w k 0 (z9 M)) (hy:bl w i 0 (z9 qB)) (D:bl w j 0 (z9 m)):
 bc 155 #[(aK n),(aK k),(aK i),(aK j)] w λf d=>Kp n w d/\
  ((∃v l o c,f=aN v/\d.heap[n]? =K (bQ s c)/\c<=s.size/\aT d (U w.heap) 59 3 v l o/\
    (∃a:List aC,l=m/\I a=m/\o=bM a/\c=I (g5 M qB a)/\(∀k∈a,VC M k)/\aQ (bytesOf s) 0 (g5 M qB a)/\∀b:List aC,I b=m->(∀k∈b,VC M k)->aQ (bytesOf s) 0 (g5 M qB b)->b=a))\/
   (∃c,f=gO (g4 c)/\∀b:List aC,I b=m->(∀k∈b,VC M k)->¬aQ (bytesOf s) 0 (g5 M qB b))):=by
 skip
 go_enter aE.func155,Tryz.ntmps155;go_wp2_with fail;refine bG (Zy t u r (cH _) h) ?_;rintro f E ⟨e,⟨a,v,rfl,g,y,A,B,C,q,z⟩|⟨c,rfl,x⟩⟩;have p:=aA e;go_wp2;go_ret;refine⟨p.o,av ⟨v,m,bM a,I<|g5 M qB a,rfl,cN q,aa,by rw[<-g];exact z,a,rfl,g,rfl,rfl,y,A,B⟩⟩
 skip
 go_wp2;exact⟨rfl,e,ai ⟨c,rfl,x⟩⟩
def ZI{c1 c2 c3:F}{s:ByteArray}(p:s.size<=aV){h:Nat->List F->Nat->Prop}{N:Prop}
 (o:∀(f:ag) (g:Nat),aD w f->g=U w.heap+1+1->f.heap[g]? =K (bQ s 0)->bc 155 #[(aK g),c1,c2,c3] f λd e=>Kp g f e/\
   ((∃v a b c,d=aN v/\e.heap[g]? =K (bQ s c)/\c<=s.size/\aT e (U f.heap) n m v a b/\h a b c)\/(∃c,d=gO (g4 c)/\N))):
 bc 154 #[ay s,.func (.func 155) #[] #[c1,c2,c3]] w λd e=>aD w e/\
  ((∃v a b,d=aN (cP #[v,z9 0])/\aT e (U w.heap) n m v a b/\h a b s.size)\/(d=aN (cP #[aF,z9 3])/\(N\/∃a b c,h a b c/\c<s.size))):=by
 skip
 go_enter aE.func154,Tryz.ntmps154;go_wp2_with fail;refine bG (adA p o) ?_;rintro d r ⟨i,⟨v,a,b,rfl,q,l⟩|⟨rfl,k⟩⟩;have j:=aA i;go_wp2;go_ret2;exact⟨j.o,av ⟨v,a,b,rfl,q,l⟩⟩
 skip
 skip
 go_wp2;go_ret2;exact⟨i,ai ⟨rfl,k⟩⟩
structure uH(s:ByteArray)(k e:Int)(cn:Nat)(l:List aC):Prop where
 len:I l=cn
 ok:∀x∈l,VC k x
 eq:g5 k e l=bytesOf s
 mo:∀L:List aC,I L=cn->(∀x∈L,VC k x)->aQ (bytesOf s) 0 (g5 k e L)->L=l
def p8 (s:ByteArray)(b d:Int)(c:Nat):Prop:=∀a:List aC,I a=c->(∀e∈a,VC b e)->g5 b d a≠bytesOf s
def Ss(a c b:Int):j0 a c b≠0\/(j0 a c b=0/\e4 c b=af/\∃d:Nat,a=(d:Int)/\d<=100):=by
 unfold j0;by_cases e:a<0\/100<a
 left;rw[if_pos e];omega
 rw[if_neg e];cases f:e4 c b with
 |false=>left;simp
 |true=>right;exact⟨aI,rfl,bO a,aa,aa⟩
def Ri(a:ag)(b c d:cz):(cG (cG (cG a b) c) d).heap.size=U a.heap+3:=aI
def Ez(s:ByteArray)(b a e:Int)(c:ag)(B:s.size<=aV):
 bc 139 #[ay s,z9 b,z9 a,z9 e] c λf j=>aD c j/\
  ((j0 e b a≠0/\f=aN (cP #[aF,z9<|j0 e b a]))\/
   (∃d:Nat,e=(d:Int)/\d<=100/\j0 e b a=0/\e4 b a=af/\((∃v g,f=aN (cP #[v,z9 0])/\aT j (U c.heap) 59 3 v (I g) (bM g)/\uH s b a d g)\/(f=aN (cP #[aF,z9 3])/\p8 s b a d)))):=by
 have o:aD c (((c.alloc<|aq #[z9 b] 3).alloc<|aq #[z9 a] 3).alloc<|aq #[z9 e] 3):=(((bN _ _).alloc (aZ _) _).alloc aI _).alloc bS _;have k:=R3 e b a
 skip
 rcases Ss e b a with N|⟨n,r,d,rfl,q⟩
 .generalize j0 e b a=E at*;go_enter aE.func139,Tryz.ntmps139;go_wp2_with (go_at_call 123;refine(k _).mono ?_;rintro F j ⟨rfl,rfl⟩);go_ret2;exact⟨o,av ⟨N,rfl⟩⟩
 .rw[n] at k;have H:=(o3<|HF c (aq #[z9 b] 3 (0,0)) (aq #[z9 a] 3 (0,0))<|aq #[n9 d] 3 (0,0)).1;have J:=(o3<|HG c (aq #[z9 b] 3 (0,0)) (aq #[z9 a] 3 (0,0))<|aq #[n9 d] 3 (0,0)).1;have K:=(o3<|HH c (aq #[z9 b] 3 (0,0)) (aq #[z9 a] 3 (0,0))<|aq #[n9 d] 3 (0,0)).1;have P:=Ri c (aq #[z9 b] 3) (aq #[z9 a] 3)<|aq #[n9 d] 3;have R:=aA P;go_enter aE.func139,Tryz.ntmps139;go_wp2_with (go_at_call 123;refine(k _).mono ?_;rintro F j ⟨rfl,rfl⟩);generalize (((c.alloc<|aq #[z9 b] 3).alloc<|aq #[z9 a] 3).alloc<|aq #[n9 d] 3)=S at*;refine(ZI B
   (λT F h Y M=>TJ r B q M ((bA h (p:=⟨U c.heap,0,Z⟩) bu).trans H) ((bA h (p:=⟨U c.heap+1,0,Z⟩) bu).trans J)<|(bA h (p:=⟨U c.heap+1+1,0,Z⟩) bu).trans K)).mono ?_
  rintro f y ⟨h,⟨v,x,Q,rfl,O,g,rfl,u,rfl,C,i,D,w⟩|⟨rfl,p⟩⟩;have l:X (aD c y):=o.trans<|h.mono aa;have G:X (aT y (U c.heap) 59 3 v (I g)<|bM g):=by rw[u];exact j5 O aa
  have m:X (uH s b a x g):=⟨u,i,ab9 D<|by rw[cM];omega,w⟩;go_wp2;go_ret2;exact⟨l.o,ai ⟨x,rfl,q,n,r,av ⟨v,g,rfl,G.o,m.o⟩⟩⟩;have l:X (aD c y):=o.trans<|h.mono aa;have m:X (p8 s b a d):=by
   intro z A i t;rcases p with p|⟨x,Q,ab,⟨g,rfl,u,rfl,C,W,D,w⟩,V⟩;exact p z A i<|uy t;have L:=w z A i<|uy t;subst L;rw[t,cM] at C;omega
  go_wp2;go_ret2;exact⟨l.o,ai ⟨d,rfl,q,n,r,ai ⟨rfl,m.o⟩⟩⟩
def uD:∀a∈bh n,a<256:=ads n
def MU{f:Nat}(c:List Int):∀b∈lT f c,b<256:=by
 induction f generalizing c with
 |zero=>simp[lT]
 |succ f e=>
  cases c with
  |nil=>simp[lT]
  |cons h g=>
   intro b d;simp only[lT] at d;rcases eP.1 d with a|a;exact uD b a;rcases eP.1 a with a|a;simp at a;rw[a];exact Ey;exact e _ b a
def Gk{v:aC}:∀b∈dc M v,b<256:=by
 intro b a;unfold dc at a
 split at a
 exact uD b a
 split at a
 simp at a;rw[a];exact Ey;rcases eP.1 a with c|c;exact uD b c;exact xJ _ b c
def LS{d:List aC}:∀a∈dQ M d,a<256:=by
 intro a b;unfold dQ at b;have⟨v,_,c⟩:=xy.1 b;exact Gk a c
def TK(c:Int){e:List aC}:∀a∈fG c e,a<256:=by
 induction e generalizing c with
 |nil=>simp[fG]
 |cons h g f=>
  intro a d;simp only[fG] at d;rcases eP.1 d with b|b;exact uD a b;exact f _ a b
def SD(e d:Int)(f:List aC):∀b∈g5 e d f,b<256:=by
 intro b c;unfold g5 at c;rcases eP.1 c with a|a;exact MU _ b a;unfold jB at a
 split at a
 exact TK _ b a
 split at a
 unfold gq at a;rcases eP.1 a with a|a;exact uD b a;rcases eP.1 a with a|a;exact LS b a;exact LN b a
 split at a
 exact MU _ b a;exact LS b a
def N8(b a:Int)(c:0<=b)(d:0<a):0<=b.tmod a/\b.tmod a<a:=by
 rw[Int.tmod_eq_emod_of_nonneg c];exact⟨Int.emod_nonneg _ aa,Int.emod_lt_of_pos _ d⟩
def tmod_neg(b a:Int)(d:b<=0)(c:0<a):0<= -(b.tmod a)/\ -(b.tmod a)<a:=by
 have:=N8 (-b) a (by omega) c;rwa [Int.neg_tmod] at this
def I9{a b:List bx}:k4 (a++b)=k4 a++k4 b:=by simp[k4]
def Ca(b:List bx)(a:Nat)(h:a<I b):(k4 b)[a*2]? =K (ay b[a].name)/\(k4 b)[a*2+1]? =K (aJ aM b[a].kind):=
 ⟨pM _ 2 (λ_=>rfl) b a h 0 _ Y,pM _ 2 (λ_=>rfl) b a h 1 _ Y⟩
def aE.Kj:((aH ax).info? 63).map (λa=>(jH a,a.size,jm a))=K (K<|bZ #[ay ⟨#[]⟩,z9 0],2,24):=aR
def aE.Ki:((aH ax).info? 43).map (λa=>(jH a,a.size,jm a))=K (K aF,1,24):=aR
def Xp:Array F:= #[z9 0,ak aj,ak aj,z9 0,ay ⟨#[]⟩,ak aj,z9 0,ay ⟨#[]⟩,ay ⟨#[]⟩]
def rb (s:ByteArray)(b:Nat)(a:Bool):cz:=aq #[ay s,n9 b,ak a] 157 (0,0)
def nY{s:ByteArray}(h:w.heap[n]? =K (rb s m qW)):
 ap w ⟨n,0,Z⟩=K (ay s)/\ap w ⟨n,1,Z⟩=K (aJ aM (m:Int))/\ap w ⟨n,2,Z⟩=K (ak qW)/\cE w ⟨n,0,Z⟩=aj/\cE w ⟨n,1,Z⟩=aj/\cE w ⟨n,2,Z⟩=aj:=by
 unfold rb at h;refine⟨?_,?_,?_,?_,?_,?_⟩<;>first|simp[ap,h]|simp[cE,h]
def Zm{s:ByteArray}(h:w.heap[n]? =K (rb s m qW)):(cI (aY w ⟨n,1,Z⟩<|n9 q) k).heap[n]? =K (rb s q qW):=by
 show(aY w ⟨n,1,Z⟩<|n9 q).heap[n]? =_;unfold rb at*;rw[ek w n 1 _ _ _ h];rfl
def L6{s:ByteArray}(h:w.heap[n]? =K (rb s m qW)):(cI (aY w ⟨n,2,Z⟩<|ak af) k).heap[n]? =K (rb s m af):=by
 show(aY w ⟨n,2,Z⟩<|ak af).heap[n]? =_;unfold rb at*;rw[ek w n 2 _ _ _ h];rfl
def wR{s:ByteArray}(h:w.heap[n]? =K (rb s m qW)):(aY w ⟨n,2,Z⟩<|ak af).heap[n]? =K (rb s m af):=by
 unfold rb at*;rw[ek w n 2 _ _ _ h];rfl
def Aq:aY (cI w m) R v=cI (aY w R v) m:=by unfold aY;rfl
def _root_.Go.Proofs.YtjidbonhhpkljaaGreat.Pk.Kp.tE(h:Kp n w u):Kp n w (aY u ⟨n,m,Z⟩ v):=h.set m v 0
def Ds(c b:Nat)(a:Int)(f:Bool)(s:ByteArray)(d:ag)(k:bg s<=aV)(u: -9223372036854775808<=a)(v:a<=9223372036854775807)(w:b<=bg s)(r:a<0\/(bg s:Int)-(b:Int)<a)(h:d.heap[c]? =K (rb s b f)):
 bc 100 #[(aK c),z9 a] d λg e=>Kp c d e/\g=aN (ay ⟨#[]⟩)/\e.heap[c]? =K (rb s b af):=by
 have⟨l,m,n,o,p,q⟩:=nY h;unfold aV at k
 skip
 by_cases i:a<0
 .have j:decide (a<0)=af:=by simpa using i
  go_enter aE.func100,Tryz.ntmps100;go_wp2_with fail;go_quiet (fail);go_wp2;go_ret;exact⟨by rw[Aq];exact(Kp.refl _ _).set _ _ _,rfl,by rw[Aq];exact L6 h⟩
 .have t:decide (a<0)=aj:=by simp;omega
  have j:decide ((bg s:Int)-(b:Int)<a)=af:=bS;go_enter aE.func100,Tryz.ntmps100;go_wp2_with fail;go_quiet (fail);go_wp2;go_ret;exact⟨by rw[Aq];exact(Kp.refl _ _).set _ _ _,rfl,by rw[Aq];exact L6 h⟩
def Dt(c a b:Nat)(e:Bool)(s:ByteArray)(d:ag)(i:bg s<=aV)(t:a+b<=bg s)(h:d.heap[c]? =K (rb s a e)):
 bc 100 #[(aK c),n9 b] d λg f=>Kp c d f/\g=aN (ay<|fw s a<|a+b)/\f.heap[c]? =K (rb s (a+b) e):=by
 have⟨j,k,l,n,o,p⟩:=nY h;unfold aV at i
 skip
 have r:decide ((b:Int)<0)=aj:=aI;have q:decide ((bg s:Int)-(a:Int)<(b:Int))=aj:=bS;have u:(a:Int)+(b:Int)<=(bg s:Int):=aa;have v:(a:Int)<=(a:Int)+(b:Int):=aa;go_enter aE.func100,Tryz.ntmps100;go_wp2_with fail;go_quiet (fail);generalize nq=m at*;go_wp2_with fail;go_quiet (fail);go_wp2;go_ret;refine⟨?_,rfl,?_⟩;rw[Aq];exact(Kp.refl _ _).set _ _ _
 .rw[Aq];exact Zm (q:=a+b) h
def Zt{s:ByteArray}(g:bg s<=aV)(i:m<bg s)(h:w.heap[n]? =K (rb s m qW)):
 bc 101 #[(aK n)] w λb a=>Kp n w a/\b=aN (n9<|s[m].toNat)/\a.heap[n]? =K (rb s (m+1) qW):=by
 have d:X (∀w,w.heap[n]? =K (rb s m qW)->bc 100 #[(aK n),z9 1] w λb a=>Kp n w a/\b=aN (ay ⟨#[s[m]]⟩)/\a.heap[n]? =K (rb s (m+1) qW)):=λw h=>by
  have:=Dt n m 1 qW s w g aa h;rwa [JL i] at this
 skip
 have j:cY (s[m].toNat:Int)=(s[m].toNat:Int):=by have:=s[m].toNat_lt;unfold cY;omega
 generalize s[m]=c at*;go_enter aE.func101,Tryz.ntmps101;go_wp2_with fail;refine bG (d.o _ h) ?_;rintro b l ⟨e,rfl,f⟩
 skip
 have k:(jE ⟨#[c]⟩==([]:List UInt8))=aj:=by
  rw[uM];rfl
 go_wp2;go_ret;exact⟨e,by show aN (aJ aM<|cY (c.toNat:Int))=_;rw[j],f⟩
def Zs{s:ByteArray}(e:bg s<=aV)(f:m<=bg s)(g:¬m<bg s)(h:w.heap[n]? =K (rb s m qW)):
 bc 101 #[(aK n)] w λa b=>Kp n w b/\a=aN (z9 0)/\b.heap[n]? =K (rb s m af):=by
 skip
 go_enter aE.func101,Tryz.ntmps101;go_wp2_with fail;refine bG (Ds n m 1 qW s _ e aa aa f (ai aa) h) ?_;rintro a i ⟨c,rfl,d⟩
 skip
 go_wp2;go_ret;exact⟨c,rfl,d⟩
def C4(c a:Nat)(f:Bool)(s:ByteArray)(m:bg s<=aV)(n:a<=bg s)(h:w.heap[c]? =K (rb s a f)):
 bc 101 #[(aK c)] w λi d=>Kp c w d/\∃(g l:Nat) (e:Bool),i=aN (n9 g)/\g<256/\l<=bg s/\d.heap[c]? =K (rb s l e)/\(a<bg s->(bytesOf s)[a]? =K g/\l=a+1/\e=f)/\(¬a<bg s->e=af):=by
 by_cases b:a<bg s
 .refine bG (Zt m b h) ?_;rintro i d ⟨j,rfl,k⟩;exact⟨j,s[a].toNat,a+1,f,rfl,s[a].toNat_lt,aa,k,λ_=>⟨by rw[dV<|by rw[cM];exact b,B9 s b],rfl,rfl⟩,λh=>absurd b h⟩
 .refine bG (Zs m n b h) ?_;rintro i d ⟨j,rfl,k⟩;exact⟨j,0,a,af,rfl,aa,n,k,λh=>absurd h b,λ_=>rfl⟩
def Pz(c b a:Nat):∃d:Nat,lW.wrap ((c:Int)+lW.wrap ((b:Int)*(a:Int)))=(d:Int)/\d<18446744073709551616/\(c+b*a<18446744073709551616->d=c+b*a):=by
 refine⟨(c+b*a)%18446744073709551616,?_,Nat.mod_lt _ aa,λe=>s7 e⟩;rw[wrap_u64,wrap_u64];have:(b:Int)*(a:Int)=((b*a:Nat):Int):=by push_cast;rfl
 rw[this];omega
def G4(n k:Nat)(l:Bool)(s:ByteArray)(aC:bg s<=aV)(aF:k<=bg s)(h:w.heap[n]? =K (rb s k l)):
 bc 108 #[(aK n)] w λL Z=>Kp n w Z/\∃(v c:Nat) (f:Bool),L=aN (aJ .u64 (v:Int))/\v<18446744073709551616/\c<=bg s/\Z.heap[n]? =K (rb s c f)/\
  (∀b,b<18446744073709551616->aQ (bytesOf s) k (bh b)->v=b/\c=k+I (bh b)/\f=l)/\(l=af->f=af):=by
 have ab:=aA h;go_enter aE.func108,Tryz.ntmps108;go_wp2_with fail
 go_loopw [3,4,5] (λaR aU E wr=>∃(a o e c:Nat) (f:Bool),a<=10/\E=n9 a/\aR=aJ .u64 (o:Int)/\o<18446744073709551616/\aU=aJ .u64 (e:Int)/\e<18446744073709551616/\(a<=9->e=128^a)/\c<=bg s/\wr.heap[n]? =K (rb s c f)/\Kp n w wr/\(l=af->f=af)/\
  ((∃b,b<18446744073709551616/\aQ (bytesOf s) k (bh b))->lJ (bytesOf s) k a o/\c=k+a/\f=l)) (λ_ _ E _=>10-bO (bB E))
 exact⟨0,0,1,k,l,aa,rfl,rfl,aa,rfl,aa,λ_=>aI,aF,ab.o,Kp.refl _ _,id,λ_=>⟨lJ.zero _ _,rfl,rfl⟩⟩;obtain⟨a,o,e,c,f,a9,rfl,rfl,a8,rfl,a7,A,U,z,P,aG,y⟩:=hrel
 skip
 skip
 by_cases bb:a<10
 .go_wp2_with fail;refine bG (C4 n c f s aC U z) ?_;rintro L bd ⟨al,d,Y,x,rfl,ar,W,Q,C,aD⟩;have F:=aA<|P.trans al;have H:X (l=af->x=af):=λh=>by
   rcases jc c (bg s) with m|m;rw[(C m).2.2];exact aG h;exact aD aa
  have⟨J,B,R,S⟩:=Pz o (d%128) e
  skip
  rw[show((d%128:Nat):Int)=(d:Int)%128 from aa] at B;obtain⟨V,am,an,ao⟩:∃V:Nat,lW.wrap ((e:Int)*128)=(V:Int)/\V<18446744073709551616/\(e*128<18446744073709551616->V=e*128):=
   ⟨e*128%18446744073709551616,by rw[wrap_u64];omega,Nat.mod_lt _ aa,λh=>s7 h⟩
  skip
  by_cases aw:128<=d;go_wp2_with fail;refine⟨⟨a+1,J,V,Y,x,aa,by go_num,by first|rfl|rw[B],R,by first|rfl|rw[am],an,?_,W,Q,F.o,H.o,?_⟩,by simp[bB];omega⟩;intro a6;have m:=A aa;have N:(128:Nat)^(a+1)<=128^9:=om aa aa;have ae:(128:Nat)^9=9223372036854775808:=az;rw[rA] at N ⊢;rw[ao<|jC m,m];intro T;have⟨j,r,t⟩:=y T;have⟨b,i,g⟩:=T;have D:c<bg s:=by
   rcases jc c (bg s) with h|h;exact h;exact absurd g<|j.none aa (by rw[cM];omega) b i
  have⟨q,aH,G⟩:=C D;rw[r] at q;have u:=j.more aa q aw ar;have ba:a<=8:=by
   rcases jc a 9 with h|h;omega;have:a+1=10:=aa;rw[this] at u;exact absurd g<|u.HC b i
  have m:=A aa;have N:=u.lt;have ae:(128:Nat)^(a+1)<=128^9:=om aa aa;have p:d%128*e=128^a*(d-128):=by rw[m,uV,show d%128=d-128 by omega]
  rw[S<|jC p,p];exact⟨u,aa,by rw[G,t]⟩;go_wp2_with fail;go_ret;refine⟨F.o,J,Y,x,by first|rfl|rw[<-B];rfl,R,W,Q,?_,H.o⟩;intro b i g;have⟨j,r,t⟩:=y ⟨b,i,g⟩;have D:c<bg s:=by
   rcases jc c (bg s) with h|h;exact h;exact absurd g<|j.none aa (by rw[cM];omega) b i
  have⟨q,aH,G⟩:=C D;rw[r] at q;have⟨M,ad⟩:=(j.fin aa q aa b i).1 g;have p:d%128*e=128^a*d:=by rw[(A aa),uV,show d%128=d by omega]
  have O:=j.JV (c:=d) aa aa ad;rw[<-M] at O;exact⟨by rw[S<|jC p,p,M],jC O,by rw[G,t]⟩
 obtain rfl:a=10:=aa;have⟨a0,a1,a2,a3,a4,a5⟩:=nY z;go_wp2;go_ret;refine⟨P.tE,0,c,af,rfl,aa,U,wR z,?_,λ_=>rfl⟩;intro b i g;have⟨j,r,t⟩:=y ⟨b,i,g⟩;exact absurd g<|j.HC b i
def Y_(c a:Nat)(f:Bool)(s:ByteArray)(g:ag)(q:bg s<=aV)(r:a<=bg s)(h:g.heap[c]? =K (rb s a f)):
 bc 108 #[(aK c)] g λj i=>Kp c g i/\∃(v b:Nat) (d:Bool),j=aN (aJ .u64 (v:Int))/\v<18446744073709551616/\b<=bg s/\i.heap[c]? =K (rb s b d)/\
  (∀e,e<18446744073709551616->aQ (bytesOf s) a (bh e)->v=e/\b=a+I (bh e)/\d=f):=
 bG (G4 c a f s q r h) (by
  rintro j i ⟨k,v,b,d,l,m,n,o,p,-⟩;exact⟨k,v,b,d,l,m,n,o,p⟩)
def yz(f e a:Nat)(g:Bool)(s:ByteArray)(F:a<=100000)(u:bg s<=aV)(x:e<=bg s)(h:w.heap[f]? =K (rb s e g)):
 bc 99 #[(aK f),n9 a] w λk q=>Kp f w q/\∃(v c:Nat) (d:Bool),k=aN (n9 v)/\v<=a/\c<=bg s/\q.heap[f]? =K (rb s c d)/\
  (∀b,b<=a->aQ (bytesOf s) e (bh b)->v=b/\c=e+I (bh b)/\d=g)/\(g=af->d=af):=by
 skip
 go_enter aE.func99,Tryz.ntmps99;go_wp2_with fail;refine bG (G4 f e g s u x h) ?_;rintro k M ⟨l,v,c,d,rfl,J,o,m,p,y⟩
 skip
 have j:=aA m;have⟨B,C,D,E,G,H⟩:=nY m;have L:lW.wrap (a:Int)=(a:Int):=by rw[wrap_u64];omega
 by_cases n:a<v;have t:decide ((a:Int)<(v:Int))=af:=bS;have r:=aA n;go_wp2;go_ret;refine⟨l.tE,0,c,af,rfl,aa,o,wR j.o,?_,λ_=>rfl⟩;intro b A i;have:=(p b aa i).1;have:=r.o;omega;have t:decide ((a:Int)<(v:Int))=aj:=bS;have z:cY (v:Int)=(v:Int):=by unfold cY;omega
 skip
 go_wp2;go_ret;exact⟨l,v,c,d,by first|rfl|(rw[<-z];rfl),cA n,o,j.o,λb A i=>p b aa i,y⟩
def Mu(d b a:Nat)(g:Bool)(s:ByteArray)(q:a<=100000)(r:bg s<=aV)(t:b<=bg s)(h:w.heap[d]? =K (rb s b g)):
 bc 99 #[(aK d),n9 a] w λj i=>Kp d w i/\∃(v c:Nat) (e:Bool),j=aN (n9 v)/\v<=a/\c<=bg s/\i.heap[d]? =K (rb s c e)/\
  (∀f,f<=a->aQ (bytesOf s) b (bh f)->v=f/\c=b+I (bh f)/\e=g):=
 bG (yz d b a g s q r t h) (by
  rintro j i ⟨k,v,c,e,l,m,n,o,p,-⟩;exact⟨k,v,c,e,l,m,n,o,p⟩)
def On(a:Nat)(f:ag)(d:a<18446744073709551616):bc 109 #[aJ .u64 (a:Int)] f λg k=>k=f/\g=aN (aJ aM<|uz a):=by
 have l:=aA d;have i:cY ((a:Int)/2)=(a:Int)/2:=by unfold cY;omega
 have n:lW.wrap ((a:Int)/2)=(a:Int)/2:=by rw[wrap_u64];omega
 by_cases b:a%2=1
 .have h:((a:Int)%2==1)=af:=by simp;omega
  have m:cY (-((a:Int)/2))= -((a:Int)/2):=by unfold cY;omega
  have j:cY (-((a:Int)/2)-1)= -((a:Int)/2)-1:=by unfold cY;omega
  have c:X (uz a= -((a:Int)/2)-1):=by show _=_;unfold uz;rw[if_pos b];omega
  clear d b;go_enter aE.func109,Tryz.ntmps109;go_wp2;go_ret;exact⟨rfl,by rw[c.o];exact congrArg (λe=>aN<|aJ aM e) j⟩
 .have h:((a:Int)%2==1)=aj:=by simp;omega
  have c:X (uz a=(a:Int)/2):=by show _=_;unfold uz;rw[if_neg b];omega
  clear d b;go_enter aE.func109,Tryz.ntmps109;go_wp2;go_ret;exact⟨rfl,by rw[c.o];exact congrArg (λe=>aN<|aJ aM e) i⟩
structure VR(v:aC):Prop where
 there:v.null=aj
 BM:BY v
 sz:bg v.s<=32
def zi (s:ByteArray)(d:Nat)(e:ag)(c:Nat->Bool->Prop):Prop:=∃a b,a<=bg s/\e.heap[d]? =K (rb s a b)/\c a b
def GX(u:Int)(ba:u=1\/u=2\/u=3)(b e:Nat)(n:Bool)(s:ByteArray)(F:s.size<=aV)(P:e<=s.size)(h:w.heap[b]? =K (rb s e n)):
 bc 104 #[(aK b),z9 u] w λg m=>Kp b w m/\∃v:aC,g=aN (bZ<|eC v)/\VR v/\
  zi s b m (λd f=>(∀a,VK u a->aQ (bytesOf s) e (dc u a)->v=a/\d=e+I (dc u a)/\f=n)/\(n=af->f=af)):=by
 have bj:=bE h;have R:X ((w.alloc<|aq #[ak aj,z9 0,ay ⟨#[]⟩] 59).heap[b]? =K (rb s e n)):=by
  show _=_;rw[fM _ _ b bj];exact h
 have Q:X (Kp b w<|w.alloc<|aq #[ak aj,z9 0,ay ⟨#[]⟩] 59):=(Kp.refl b w).alloc _;rcases ba with rfl|rfl|rfl
 .go_enter aE.func104,Tryz.ntmps104;go_wp2_with fail;refine bG (G4 b e n s F P R.o) ?_;rintro g o ⟨p,c,d,f,rfl,ab,t,z,ae,ad⟩;have T:=aA ad;have E:=aA<|Q.o.trans p;have l:cq o (U w.heap) #[ak aj,z9 0,ay ⟨#[]⟩] 59:=Kp.block p (lF w _) aa;have⟨ao,ar,aw,aD,aF,aG⟩:=sj l;have D:=aA l;have S:=aA z;have a3:=aA ab;have a6:=aA ae;have a7:X (∀w,bc 109 #[aJ .u64 (c:Int)] w λg m=>m=w/\g=aN (z9<|uz c)):=λw=>On c w ab;go_wp2_with (go_at_call 109;refine bG (a7.o _) ?_;rintro g m ⟨bo,rfl⟩;rw[bo]);have⟨G,H,J,L,M⟩:=zB (ak aj) (z9<|uz c) (ay ⟨#[]⟩) D.o b aa E.o<|aZ _;simp[jI,dB,Tryz.results104,go_sem,G,H,J];have aU:=Oq c a3.o;refine⟨M,⟨aj,uz c,⟨#[]⟩⟩,⟨rfl,rfl,rfl⟩,⟨rfl,⟨aU.1,aU.2⟩,by show(⟨#[]⟩:ByteArray).size<=32;decide⟩,d,f,t,by rw[L];exact S.o,?_,T.o⟩;intro a i B;have⟨O,r,V⟩:=a6.o (zz a.n) (vJ i.lo i.hi) B;refine⟨?_,r,V⟩;have j:=i.there;have k:=i.s1 Y;rw[O,Ax];cases a;simp at j k;simp[j,k]
 .go_enter aE.func104,Tryz.ntmps104;go_wp2_with fail;refine bG (C4 b e n s F P R.o) ?_;rintro g o ⟨p,N,d,f,rfl,aI,t,z,A,bd⟩;have E:=aA<|Q.o.trans p;have l:cq o (U w.heap) #[ak aj,z9 0,ay ⟨#[]⟩] 59:=Kp.block p (lF w _) aa;have⟨ao,ar,aw,aD,aF,aG⟩:=sj l;have D:=aA l;have S:=aA z;have a1:=aA A;have a0:=aA aI;have T:X (n=af->f=af):=λh=>by
   rcases jc e s.size with j|j;rw[(A j).2.2];exact h;exact bd aa
  go_wp2;have⟨G,H,J,L,M⟩:=zB (ak aj) (n9 N) (ay ⟨#[]⟩) D.o b aa E.o<|aZ _;simp[jI,dB,Tryz.results104,go_sem,G,H,J];have aI:=a0.o;refine⟨M,⟨aj,(N:Int),⟨#[]⟩⟩,⟨rfl,rfl,rfl⟩,⟨rfl,⟨by show _<=(N:Int);omega,by show(N:Int)<=_;omega⟩,by show(⟨#[]⟩:ByteArray).size<=32;decide⟩,d,f,t,by rw[L];exact S.o,?_,T.o⟩;intro a i B;have be:e<s.size:=by
   have:=o9 B (by rw[cM];exact P);rw[cM] at this;have k:I (dc 2 a)=1:=rfl;omega
  have⟨al,am,an⟩:=a1.o be;have q:aQ (bytesOf s) e [byteOf a.n]:=B;rw[mR,al,xH (i.s2 Y).1] at q;simp at q;have j:=i.there;have k:=(i.s2 Y).2;have a8:=(i.s2 Y).1;refine⟨?_,am,an⟩;cases a;simp at j k a8 q;simp[j,k];omega
 .go_enter aE.func104,Tryz.ntmps104;go_wp2_with fail;refine bG (yz b e 32 n s (by omega) F P R.o) ?_;rintro g o ⟨p,c,d,f,rfl,ab,t,z,ae,ad⟩
  skip
  have E:=aA<|Q.o.trans p;have l:cq o (U w.heap) #[ak aj,z9 0,ay ⟨#[]⟩] 59:=Kp.block p (lF w _) aa;have D:=aA l;have a5:X (bc 100 #[(aK b),n9 c] o λg m=>Kp b o m/\∃(x:ByteArray) (C:Nat) (y:Bool),g=aN (ay x)/\x.size<=32/\C<=s.size/\m.heap[b]? =K (rb s C y)/\(d+c<=s.size->x=fw s d (d+c)/\C=d+c/\y=f)/\(f=af->y=af)):=by
   by_cases A:d+c<=s.size;refine bG (Dt b d c f s o F A z) ?_;rintro g m ⟨W,rfl,Z⟩;exact⟨W,_,d+c,f,rfl,by rw[tN];omega,A,Z,λ_=>⟨rfl,rfl,rfl⟩,id⟩;refine bG (Ds b d (c:Int) f s o F aa aa t (ai aa) z) ?_;rintro g m ⟨W,rfl,Z⟩;exact⟨W,_,d,af,rfl,az,t,Z,λh=>absurd h A,λ_=>rfl⟩
  go_wp2_with fail;refine bG a5.o ?_;rintro g br ⟨aH,x,C,y,rfl,bl,bi,a9,bb,bk⟩;have a4:X (n=af->y=af):=λh=>bk<|ad h;have a2:=aA<|E.o.trans aH;have l:=Kp.block aH D.o aa;have⟨ao,ar,aw,aD,aF,aG⟩:=sj l;go_wp2;have⟨G,H,J,L,M⟩:=zB (ak aj) (z9 0) (ay x) l b aa a2.o<|aZ _;simp[jI,dB,Tryz.results104,go_sem,G,H,J];refine⟨M,⟨aj,0,x⟩,⟨rfl,rfl,rfl⟩,⟨rfl,⟨by show _<=(0:Int);omega,by show(0:Int)<=_;omega⟩,bl⟩,C,y,bi,by rw[L];exact a9,?_,a4.o⟩;intro a i B;have j:=i.there;have k:=i.s3 Y;have q:aQ (bytesOf s) e (bh a.s.size++bytesOf a.s):=B;rw[dw] at q;have⟨O,r,V⟩:=ae a.s.size k.2 q.1;have aR:=o9 q.2 (by rw[cM,<-r];exact t);rw[cM,cM,<-r,<-O] at aR;have⟨al,am,an⟩:=bb aR;have bm:x=a.s:=by
   apply xI;rw[al,nu,show d+c-d=c by omega,r];refine uA (B:=bytesOf s) (p:=e+I (bh a.s.size)) (List.take_prefix _ _) q.2 ?_;rw[ng,uT,cM,cM,<-r];omega
  refine⟨?_,?_,by rw[an,V]⟩;rw[bm];cases a;simp at j k;simp[j,k.1];show C=e+I (bh a.s.size++bytesOf a.s);rw[cJ,cM,am,r,O,gH]
def Mw(a:Int)(r:a=1\/a=2\/a=3)(c b:Nat)(f:Bool)(s:ByteArray)(i:ag)(t:bg s<=aV)(u:b<=bg s)(h:i.heap[c]? =K (rb s b f)):
 bc 104 #[(aK c),z9 a] i λk j=>Kp c i j/\∃v:aC,k=aN (bZ<|eC v)/\VR v/\
  zi s c j (λg e=>∀d,VK a d->aQ (bytesOf s) b (dc a d)->v=d/\g=b+I (dc a d)/\e=f):=
 bG (GX a r c b f s t u h) (by
  rintro k j ⟨l,v,m,n,g,e,o,p,q,-⟩;exact⟨l,v,m,n,g,e,o,p,q⟩)
def Bz (d a:Nat)(b:F)(e:ag):Nat:=match (ap e) ⟨d,2,Z⟩ with
 |some (ak af)=>0
 |_=>match b with
  |ah _ c _=>a+1-c
  |_=>0
def G2{s:ByteArray}(h:w.heap[n]? =K (rb s m af)):Bz n k v w=0:=by
 unfold Bz;rw[(nY h).2.2.1]
def BA{s:ByteArray}(h:w.heap[n]? =K (rb s m aj)):Bz n k (ah O i j) w=k+1-i:=by
 unfold Bz;rw[(nY h).2.2.1]
def MJ(s:ByteArray)(c o l:Nat)(i:ag)(bu:s.size<=aV)(cl:l<=100)(cr:o<=s.size)(h:i.heap[c]? =K (rb s o aj)):
 bc 73 #[(aK c),z9 l] i λD a5=>Kp c i a5/\∃(a:List Int) (v:F),D=aN v/\I a<=200/\(∀g∈a,0<=g/\g<256)/\aT a5 (U i.heap) 3 1 v (I a) (cO a)/\
  zi s c a5 (λq t=>(t=aj->I a=l/\iY a)/\∀b:List Int,I b=l->iY b->aQ (bytesOf s) o (eV b)->a=b/\q=o+I (eV b)/\t=aj):=by
 have⟨bF,bs,bz,bC,bD⟩:=eW aE.pN;have an:=bE h;have bV:=aA h;go_enter aE.func73,Tryz.ntmps73;go_wp2_with fail
 go_loopw [5] (λx wr=>∃(a:List Int) (q:Nat) (t:Bool) (e:Option aL) (f:Nat),x=ah e (I a) f/\I a<=200/\(∀g∈a,0<=g/\g<256)/\aT wr (U i.heap) 3 1 (ah e (I a) f) (I a) (cO a)/\q<=s.size/\wr.heap[c]? =K (rb s q t)/\Kp c i wr/\
  (t=aj->iY a)/\((∃b:List Int,I b=l/\iY b/\aQ (bytesOf s) o (eV b))->t=aj/\∃r,oR (bytesOf s) o l a r/\q=o+I r)) (λx wr=>Bz c l x wr)
 exact⟨[],o,aj,Z,0,rfl,aI,λg w=>by simp at w,iS _ _ _ _,cr,bV.o,Kp.refl _ _,λ_ g w=>by simp at w,λ_=>⟨rfl,[],oR.zero _ _ _,aI⟩⟩;obtain⟨a,q,t,e,f,rfl,ao,P,al,am,bm,ae,br,ad⟩:=hrel;have Q:=aA bm;have⟨b0,b1,b2,b6,b7,b8⟩:=nY bm;by_cases a1:I a<l
 .cases t with
  |true=>
   have G:X (¬∃b:List Int,I b=l/\iY b/\aQ (bytesOf s) o (eV b)):=λn=>by have:=(ad n).1;cases this
   go_wp2;go_ret;exact⟨ae,a,_,rfl,ao,P,al,q,af,am,Q.o,λh=>(de h),λb d z A=>absurd ⟨b,d,z,A⟩ G.o⟩
  |false=>
   have ab:=aA Q.o;go_wp2_with fail;refine bG (Mu c q 100 aj s (by omega) bu am Q.o) ?_;rintro D c7 ⟨be,j,bK,bW,rfl,c4,bx,ch,cv⟩;have bP:=aA<|ae.trans be;have bT:=aA<|be.own al an;go_wp2_with fail;refine bG (C4 c bK bW s bu bx ch) ?_;rintro D V ⟨bi,k,B,R,rfl,c1,a3,aU,cn,c5⟩;have a7:=aA<|bP.o.trans bi;have a9:=aA<|bi.own bT.o an;have a6:X ((∃b:List Int,I b=l/\iY b/\aQ (bytesOf s) o (eV b))->j≠0/\k<=1/\R=aj/\∃r,oR (bytesOf s) o l (a++dH j (k:Int)) r/\B=o+I r):=by
    rintro⟨b,bj,bk,bl⟩;have⟨_,r,O,T⟩:=ad ⟨b,bj,bk,bl⟩;have⟨cy,ba,m,bd,ca,cc,cd,aR,L,cW,cZ⟩:=O.next a1 b bj bk bl;rw[<-T] at aR L;have⟨aG,bb,b5⟩:=cv cy aa aR;subst aG;rw[<-bb] at L;have cs:bK<s.size:=by
     have:=o9 L (by rw[cM];exact bx);rw[cM] at this;simp at this;omega
    have⟨bH,c6,cx⟩:=cn cs;rw[mR,bH] at L;simp at L;have ci:(k:Int)=ba:=aa;refine⟨aa,aa,by rw[cx,b5],r++(bh j++[bO ba]),?_,?_⟩;rw[ci];refine O.more aa ca aa cc cd (by rw[<-T];exact aR) (by rw[<-T,<-bb,mR,bH,L]) cl a1;simp;omega
   by_cases c0:j=0\/1<k
   .have⟨b0,b1,b2,b6,b7,b8⟩:=nY aU;have G:X (¬∃b:List Int,I b=l/\iY b/\aQ (bytesOf s) o (eV b)):=λn=>by have⟨d,z,_⟩:=a6.o n;omega
    have C:=aA<|wR aU;have H:X (Kp c i<|aY V ⟨c,2,Z⟩<|ak af):=a7.o.tE;have J:X (aT (aY V ⟨c,2,Z⟩<|ak af) (U i.heap) 3 1 (ah e (I a) f) (I a)<|cO a):=(Kp.tE<|Kp.refl c V).own a9.o an;by_cases bv:j=0
    .subst bv;go_wp2_with fail;generalize aY V ⟨c,2,Z⟩ (ak af)=bL at*
     go_loopw [5,8] (λx p y=>p=z9 0/\x=ah e (I a) f/\y=bL) (λ_ p _=>0-bO (bB p))
     exact⟨rfl,rfl,rfl⟩;obtain⟨rfl,rfl,rfl⟩:=hrel;go_wp2_with fail;refine⟨⟨a,B,af,e,f,rfl,ao,P,J.o,a3,C.o,H.o,λh=>(by cases h),λn=>absurd n G.o⟩,?_⟩;rw[G2 C.o,BA ab.o];omega
    have c2:1<k:=by omega
    have cq:((j:Int)==0)=aj:=bS;have ck:decide ((1:Int)<(k:Int))=af:=bS;go_wp2_with fail;generalize aY V ⟨c,2,Z⟩ (ak af)=bL at*
    go_loopw [5,8] (λx p y=>∃(m:Nat) (e:Option aL) (f:Nat),m<=j/\p=n9 m/\x=ah e (I a+m) f/\aT y (U i.heap) 3 1 (ah e (I a+m) f) (I a+m) (cO<|a++dH m (k:Int))/\y.heap[c]? =K (rb s B af)/\Kp c i y) (λ_ p _=>j-bO (bB p))
    exact⟨0,e,f,cH _,rfl,rfl,cN J.o,C.o,H.o⟩;obtain⟨m,e,f,cp,rfl,rfl,u,N,M⟩:=hrel;have aC:=aA N;have a8:=aA M;have cu:=M.size;by_cases co:m<j
    .go_wp2_with (at_builtin;refine jR Y _ _ 22 Y (U i.heap) 3 bF (z9 0) 1 8 aE.underlying22 bs bz bC bD Y az _ (I a+m) _ Y (lE u _) ⟨U wr.heap,0,Z⟩ 1 1 [n9 k] Y az Y (pU _) vq (by unfold aV;omega) (by omega) (by simp;omega) ?_;intro cA W E a0);have S:=dx.append a0;have ar:X (Kp c i W):=a8.o.grown S.dK λaH n=>(u.lt aH n).1;have aw:X (W.heap[c]? =K (rb s B af)):=by
      show _=_;rw[S.dK.block c (by omega) (λD=>by have:=(u.lt c<|bq D).1;omega)];exact aC.o
     rw[C6] at E;have⟨aD,aF,a4⟩:=tv E;subst a4;refine⟨⟨m+1,aD,aF,aa,by go_num,by rw[gH],by rw[<-gH];exact E,aw.o,ar.o⟩,by simp[bB];omega⟩
    obtain rfl:m=j:=by omega
    have a2:∀g∈a++dH m (k:Int),0<=g/\g<256:=by
     intro g w;rcases eP.1 w with d|d;exact P g d;rw[(List.mem_replicate.1 d).2];omega
    have bQ:=aA a2;go_wp2_with fail;refine⟨⟨a++dH m (k:Int),B,af,e,f,aI,bS,bQ.o,cN u,a3,aC.o,a8.o,?_,?_⟩,?_⟩;intro h;cases h;intro n;exact absurd n G.o;rw[G2 aC.o,BA ab.o];omega
   have bv:j≠0:=aa;have cq:((j:Int)==0)=aj:=bS;have ck:decide ((1:Int)<(k:Int))=aj:=bS;have J:=aA a9.o;have C:=aA aU;have H:=aA a7.o;go_wp2_with fail
   go_loopw [5,8] (λx p y=>∃(m:Nat) (e:Option aL) (f:Nat),m<=j/\p=n9 m/\x=ah e (I a+m) f/\aT y (U i.heap) 3 1 (ah e (I a+m) f) (I a+m) (cO<|a++dH m (k:Int))/\y.heap[c]? =K (rb s B R)/\Kp c i y) (λ_ p _=>j-bO (bB p))
   exact⟨0,e,f,cH _,rfl,rfl,cN J.o,C.o,H.o⟩;obtain⟨m,e,f,cp,rfl,rfl,u,N,M⟩:=hrel;have cu:=M.size
   skip
   by_cases co:m<j
   .go_wp2_with (at_builtin;refine jR Y _ _ 22 Y (U i.heap) 3 bF (z9 0) 1 8 aE.underlying22 bs bz bC bD Y az _ (I a+m) _ Y (lE u _) ⟨U wr.heap,0,Z⟩ 1 1 [n9 k] Y az Y (pU _) vq (by unfold aV;omega) (by omega) (by simp;omega) ?_;intro cA W E a0);have S:=dx.append a0;have ar:X (Kp c i W):=M.grown S.dK λaH n=>(u.lt aH n).1;have aw:X (W.heap[c]? =K (rb s B R)):=by
     show _=_;rw[S.dK.block c (by omega) (λD=>by have:=(u.lt c<|bq D).1;omega)];exact N
    rw[C6] at E;have⟨aD,aF,a4⟩:=tv E;subst a4;refine⟨⟨m+1,aD,aF,aa,by go_num,by rw[gH],by rw[<-gH];exact E,aw.o,ar.o⟩,by simp[bB];omega⟩
   obtain rfl:m=j:=aa;have a2:∀g∈a++dH m (k:Int),0<=g/\g<256:=by
    intro g w;rcases eP.1 w with d|d;exact P g d;rw[(List.mem_replicate.1 d).2];omega
   skip
   go_wp2_with fail;refine⟨⟨a++dH m (k:Int),B,R,e,f,aI,bS,a2,cN u,a3,N,M,?_,?_⟩,?_⟩;intro bo g w;rcases eP.1 w with d|d;exact br (by trivial) g d;rw[(List.mem_replicate.1 d).2];omega;intro n;have⟨d,z,A,cf⟩:=a6.o n;exact⟨A,cf⟩;cases R with
   |true=>rw[G2 N,BA ab.o];omega
   |false=>rw[BA N,BA ab.o];omega
 .by_cases c3:l<I a
  .have G:X (¬∃b:List Int,I b=l/\iY b/\aQ (bytesOf s) o (eV b)):=λn=>by
    have⟨_,r,O,_⟩:=ad n;have:=O.le;omega
   have C:=aA<|wR Q.o;have H:X (Kp c i<|aY wr ⟨c,2,Z⟩<|ak af):=ae.tE;have J:X (aT (aY wr ⟨c,2,Z⟩<|ak af) (U i.heap) 3 1 (ah e (I a) f) (I a)<|cO a):=(Kp.tE<|Kp.refl c wr).own al an;go_wp2;go_ret;exact⟨H.o,a,_,rfl,ao,P,J.o,q,af,am,C.o,λh=>(by cases h),λb d z A=>absurd ⟨b,d,z,A⟩ G.o⟩
  have bM:X (I a=l):=by show _=_;omega
  go_wp2;go_ret;refine⟨ae,a,_,rfl,ao,P,al,q,t,am,Q.o,λbo=>⟨bM.o,br bo⟩,?_⟩;intro b d z A;have⟨bd,r,O,T⟩:=ad ⟨b,d,z,A⟩;have⟨cK,b3,b4⟩:=O.done a1;have aG:=b4 b d z A;subst aG;exact⟨rfl,by rw[b3];exact T,bd⟩
def AP (s:ByteArray)(f k i:Nat)(e j:Int)(g:ag)(l:gN)(c:ag):Prop:=Kp f g c/\∃(a:List aC) (v:F),l=aN v/\I a<=200/\(∀d∈a,VR d)/\aT c (U g.heap) 59 3 v (I a) (bM a)/\
 zi s f c (λm h=>∀b:List aC,I b=i->(∀d∈b,VK e d)->aQ (bytesOf s) k (jB e j b)->a=b/\h=aj)
def T_(L:M=1\/M=2\/M=3){s:ByteArray}(aw:s.size<=aV)(a6:i<=100)(aD:k<=s.size)(h:w.heap[n]? =K (rb s k aj)):
 bc 74 #[(aK n),z9 M,z9 0,z9 i] w λq a4=>AP s n k i M 0 w q a4:=by
 have⟨a2,an,aU,a0,a1⟩:=eW aE.mg;have aG:=bE h;have W:=aA h;go_enter aE.func74,Tryz.ntmps74;go_wp2_with fail
 go_loopw [9,10] (λa3 D wr=>∃(a:List aC) (e:Nat) (f:Bool),I a<=i/\D=n9 (I a)/\(∀c∈a,VR c)/\aT wr (U w.heap) 59 3 a3 (I a) (bM a)/\e<=s.size/\wr.heap[n]? =K (rb s e f)/\Kp n w wr/\
  ((∃d:List aC,I d=i/\(∀c∈d,VK M c)/\aQ (bytesOf s) k (dQ M d))->jL (dQ M) (VK M) (bytesOf s) k i a/\e=k+I (dQ M a)/\f=aj)) (λ_ D _=>i-bO (bB D))
 exact⟨[],k,aj,cH _,rfl,λc B=>by simp at B,iS _ _ _ _,aD,W.o,Kp.refl _ _,λ_=>⟨jL.zero Y,by simp[dQ],rfl⟩⟩;obtain⟨a,e,f,a7,rfl,P,z,O,G,u,F⟩:=hrel;have a8:=u.size
 skip
 by_cases y:I a<i
 .go_wp2_with (first
   |(go_at_call 104;refine bG (Mw M L n e f s wr aw O G) ?_;rintro q R ⟨x,c,rfl,B,ad⟩;have A:=x.own z aG;have a9:=x.size;have V:=aA<|u.trans x)
   |(at_builtin;refine jR Y _ _ 43 Y (U w.heap) 59 a2 _ 3 32 aE.underlying43 an aU a0 a1 Y az _ (I a) _ Y ((A.alloc _).alloc _) ⟨U R.heap+1,0,Z⟩ 1 1 [ak c.null,z9 c.n,ay c.s] Y az Y (by simpa using lU<|R.alloc _) (lz c) (by unfold aV;omega) aa bS ?_;intro bd S N am))
  have J:=dx.box<|dx.append am;rw[nH] at N;have⟨Q,E,aF,H,aR⟩:=ad;have al:S.heap[n]? =K (rb s Q E):=by
   rw[J.dK.block n (bE H) λX=>cA<|(A.lt n<|bq X).1];exact H
  have ae:Kp n w S:=V.o.grown J.dK λab h=>(A.lt ab h).1;refine⟨⟨a++[c],Q,E,bS,aI,?_,cN N,aF,al,ae,?_⟩,by simp[bB];omega⟩;intro T C;rcases eP.1 C with b|b;exact P T b;simp at b;rw[b];exact B
  .rintro⟨d,b,j,l⟩;have⟨p,g,t⟩:=F ⟨d,b,j,l⟩;have⟨q,m,a5,r,o⟩:=p.next (e:=λ_ v=>dc M v) (ur M) y d b j l;rw[<-g] at o;have⟨u1,u2,u3⟩:=aR q r o;subst u1;refine⟨p.more (e:=λ_ v=>dc M v) (ur M) y r (by rw[<-g];exact o) λT C aH=>wO L C r aH<|by rw[<-g];exact o,?_,by rw[u3,t]⟩;rw[u2,g,ur,cJ,gH]
 have ao:I a=i:=aa;have⟨ba,bb,ar⟩:=tv z;subst ar
 skip
 go_wp2;go_ret;refine⟨u,a,_,rfl,jC ao,P,z,e,f,O,G,?_⟩;intro d b j l;have⟨p,g,t⟩:=F ⟨d,b,j,l⟩;exact⟨bq<|(p.done y).2 d b j l,t⟩
def acg:VR (mS M qB):=⟨rfl,⟨(uF _).1,(uF _).2⟩,by show bg (⟨#[]⟩:ByteArray)<=32;decide⟩
def acf(a:aC)(hx:VK 1 a):mS M (uz<|zz<|cY<|a.n-M)=a:=by
 rw[Ax];unfold mS;rw[HV M hx.lo hx.hi Y];have b:=hx.there;have c:=hx.s1 Y;cases a;simp at b c;simp[b,c]
def U_{s:ByteArray}(aw:s.size<=aV)(bb:i<=100)(aF:k<=s.size)(h:w.heap[n]? =K (rb s k aj)):
 bc 74 #[(aK n),z9 1,z9 1,z9 i] w λe R=>AP s n k i 1 1 w e R:=by
 have⟨a6,an,a3,a4,a5⟩:=eW aE.mg;have aH:=bE h;have W:=aA h;have q:=aA<|ET 0;go_enter aE.func74,Tryz.ntmps74;go_wp2_with fail
 go_loopw [9,12,13] (λa8 a7 E wr=>∃(a:List aC) (f:Nat) (g:Bool),I a<=i/\E=n9 (I a)/\a7=z9 (fQ 0 a)/\(∀p∈a,VR p)/\aT wr (U w.heap) 59 3 a8 (I a) (bM a)/\f<=s.size/\wr.heap[n]? =K (rb s f g)/\Kp n w wr/\
  ((∃d:List aC,I d=i/\(∀p∈d,VK 1 p)/\aQ (bytesOf s) k (fG 0 d))->jL (fG 0) (VK 1) (bytesOf s) k i a/\f=k+I (fG 0 a)/\g=aj)) (λ_ _ E _=>i-bO (bB E))
 exact⟨[],k,aj,cH _,rfl,rfl,λp a2=>by simp at a2,iS _ _ _ _,aF,W.o,Kp.refl _ _,λ_=>⟨jL.zero Y,by simp[fG],rfl⟩⟩;obtain⟨a,f,g,bd,rfl,rfl,O,B,N,H,y,G⟩:=hrel;have be:=y.size
 skip
 by_cases A:I a<i
 .go_wp2_with (first
   |(go_at_call 108;refine bG (Y_ n f g s wr aw N H) ?_;rintro e a9 ⟨z,c,P,F,rfl,aD,aG,J,aU⟩;have C:=z.own B aH;have bi:=z.size;have V:=aA<|y.trans z)
   |(go_at_call 109;refine bG (On c _ aD) ?_;rintro e R ⟨a0,rfl⟩;rw[a0])
   |(at_builtin;refine jR Y _ _ 43 Y (U w.heap) 59 a6 _ 3 32 aE.underlying43 an a3 a4 a5 Y az _ (I a) _ Y (lE C _) ⟨U a9.heap,0,Z⟩ 1 1 [ak aj,z9<|cY<|fQ 0 a+uz c,ay ⟨#[]⟩] Y az Y (lU _) (lz<|mS (fQ 0 a)<|uz c) fW aa bS ?_;intro bl S M am))
  have L:=dx.append am;rw[show[ak aj,z9<|cY<|fQ 0 a+uz c,ay ⟨#[]⟩]=[ak (mS (fQ 0 a)<|uz c).null,z9 (mS (fQ 0 a)<|uz c).n,ay (mS (fQ 0 a)<|uz c).s] from rfl,(nH a<|mS (fQ 0 a)<|uz c)] at M;have al:S.heap[n]? =K (rb s P F):=by
   rw[L.dK.block n (bE J) λX=>cA<|(C.lt n<|bq X).1];exact J
  have ae:Kp n w S:=V.o.grown L.dK λad h=>(C.lt ad h).1;refine⟨⟨a++[mS (fQ 0 a)<|uz c],P,F,bS,aI,by rw[FO];rfl,?_,cN M,aG,al,ae,?_⟩,by simp[bB];omega⟩;intro T D;rcases eP.1 D with b|b
  .exact O T b
  .simp at b;rw[b];exact acg
  .rintro⟨d,b,j,l⟩;have⟨o,u,x⟩:=G ⟨d,b,j,l⟩;have⟨e,m,ba,r,t⟩:=o.next (e:=λa v=>bh<|zz<|cY<|v.n-fQ 0 a) q.o A d b j l;have ab:aQ (bytesOf s) f (bh<|zz<|cY<|e.n-fQ 0 a):=bV u t;have Q:=uF<|e.n-fQ 0 a;have⟨u1,u2,u3⟩:=aU _ (vJ Q.1 Q.2) ab;have a1:mS (fQ 0 a) (uz c)=e:=by rw[u1];exact acf e r
   rw[a1];refine⟨o.more (e:=λa v=>bh<|zz<|cY<|v.n-fQ 0 a) q.o A r t λT D aR=>JA D r aR t,?_,by rw[u3,x]⟩;rw[u2,u,q.o,cJ,gH]
 have ao:I a=i:=aa;have⟨bj,bk,ar⟩:=tv B;subst ar
 skip
 go_wp2;go_ret;refine⟨y,a,_,rfl,jC ao,O,B,f,g,N,H,?_⟩;intro d b j l;have⟨o,u,x⟩:=G ⟨d,b,j,l⟩;exact⟨bq<|(o.done A).2 d b j l,x⟩
def W_{s:ByteArray}(N:s.size<=aV)(G:k<=100)(P:m<=s.size)(h:w.heap[n]? =K (rb s m aj)):
 bc 74 #[(aK n),z9 2,z9 3,z9 k] w λu aH=>AP s n m k 2 3 w u aH:=by
 have⟨aw,L,W,ab,ad⟩:=eW aE.mg;have x:=aA h;go_enter aE.func74,Tryz.ntmps74;go_wp2_with fail;refine bG (MJ s n m k _ N G P x.o) ?_;rintro u j ⟨o,b,v,rfl,al,am,O,E⟩;obtain⟨a0,r,t,a1,rfl,an,ao,ar⟩:=iE.gB O;have S:=o.size;go_wp2_with fail
 go_loopw [9,23] (λaF i wr=>∃a:Nat,a<=I b/\i=n9 a/\aT wr (U j.heap) 59 3 aF a (bM<|(b.take a).map rC)/\aD j wr) (λ_ i _=>I b-bO (bB i))
 exact⟨0,cH _,rfl,by simpa [bM] using iS _ _ _ _,bN _ _⟩;obtain⟨a,aU,rfl,e,d⟩:=hrel;have R:=d.size
 skip
 by_cases g:a<I b;obtain rfl:=an aa;have F:=ao aa;have aR:ap wr ⟨r,t+a,Z⟩=K (aJ aM<|aW b a 0):=(bA d (p:=⟨r,t+a,Z⟩) F).trans<|ar a g;have y:X (bM ((b.take a).map rC)++[ak aj,z9<|aW b a 0,ay ⟨#[]⟩]=bM ((b.take<|a+1).map rC)):=by
  show _=_;rw[gm g,gD,rZ,<-nH,lO g];rfl
 generalize aW b a 0=c at*;go_wp2_with (at_builtin;refine jR Y _ _ 43 Y (U j.heap) 59 aw _ 3 32 aE.underlying43 L W ab ad Y az _ a _ Y (lE e _) ⟨U wr.heap,0,Z⟩ 1 1 [ak aj,z9 c,ay ⟨#[]⟩] Y az Y (lU _) (lz ⟨aj,c,⟨#[]⟩⟩) fW aa bS ?_;intro a4 a5 q J);have H:=dx.append J;rw[y.o] at q;refine⟨⟨a+1,aa,by go_num,q,d.trans<|H.below (λA h=>(e.lt A h).1) R⟩,by simp[bB];omega⟩;obtain rfl:a=I b:=aa;rw[jq] at e;have⟨a2,a3,M⟩:=tv e;subst M;go_wp2;go_ret;have⟨aG,z,Q,p,aI,T⟩:=E;refine⟨o.trans<|Kp.iW d,b.map rC,_,rfl,by simpa using al,?_,by rw[er];exact j5 e S,aG,z,Q,by rw[cT d n<|bE p];exact p,?_⟩;intro a6 V;obtain⟨c,ae,rfl⟩:=jW.1 V;have:=am c ae;exact⟨rfl,⟨by show _<=c;omega,by show c<=_;omega⟩,by show(⟨#[]⟩:ByteArray).size<=32;decide⟩;intro f B l C;have D:aQ (bytesOf s) m (eV<|f.map aC.n):=C;have⟨u1,u2,u3⟩:=T (f.map aC.n) (by rw[er];exact B) (HM f l) D;exact⟨by rw[u1,IQ f l],u3⟩
def OV(b:Nat)(a:List Nat)(d:∀f∈a,f<2^b):D b (V<|iM b a) (I a)=a:=by
 have c:=D9 b a d;have e:V (iM b a)=N b a:=by
  rw[Eg,iM,zg,s7];exact cL c<|om (by omega)<|Cr b<|I a
 refine Iq b _ _ AK d xj ?_;rw[zg,e,s7 c]
def TQ{s:ByteArray}{b:List aC}(h:aC)(t:m<=100)(hL:I b=m)(l:∀c∈b,VK M c)(d:aQ (bytesOf s) n (gq M b)):
 ∃(a:List aC) (e:List Nat),I a<=m/\(∀c∈a,VK M c)/\I e=m/\(∀c∈e,c<I a)/\b=e.map (λp=>aW a p h)/\aQ (bytesOf s) n (bh<|I a)/\aQ (bytesOf s) (n+I (bh<|I a)) (dQ M a)/\
  aQ (bytesOf s) (n+I (bh<|I a)+I (dQ M a)) (iM (wid<|I a) e):=by
 obtain⟨q,r,i⟩:=EV b h;obtain⟨j,k,f,g⟩:=wE b (I b)<|aZ _;rw[jq] at j k f g;unfold gq at d;rw[dw,dw] at d;exact⟨(dfold b).1,(dfold b).2,by omega,λc o=>l c<|g c o,by omega,f,bq i,d.1,d.2.1,d.2.2⟩
def x_(d a b:Nat)(e:Bool)(s:ByteArray)(f:ag)(l:bg s<=aV)(q:b<=1000000)(m:a<=bg s)(c:f.heap[d]? =K (rb s a e)):
 bc 100 #[(aK d),n9 b] f λh g=>Kp d f g/\∃k:ByteArray,h=aN (ay k)/\bg k<=aV/\zi s d g (λp n=>a+b<=bg s->k=fw s a (a+b)/\p=a+b/\n=e):=by
 by_cases j:a+b<=bg s;refine bG (Dt d a b e s f l j c) ?_;rintro h g ⟨i,rfl,c⟩;exact⟨i,_,rfl,by rw[tN];omega,a+b,e,j,c,λ_=>⟨rfl,rfl,rfl⟩⟩;refine bG (Ds d a (b:Int) e s f l (by omega) (by omega) m (ai<|by omega) c) ?_;rintro h g ⟨i,rfl,c⟩;exact⟨i,_,rfl,by unfold aV;decide,a,af,m,c,λo=>absurd o j⟩
def V_(cr:M=1\/M=2\/M=3){s:ByteArray}(bs:s.size<=aV)(br:i<=100)(el:k<=s.size)(h:w.heap[n]? =K (rb s k aj)):
 bc 74 #[(aK n),z9 M,z9 2,z9 i] w λf u=>AP s n k i M 2 w f u:=by
 have⟨c0,O,cA,cK,cN⟩:=eW aE.mg;have cx:=bE h;have b6:=aA h;clear h;go_enter aE.func74,Tryz.ntmps74;go_wp2_with fail;refine bG (Mu n k 100 aj s (by omega) bs el b6.o) ?_;rintro f c9 ⟨bl,T,aG,bb,rfl,e7,em,cn,eC⟩;have b0:X (Kp n w c9):=bl;have b7:X (c9.heap[n]? =K (rb s aG bb)):=cn;have fa:=bl.size;clear bl cn b6;go_wp2_with fail
 go_loopw [16,17] (λdC L wr=>∃(b:List aC) (e:Nat) (z:Bool),I b<=T/\L=n9 (I b)/\(∀c∈b,VR c)/\aT wr (U w.heap) 59 3 dC (I b) (bM b)/\e<=s.size/\wr.heap[n]? =K (rb s e z)/\Kp n w wr/\
  ((bb=aj/\∃D:List aC,I D=T/\(∀c∈D,VK M c)/\aQ (bytesOf s) aG (dQ M D))->jL (dQ M) (VK M) (bytesOf s) aG T b/\e=aG+I (dQ M b)/\z=aj)) (λ_ L _=>T-bO (bB L))
 case atStart=>exact⟨[],aG,bb,cH _,rfl,λc R=>by simp at R,iS _ _ _ _,em,b7.o,b0.o,λh=>⟨jL.zero Y,by simp[dQ],h.1⟩⟩
 case round=>
  clear b7 b0;obtain⟨b,e,z,e4,rfl,Q,bu,J,cl,bk,ch⟩:=hrel;have ca:=aA Q;have e9:=bk.size;clear Q;by_cases a5:I b<T
  .go_wp2_with (first
    |(go_at_call 104;refine bG (Mw M cr n e z s wr bs J cl) ?_;rintro f E ⟨G,c,rfl,R,a0⟩;have bv:=G.own bu cx;have et:=G.size;have ab:=aA<|bk.trans G;have dw:=aA R;have db:=aA a0;clear R a0 G)
    |(at_builtin;refine jR Y _ _ 43 Y (U w.heap) 59 c0 _ 3 32 aE.underlying43 O cA cK cN Y az _ (I b) _ Y ((bv.alloc _).alloc _) ⟨U E.heap+1,0,Z⟩ 1 1 [ak c.null,z9 c.n,ay c.s] Y az Y (by simpa using lU<|E.alloc _) (lz c) (by unfold aV;omega) aa bS ?_;intro fB x cu d9))
   have o:=dx.box<|dx.append d9;rw[nH] at cu;have⟨a6,aR,eo,co,bz⟩:=db.o;have an:x.heap[n]? =K (rb s a6 aR):=by
    rw[o.dK.block n (bE co) (λl=>by have:=(bv.lt n<|bq l).1;omega)];exact co
   have d0:Kp n w x:=ab.o.grown o.dK λbj h=>(bv.lt bj h).1;refine⟨⟨b++[c],a6,aR,bS,aI,?_,by simpa using cu,eo,an,d0,?_⟩,by simp[bB];omega⟩
   .intro q bF;rcases eP.1 bF with j|j
    .exact ca.o q j
    .simp at j;rw[j];exact dw.o
   .rintro⟨ae,a,j,A,F⟩;have⟨B,t,N⟩:=ch ⟨ae,a,j,A,F⟩;have⟨f,m,cd,bi,aU⟩:=B.next (e:=λ_ v=>dc M v) (ur M) a5 a j A F;rw[<-t] at aU;have⟨u1,u2,u3⟩:=bz f bi aU;subst u1;refine⟨B.more (e:=λ_ v=>dc M v) (ur M) a5 bi (by rw[<-t];exact aU) λq bF es=>wO cr bF bi es<|by rw[<-t];exact aU,?_,by rw[u3,N]⟩;rw[u2,t,ur,cJ,gH]
  .have d6:I b=T:=by omega
   subst d6;have⟨e0,cW,d8⟩:=tv bu;subst d8;have ba:X (∀w,bc 110 #[n9<|I b] w λl u=>l=aN (z9<|wid<|I b)/\u=w):=λw=>Oy (I b) aa w;have cy:=AB<|I b;have bW:X ((∃a:List aC,I a=i/\(∀c∈a,VK M c)/\aQ (bytesOf s) k (gq M a))->z=aj/\∃d:List Nat,I d=i/\(∀f∈d,f<I b)/\aQ (bytesOf s) e (iM (wid<|I b) d)/\
    ∀a:List aC,I a=i->(∀c∈a,VK M c)->aQ (bytesOf s) k (gq M a)->a=d.map (λe=>aW b e ⟨aj,0,⟨#[]⟩⟩)):=by
    have c4:∀a:List aC,I a=i->(∀c∈a,VK M c)->aQ (bytesOf s) k (gq M a)->z=aj/\∃d:List Nat,I d=i/\(∀f∈d,f<I b)/\aQ (bytesOf s) e (iM (wid<|I b) d)/\a=d.map (λe=>aW b e ⟨aj,0,⟨#[]⟩⟩):=by
     intro a j A F;have⟨bh,d,ft,c5,eO,eQ,eR,eS,bL,c6⟩:=TQ ⟨aj,0,⟨#[]⟩⟩ br j A F;have⟨u1,u2,u3⟩:=eC (I bh) aa eS;rw[<-u2] at bL c6;have⟨B,t,N⟩:=ch ⟨u3,bh,bq u1,c5,bL⟩;have cd:=(B.done<|by omega).2 bh (bq u1) c5 bL;subst cd;exact⟨N,d,eO,eQ,by rw[t];exact c6,eR⟩
    rintro⟨a,j,A,F⟩;have⟨eF,d,c1,c2,c3,fk⟩:=c4 a j A F;refine⟨eF,d,c1,c2,c3,?_⟩;intro dy dO dP al;have⟨_,eU,eG,eJ,eK,eL⟩:=c4 dy dO dP al;have cp:∀(p:List Nat),(∀f∈p,f<I b)->∀f∈p,f<2^wid (I b):=λp h f aw=>AA (by omega) f<|h f aw;have bP:=(z8 s e (wid<|I b) d J (cp _ c2) c3).2;have c7:=(z8 s e (wid<|I b) eU J (cp _ eJ) eK).2;rw[c1] at bP;rw[eG] at c7;rw[c7] at bP;rw[eL,bP]
   have ej:wid (I b)*i<=700:=dW (s8 cy br) aa;have de:X (∀f,f<I b->f<2^wid (I b)):=λf aw=>AA (by omega) f aw;generalize wid (I b)=r at*;obtain⟨ad,a1⟩:∃ad,r*i=ad:=⟨_,rfl⟩;have d3:(r:Int)*(i:Int)=(ad:Int):=by rw[<-a1];push_cast;rfl
   rw[a1] at ej;obtain⟨y,ck⟩:∃y,y=(ad+7)/8:=⟨_,rfl⟩;have d2:((ad:Int)+7)/8=(y:Int):=aa;have b2:X (y=(i*r+7)/8):=by show _=_;rw[ck,<-a1,uV]
   have e2:y<=1000:=by omega
   have b8:X (bc 100 #[(aK n),n9 y] wr λl u=>Kp n wr u/\∃bQ:ByteArray,l=aN (ay bQ)/\bQ.size<=aV/\zi s n u (λa6 aR=>e+y<=s.size->bQ=fw s e (e+y)/\a6=e+y/\aR=z)):=x_ n e y z s wr bs aa J cl;clear ck a1;go_wp2_with (go_at_call 110;refine bG (ba.o _) ?_;rintro f u ⟨rfl,ar⟩;rw[ar];clear ar u);refine bG b8.o ?_;rintro f E ⟨G,C,rfl,eB,a0⟩;have ab:=aA<|bk.trans G;have b4:=aA<|G.own bu cx;have et:=ab.o.size;clear G b8;have b3:X (bc 111 #[ay C,n9 r,n9 i] E λl u=>∃v,l=aN v/\aT u (U E.heap) 3 1 v i (cO<|lm<|D r (V<|bytesOf C) i)/\aD E u):=Xv C r i E eB aa br;go_wp2_with (go_at_call 110;refine bG (ba.o _) ?_;rintro f u ⟨rfl,ar⟩;rw[ar];clear ar u);refine bG b3.o ?_;rintro f x ⟨nv,rfl,bx,a2⟩;have⟨a7,bd,eq,an,cq⟩:=a0;have dq:X (x.heap[n]? =K (rb s a7 bd)):=by show _=_;rw[a2.block n<|bE an];exact an
   have b1:=aA<|ab.o.trans<|Kp.iW a2;have b5:=aA<|fc b4.o a2;have a8:X ((∃a:List aC,I a=i/\(∀c∈a,VK M c)/\aQ (bytesOf s) k (gq M a))->bd=aj/\(∀f∈D r (V<|bytesOf C) i,f<I b)/\∀a:List aC,I a=i->(∀c∈a,VK M c)->aQ (bytesOf s) k (gq M a)->a=(D r (V<|bytesOf C) i).map (λe=>aW b e ⟨aj,0,⟨#[]⟩⟩)):=by
    intro o;have⟨B,d,t,N,cf,dL⟩:=bW.o o;have cs:=o9 cf (by rw[cM];exact J);rw[wN,t,cM,<-b2.o] at cs;have⟨eV,fy,eX⟩:=cq cs;have d5:bytesOf C=iM r d:=by
     rw[eV,nu,show e+y-e=y by omega];refine uA (B:=bytesOf s) (p:=e) (List.take_prefix _ _) cf ?_;rw[ng,uT,cM,wN,t,<-b2.o];omega
    have dS:D r (V<|bytesOf C) i=d:=by
     rw[d5,<-t];exact OV r d λf aw=>de.o f<|N f aw
    rw[dS];exact⟨by rw[eX,B],N,dL⟩
   have am:I (D r (V<|bytesOf C) i)=i:=xj;have dT:∀e∈D r (V<|bytesOf C) i,e<128:=λe J=>by
    have j:=AK e J;have A:2^r<=2^7:=om aa cy;omega
   generalize D r (V<|bytesOf C) i=d at*;have a3:I (lm d)=i:=by rw[<-am];simp[lm]
   obtain⟨fd,aF,cZ,fg,rfl,bH,eE,bK⟩:=iE.gB (show aT x (U E.heap) 3 1 nv (I<|lm d) (cO<|lm d) by rw[a3];exact bx);rw[a3] at bH eE bK ⊢;have dg:X (∀g,(O:g<I d)->ap x ⟨aF,cZ+g,Z⟩=K (n9<|d[g])):=λg O=>by
    have j:=bK g (by rw[<-am];exact O);rw[lO<|by rw[a3,<-am];exact O] at j;simpa [lm] using j
   have cc:=aA<|je.gB b5.o;have⟨fD,W,bT,fG,c8,Q⟩:=cc.o;simp only[j9] at c8;obtain⟨rfl,_,rfl⟩:=c8;have du:=aA Q;have ew:=b1.o.size;have di:X (0<i->U E.heap<=aF):=λae=>(bx.lt aF (by rw[bH ae];rfl)).1;have dt:X (0<I b->U w.heap<=W):=λae=>(b5.o.lt W (by rw[Q.addr ae];rfl)).1;clear bx a2 an cq ab b4 bK Q cc b3 ba bW d3 d2 a3;go_wp2_with fail
   go_loopw [9,21] (λeM L bV=>∃(g:Nat) (p:List aC) (z:Bool),g<=i/\L=n9 g/\I p<=g/\(∀c∈p,VR c)/\aT bV (U x.heap) 59 3 eM (I p) (bM p)/\bV.heap[n]? =K (rb s a7 z)/\Kp n x bV/\
    ((∃a:List aC,I a=i/\(∀c∈a,VK M c)/\aQ (bytesOf s) k (gq M a))->p=(d.take g).map (λe=>aW b e ⟨aj,0,⟨#[]⟩⟩)/\z=aj)) (λ_ L _=>i-bO (bB L))
   case atStart=>exact⟨0,[],bd,cH _,rfl,aZ _,λc R=>by simp at R,iS _ _ _ _,dq.o,Kp.refl _ _,λo=>⟨aI,(a8.o o).1⟩⟩
   case round=>
    obtain⟨g,p,be,e5,rfl,e6,bD,P,bo,bm,ci⟩:=hrel;have aH:=aA bo;have H:X (Kp n x wr):=bm;have a9:=aA ci;have fb:=bm.size;have⟨dz,dA,eZ,dE,dJ,e1⟩:=nY bo;clear bo ci bm dz dA dE dJ;by_cases a5:g<i
    .have a4:g<I d:=by rw[am];exact a5
     have ed:=bH (by omega);have ec:aF≠n:=by have:=di.o aa;omega
     have e3:ap wr ⟨aF,cZ+g,Z⟩=K (aJ aM (d[g]:Int)):=D4 H.o (dg.o g a4) (λl=>ec<|by cases l;rfl);have e8:=dT _<|dm a4;have ds:X ((d.take<|g+1).map (λe=>aW b e ⟨aj,0,⟨#[]⟩⟩)=(d.take g).map (λe=>aW b e ⟨aj,0,⟨#[]⟩⟩)++[aW b d[g] ⟨aj,0,⟨#[]⟩⟩]):=by
      show _=_;rw[gm a4,gD,rZ]
     have dl:X ((∃a:List aC,I a=i/\(∀c∈a,VK M c)/\aQ (bytesOf s) k (gq M a))->d[g]<I b):=λo=>(a8.o o).2.1 _<|dm a4;rw[ed] at*;generalize d[g]=q at*;by_cases S:q<I b
     .have ao:=du.o;have d7:=ao.addr (by omega);have bC:W≠n:=by have:=dt.o aa;omega
      have fu:ap wr ⟨W,bT+q*3,Z⟩=K (ak b[q].null):=D4 H.o (ao.c0 q S) (λl=>bC<|by cases l;rfl);have fv:ap wr ⟨W,bT+q*3+1,Z⟩=K (aJ aM b[q].n):=D4 H.o (ao.c1 q S) (λl=>bC<|by cases l;rfl);have fx:ap wr ⟨W,bT+q*3+2,Z⟩=K (ay b[q].s):=D4 H.o (ao.c2 q S) (λl=>bC<|by cases l;rfl);have dv:=aA<|ca.o _<|dm S;have df:X (aW b q ⟨aj,0,⟨#[]⟩⟩=b[q]):=by show _=_;simp[aW,S]
      rw[d7] at*;generalize b[q]=c at*;clear ao;go_wp2_with (at_builtin;refine jR Y _ _ 43 Y (U x.heap) 59 c0 _ 3 32 aE.underlying43 O cA cK cN Y az _ (I p) _ Y (P.alloc _) ⟨U wr.heap,0,Z⟩ 1 1 [ak c.null,z9 c.n,ay c.s] Y az Y (lU _) (lz c) (by unfold aV;omega) aa bS ?_;intro fC da cv eb);have o:=dx.append eb;rw[nH] at cv;have d4:da.heap[n]? =K (rb s a7 be):=by
       rw[o.dK.block n (bE aH.o) (λl=>by have:=(P.lt n<|bq l).1;omega)];exact aH.o
      have d1:Kp n x da:=H.o.grown o.dK λbj h=>(P.lt bj h).1;refine⟨⟨g+1,p++[c],be,aa,by go_num,bS,?_,by simpa using cv,d4,d1,?_⟩,by simp[bB];omega⟩
      .intro eY bz;rcases eP.1 bz with j|j
       .exact bD eY j
       .simp at j;rw[j];exact dv.o
      .intro o;have⟨B,t⟩:=a9.o o;exact⟨by rw[ds.o,df.o,B],t⟩
     .have dd:X (¬∃a:List aC,I a=i/\(∀c∈a,VK M c)/\aQ (bytesOf s) k (gq M a)):=λo=>S<|dl.o o;have dr:=aA<|wR aH.o;have dk:X (Kp n x<|aY wr ⟨n,2,Z⟩<|ak af):=H.o.tE;have dp:X (aT (aY wr ⟨n,2,Z⟩<|ak af) (U x.heap) 59 3 u9 (I p)<|bM p):=(Kp.tE<|Kp.refl n wr).own P aa;go_wp2_with fail;refine⟨⟨g+1,p,af,by omega,by go_num,aa,bD,dp.o,dr.o,dk.o,λo=>absurd o dd.o⟩,by simp[bB];omega⟩
    .obtain rfl:g=i:=by omega
     have⟨fl,fr,eh⟩:=tv P;subst eh;have eA:d.take g=d:=iF (by rw[am];omega);rw[eA] at a9;go_wp2;go_ret;refine⟨b1.o.trans H.o,p,_,rfl,by omega,bD,j5 P ew,a7,be,eq,aH.o,?_⟩;intro a j A F;have al:aQ (bytesOf s) k (gq M a):=F;have⟨B,t⟩:=a9.o ⟨a,j,A,al⟩;exact⟨by rw[B];exact bq<|(a8.o ⟨a,j,A,al⟩).2.2 a j A al,t⟩
end Ec
end Go.Proofs.YtjidbonhhpkljaaGreat
